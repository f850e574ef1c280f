import PyProof.Rows.All
import Wide.All
import OpenK.AllK
import Wide.FinOn
import Lean
import PyProof.EqAt
import PyProof.EqKinds
import PyProof.TupleCall
import PySem.Challenge.RW_treewells_k74_whole_lines
set_option Elab.async false
set_option linter.all false
set_option maxRecDepth 100000
set_option maxHeartbeats 4000000
namespace KH
open PySem PySem.W
def fK (tb:String->Option Builtin)(p:Program)(w:World)(n₀:Nat)(ann:Option Value):Nat->SharedT->Thread->Option SharedT
 | 0,_,_=>none
 | n+1,s,t=>match through t with
  | true=>some s
  | false=>match stepOk n₀ ann t with
   | false=>none
   | true=>match stepT (denote tb) p w s t with
    | some (s',t')=>fK tb p w n₀ ann n s' t'
    | none=>none
theorem gO {tb:String->Option Builtin}{p:Program}{w:World}{n₀:Nat}{ann:Option Value}:∀{n:Nat} {s s':SharedT} {t:Thread},fK tb p w n₀ ann n s t=some s'->topRun tb p w n₀ ann n s.abs t=some s'.abs
 | 0,_,_,_,h=>by cases h
 | n+1,s,s',t,h=>by
  unfold fK at h;unfold topRun;cases he:through t with
  | true=>rw[he]at h;cases h;rfl
  | false =>
   rw[he]at h;cases hk:stepOk n₀ ann t with
   | false=>rw[hk]at h;cases h
   | true =>
    rw[hk]at h;cases hs:stepT (denote tb) p w s t with
    | none=>rw[hs]at h;cases h
    | some r=>obtain⟨s₂,t₂⟩:=r;rw[hs]at h;dsimp only;rw[stepT_spec hs];exact gO h
def iG:List Obj->Nat->BT->Option BT
 | [],_,t=>some t
 | o::l,n,t=>match ((t.ins n o).get n).isSome with
  | true=>iG l (n+1) (t.ins n o)
  | false=>none
theorem hJ {life:Life}:∀{l:List Obj} {n:Nat} {t t':BT},iG l n t=some t'->absHeap t' (n+l.length) life=⟨(absHeap t n life).objs++l.toArray,life⟩
 | [],n,t,t',h=>by cases h;simp[absHeap]
 | o::l,n,t,t',h=>by
  unfold iG at h;cases e:((t.ins n o).get n).isSome with
  | false=>rw[e]at h;cases h
  | true =>
   rw[e]at h;have:=hJ (life:=life) h;rw[absHeap_ins e]at this;rw[List.length_cons,show n+(l.length+1)=n+1+l.length by omega,this]
   simp[Heap.push]
def Look (p:Program)(N:Nat)(H₀:Params->Heap)(gs₀:Array GenState)(d₀:Drawn)(k₀ m₀:Nat)(ann:Option Value)(life:Life){α:Type}(g:World->Shared->α)(v:World->α):Prop:=
 ∀(w:World) (os:OsState),((iG (H₀ w.params).objs.toList 0 .nil).bind fun t=>(fK treeTable p w m₀ ann N ⟨t,m₀,life,gs₀,d₀,k₀,os⟩ (topStub p)).map fun s=>g w s.abs)=some (v w)
theorem left_of {p q:Program}{loose:List Str}{Xt:Shared->Bool}{α:Type}{Yf:Shared->α}{Ya:World->α}{N:Nat}{H₀:Params->Heap}{gs₀:Array GenState}{d₀:Drawn}{k₀ m₀:Nat}{ann:Option Value}{life:Life}(open_:∀w:World,(fencedOpening treeTable p w N).map (fun s=>(s.heap,s.gens,s.drawn,s.toks))=some (H₀ w.params,gs₀,d₀,k₀))(size:∀w:World,((H₀ w.params).isNs mainGlobals&&gs₀.size == 0,(H₀ w.params).objs.size,(H₀ w.params).nsMap mainGlobals "__annotations__",(H₀ w.params).life)=(true,m₀,ann,life))(ha:Look p N H₀ gs₀ d₀ k₀ m₀ ann life (fun w s=>staticsOk (importedModules p.main.body) (H₀ w.params) s.heap&&namesBound p s.heap&&gensDone s&&laidKept (H₀ w.params) s.heap) (fun _=>true))(hb:Look p N H₀ gs₀ d₀ k₀ m₀ ann life (fun _ s=>openSeen q loose (importedModules p.main.body) Xt true s) (fun _=>openGood q loose))(hc:Look p N H₀ gs₀ d₀ k₀ m₀ ann life (fun _ s=>Yf s) Ya):LeftO p q loose Xt Yf Ya N:=fun w=>by
 obtain⟨⟨hp,gs,d,k,os⟩,e,e'⟩:=Option.map_eq_some_iff.mp (open_ w);obtain⟨rfl,rfl,rfl,rfl⟩:hp=H₀ w.params/\gs=gs₀/\d=d₀/\k=k₀:=by simpa using e'
 obtain⟨z1,z2,z3,z4⟩:_/\_/\_/\_:=by simpa only [Prod.mk.injEq] using size w
 obtain⟨t,ht,h'⟩:=Option.bind_eq_some_iff.mp (ha w os);obtain⟨s,hs,l1⟩:=Option.map_eq_some_iff.mp h';change (staticsOk (importedModules p.main.body) (H₀ w.params) s.abs.heap&&namesBound p s.abs.heap&&gensDone s.abs&&laidKept (H₀ w.params) s.abs.heap)=true at l1;have l2:openSeen q loose (importedModules p.main.body) Xt true s.abs=openGood q loose:=by
  obtain⟨t',ht',h''⟩:=Option.bind_eq_some_iff.mp (hb w os);obtain⟨s',hs',l⟩:=Option.map_eq_some_iff.mp h'';rw[ht]at ht';cases ht';rw[hs]at hs';cases hs';exact l
 have l3:Yf s.abs=Ya w:=by
  obtain⟨t',ht',h''⟩:=Option.bind_eq_some_iff.mp (hc w os);obtain⟨s',hs',l⟩:=Option.map_eq_some_iff.mp h'';rw[ht]at ht';cases ht';rw[hs]at hs';cases hs';exact l
 have ab:(⟨t,m₀,life,gs,d,k,os⟩:SharedT).abs=⟨H₀ w.params,gs,d,k,os⟩:=by
  have:=hJ (life:=life) ht;rw[Nat.zero_add,Array.length_toList,z2]at this;show Shared.mk (absHeap t m₀ life) gs d k os=_;rw[this,←z4];have e0:(absHeap BT.nil 0 (H₀ w.params).life).objs = #[]:=by simp[absHeap,BT.list]
  rw[e0];simp
 have r:=gO hs;rw[ab]at r;have T:topFrom treeTable p w N ⟨H₀ w.params,gs,d,k,os⟩=some s.abs:=by
  unfold topFrom;dsimp only;rw[z1,z2,z3,r];show(match staticsOk (importedModules p.main.body) (H₀ w.params) s.abs.heap&&namesBound p s.abs.heap&&gensDone s.abs&&laidKept (H₀ w.params) s.abs.heap with | true=>_ | false=>_)=_
  rw[l1]
 unfold openEnds;rw[e];show(topFrom treeTable p w N _).map _=_;rw[T];exact congrArg some (Prod.ext l2 l3)
end KH
namespace KH
open PySem PySem.W
def top (i:Nat):Stmt:=PySem.Challenge.pw_treewells_k74_whole_lines.main.body.getD i (.Pass ⟨0,0,0,0⟩)
def kA (s:Stmt):Arguments:=match s with
 | .FunctionDef _ x _ _ _ _ _ _ _ _=>x
 | _=>⟨[],[],none,[],[],none,[]⟩
def kB (s:Stmt):List Stmt:=match s with
 | .FunctionDef _ _ x _ _ _ _ _ _ _=>x
 | _=>[]
def kS (s:Stmt):Scope:=match s with
 | .FunctionDef _ _ _ _ _ _ x _ _ _=>x
 | _=>{ kind:=.function,names:=[],isGenerator:=false,isCoroutine:=false }
def kHeap:Params->PySem.W.Frag:=fun P =>
(nat_lit 2,.mk .none none (.dict #[]) #[]) ::
(nat_lit 3,.mk (.type "dict") none (.dict #[.mk (PyData.keyHash P "__name__") (.str "__name__" 165) (.str "law_treewells_k74_whole_lines" 377),.mk (PyData.keyHash P "__doc__") (.str "__doc__" 166) .none,.mk (PyData.keyHash P "__package__") (.str "__package__" 167) .none,.mk (PyData.keyHash P "__loader__") (.str "__loader__" 168) (.builtin "__main__.__loader__#opaque"),.mk (PyData.keyHash P "__spec__") (.str "__spec__" 169) .none,.mk (PyData.keyHash P "__annotations__") (.str "__annotations__" 170) (.ref 6),.mk (PyData.keyHash P "__builtins__") (.str "__builtins__" 171) (.ref 4),.mk (PyData.keyHash P "__file__") (.str "__file__" 173) (.str "/claim/cut.py" 172),.mk (PyData.keyHash P "__cached__") (.str "__cached__" 174) .none,.mk (PyData.keyHash P "TreeError") (.str "TreeError" 206) (.ref 24),.mk (PyData.keyHash P "NoTree") (.str "NoTree" 222) (.ref 37),.mk (PyData.keyHash P "NoPlace") (.str "NoPlace" 238) (.ref 49),.mk (PyData.keyHash P "NoRoad") (.str "NoRoad" 254) (.ref 61),.mk (PyData.keyHash P "MOST_PLACES") (.str "MOST_PLACES" 258) (.int 12 257),.mk (PyData.keyHash P "is_whole") (.str "is_whole" 265) (.ref 70),.mk (PyData.keyHash P "is_place") (.str "is_place" 273) (.ref 77),
.mk (PyData.keyHash P "are_places") (.str "are_places" 279) (.ref 82),.mk (PyData.keyHash P "is_road") (.str "is_road" 287) (.ref 89),.mk (PyData.keyHash P "is_tree") (.str "is_tree" 293) (.ref 94),.mk (PyData.keyHash P "check_tree") (.str "check_tree" 301) (.ref 101),.mk (PyData.keyHash P "check_places") (.str "check_places" 309) (.ref 108),.mk (PyData.keyHash P "neighbours") (.str "neighbours" 315) (.ref 113),.mk (PyData.keyHash P "steps_to") (.str "steps_to" 328) (.ref 120),.mk (PyData.keyHash P "fars_from") (.str "fars_from" 334) (.ref 125),.mk (PyData.keyHash P "way_between") (.str "way_between" 345) (.ref 132),.mk (PyData.keyHash P "line_from") (.str "line_from" 353) (.ref 137),.mk (PyData.keyHash P "line_by") (.str "line_by" 363) (.ref 144),.mk (PyData.keyHash P "length_of") (.str "length_of" 376) (.ref 151),.mk (PyData.keyHash P "_law_whole") (.str "_law_whole" 385) (.ref 158),.mk (PyData.keyHash P "_law_cell_at") (.str "_law_cell_at" 393) (.ref 165),.mk (PyData.keyHash P "_law_mixed") (.str "_law_mixed" 402) (.ref 172),.mk (PyData.keyHash P "_law_names") (.str "_law_names" 412) (.ref 179),.mk (PyData.keyHash P "_law_numbers") (.str "_law_numbers" 418) (.ref 184),
.mk (PyData.keyHash P "_law_tree") (.str "_law_tree" 439) (.ref 191),.mk (PyData.keyHash P "_law_fars") (.str "_law_fars" 445) (.ref 196),.mk (PyData.keyHash P "_law_places") (.str "_law_places" 451) (.ref 201),.mk (PyData.keyHash P "_law_copy") (.str "_law_copy" 457) (.ref 206),.mk (PyData.keyHash P "_law_on") (.str "_law_on" 467) (.ref 213),.mk (PyData.keyHash P "_law_side") (.str "_law_side" 481) (.ref 220),.mk (PyData.keyHash P "_law_length") (.str "_law_length" 492) (.ref 227),.mk (PyData.keyHash P "_law_needed") (.str "_law_needed" 498) (.ref 232),.mk (PyData.keyHash P "law") (.str "law" 504) (.ref 237)] 42) #[]) ::
(nat_lit 15,.mk (.type "tuple") none (.seq #[.type "ValueError"]) #[]) ::
(nat_lit 22,.mk (.type "tuple") none (.seq #[]) #[]) ::
(nat_lit 23,.mk (.type "dict") none (.dict #[.mk (PyData.keyHash P "__module__") (.str "__module__" 196) (.str "treewells.errors" 187),.mk (PyData.keyHash P "__firstlineno__") (.str "__firstlineno__" 200) (.int 2 199),.mk (PyData.keyHash P "__static_attributes__") (.str "__static_attributes__" 201) (.ref 22),.mk (PyData.keyHash P "__weakref__") (.str "__weakref__" 203) (.ref 25),.mk (PyData.keyHash P "__doc__") (.str "__doc__" 204) .none] 3) #[]) ::
(nat_lit 24,.mk (.type "type") none (Data.cls (ClassData.mk "TreeError" [.type "ValueError"] [.ref 24,.type "ValueError",.type "Exception",.type "BaseException",.type "object"] 23 "TreeError" true [] [.ref 37,.ref 49,.ref 61] false none false)) #[some (.ref 15),none,some (.str "TreeError" 189),some (.str "TreeError" 197),some (.builtin "ValueError.__new__"),some (.bool true)]) ::
(nat_lit 25,.mk (.type "getset_descriptor") none (.fields #[.str "__weakref__" 202,.ref 24,.builtin "ExceptionGroup.__weakref__",.none]) #[]) ::
(nat_lit 28,.mk (.type "tuple") none (.seq #[.ref 24]) #[]) ::
(nat_lit 35,.mk (.type "tuple") none (.seq #[]) #[]) ::
(nat_lit 36,.mk (.type "dict") none (.dict #[.mk (PyData.keyHash P "__module__") (.str "__module__" 214) (.str "treewells.errors" 187),.mk (PyData.keyHash P "__firstlineno__") (.str "__firstlineno__" 218) (.int 4 217),.mk (PyData.keyHash P "__static_attributes__") (.str "__static_attributes__" 219) (.ref 35),.mk (PyData.keyHash P "__doc__") (.str "__doc__" 220) .none] 2) #[]) ::
(nat_lit 37,.mk (.type "type") none (Data.cls (ClassData.mk "NoTree" [.ref 24] [.ref 37,.ref 24,.type "ValueError",.type "Exception",.type "BaseException",.type "object"] 36 "NoTree" true [] [] false none false)) #[some (.ref 28),none,some (.str "NoTree" 207),some (.str "NoTree" 215),some (.builtin "ValueError.__new__"),some (.bool true)]) ::
(nat_lit 40,.mk (.type "tuple") none (.seq #[.ref 24]) #[]) ::
(nat_lit 47,.mk (.type "tuple") none (.seq #[]) #[]) ::
(nat_lit 48,.mk (.type "dict") none (.dict #[.mk (PyData.keyHash P "__module__") (.str "__module__" 230) (.str "treewells.errors" 187),.mk (PyData.keyHash P "__firstlineno__") (.str "__firstlineno__" 234) (.int 6 233),.mk (PyData.keyHash P "__static_attributes__") (.str "__static_attributes__" 235) (.ref 47),.mk (PyData.keyHash P "__doc__") (.str "__doc__" 236) .none] 2) #[]) ::
(nat_lit 49,.mk (.type "type") none (Data.cls (ClassData.mk "NoPlace" [.ref 24] [.ref 49,.ref 24,.type "ValueError",.type "Exception",.type "BaseException",.type "object"] 48 "NoPlace" true [] [] false none false)) #[some (.ref 40),none,some (.str "NoPlace" 223),some (.str "NoPlace" 231),some (.builtin "ValueError.__new__"),some (.bool true)]) ::
(nat_lit 52,.mk (.type "tuple") none (.seq #[.ref 24]) #[]) ::
(nat_lit 59,.mk (.type "tuple") none (.seq #[]) #[]) ::
(nat_lit 60,.mk (.type "dict") none (.dict #[.mk (PyData.keyHash P "__module__") (.str "__module__" 246) (.str "treewells.errors" 187),.mk (PyData.keyHash P "__firstlineno__") (.str "__firstlineno__" 250) (.int 8 249),.mk (PyData.keyHash P "__static_attributes__") (.str "__static_attributes__" 251) (.ref 59),.mk (PyData.keyHash P "__doc__") (.str "__doc__" 252) .none] 2) #[]) ::
(nat_lit 61,.mk (.type "type") none (Data.cls (ClassData.mk "NoRoad" [.ref 24] [.ref 61,.ref 24,.type "ValueError",.type "Exception",.type "BaseException",.type "object"] 60 "NoRoad" true [] [] false none false)) #[some (.ref 52),none,some (.str "NoRoad" 239),some (.str "NoRoad" 247),some (.builtin "ValueError.__new__"),some (.bool true)]) ::
(nat_lit 64,.mk (.type "tuple") none (.seq #[]) #[]) ::
(nat_lit 66,.mk (.type "tuple") none (.seq #[.str "value" 262]) #[]) ::
(nat_lit 67,.mk (.type "tuple") none (.seq #[]) #[]) ::
(nat_lit 69,.mk (.type "code") none (.fields #[.str "is_whole" 259,.str "is_whole" 260,.str "/claim/cut.py" 261,.int 12 0,.int 1 0,.int 0 0,.int 0 0,.int 3 0,.ref 64,.bool true,.int 181 0,.ref 65,.none,.ref 66,.ref 67,.ref 68,.int 263 0,.int 12 0,.str "/claim/cut.py" 264]) #[]) ::
(nat_lit 70,.mk (.type "function") none (.func (.mk "is_whole" "is_whole" (kA (top 7)) (.stmts (kB (top 7))) (kS (top 7)) 3 [] .none .none .none (.str "treewells.trees" 255) none (.ref 69) .none 0)) #[]) ::
(nat_lit 71,.mk (.type "tuple") none (.seq #[]) #[]) ::
(nat_lit 73,.mk (.type "tuple") none (.seq #[.str "many" 269,.str "value" 270]) #[]) ::
(nat_lit 74,.mk (.type "tuple") none (.seq #[]) #[]) ::
(nat_lit 76,.mk (.type "code") none (.fields #[.str "is_place" 266,.str "is_place" 267,.str "/claim/cut.py" 268,.int 14 0,.int 2 0,.int 0 0,.int 0 0,.int 3 0,.ref 71,.bool true,.int 181 0,.ref 72,.none,.ref 73,.ref 74,.ref 75,.int 271 0,.int 14 0,.str "/claim/cut.py" 272]) #[]) ::
(nat_lit 77,.mk (.type "function") none (.func (.mk "is_place" "is_place" (kA (top 8)) (.stmts (kB (top 8))) (kS (top 8)) 3 [] .none .none .none (.str "treewells.trees" 255) none (.ref 76) .none 0)) #[]) ::
(nat_lit 78,.mk (.type "tuple") none (.seq #[]) #[]) ::
(nat_lit 81,.mk (.type "code") none (.fields #[.str "are_places" 274,.str "are_places" 275,.str "/claim/cut.py" 276,.int 16 0,.int 2 0,.int 0 0,.int 0 0,.int 3 0,.ref 78,.bool true,.int 181 0,.ref 79,.none,.none,.none,.ref 80,.int 277 0,.int 16 0,.str "/claim/cut.py" 278]) #[]) ::
(nat_lit 82,.mk (.type "function") none (.func (.mk "are_places" "are_places" (kA (top 9)) (.stmts (kB (top 9))) (kS (top 9)) 3 [] .none .none .none (.str "treewells.trees" 255) none (.ref 81) .none 0)) #[]) ::
(nat_lit 83,.mk (.type "tuple") none (.seq #[]) #[]) ::
(nat_lit 85,.mk (.type "tuple") none (.seq #[.str "many" 283,.str "row" 284]) #[]) ::
(nat_lit 86,.mk (.type "tuple") none (.seq #[]) #[]) ::
(nat_lit 88,.mk (.type "code") none (.fields #[.str "is_road" 280,.str "is_road" 281,.str "/claim/cut.py" 282,.int 18 0,.int 2 0,.int 0 0,.int 0 0,.int 3 0,.ref 83,.bool true,.int 181 0,.ref 84,.none,.ref 85,.ref 86,.ref 87,.int 285 0,.int 18 0,.str "/claim/cut.py" 286]) #[]) ::
(nat_lit 89,.mk (.type "function") none (.func (.mk "is_road" "is_road" (kA (top 10)) (.stmts (kB (top 10))) (kS (top 10)) 3 [] .none .none .none (.str "treewells.trees" 255) none (.ref 88) .none 0)) #[]) ::
(nat_lit 90,.mk (.type "tuple") none (.seq #[]) #[]) ::
(nat_lit 93,.mk (.type "code") none (.fields #[.str "is_tree" 288,.str "is_tree" 289,.str "/claim/cut.py" 290,.int 22 0,.int 2 0,.int 0 0,.int 0 0,.int 3 0,.ref 90,.bool true,.int 181 0,.ref 91,.none,.none,.none,.ref 92,.int 291 0,.int 22 0,.str "/claim/cut.py" 292]) #[]) ::
(nat_lit 94,.mk (.type "function") none (.func (.mk "is_tree" "is_tree" (kA (top 11)) (.stmts (kB (top 11))) (kS (top 11)) 3 [] .none .none .none (.str "treewells.trees" 255) none (.ref 93) .none 0)) #[]) ::
(nat_lit 95,.mk (.type "tuple") none (.seq #[]) #[]) ::
(nat_lit 97,.mk (.type "tuple") none (.seq #[.str "many" 297,.str "roads" 298]) #[]) ::
(nat_lit 98,.mk (.type "tuple") none (.seq #[]) #[]) ::
(nat_lit 100,.mk (.type "code") none (.fields #[.str "check_tree" 294,.str "check_tree" 295,.str "/claim/cut.py" 296,.int 28 0,.int 2 0,.int 0 0,.int 0 0,.int 3 0,.ref 95,.bool true,.int 181 0,.ref 96,.none,.ref 97,.ref 98,.ref 99,.int 299 0,.int 28 0,.str "/claim/cut.py" 300]) #[]) ::
(nat_lit 101,.mk (.type "function") none (.func (.mk "check_tree" "check_tree" (kA (top 12)) (.stmts (kB (top 12))) (kS (top 12)) 3 [] .none .none .none (.str "treewells.trees" 255) none (.ref 100) .none 0)) #[]) ::
(nat_lit 102,.mk (.type "tuple") none (.seq #[]) #[]) ::
(nat_lit 104,.mk (.type "tuple") none (.seq #[.str "many" 305,.str "some" 306]) #[]) ::
(nat_lit 105,.mk (.type "tuple") none (.seq #[]) #[]) ::
(nat_lit 107,.mk (.type "code") none (.fields #[.str "check_places" 302,.str "check_places" 303,.str "/claim/cut.py" 304,.int 31 0,.int 2 0,.int 0 0,.int 0 0,.int 3 0,.ref 102,.bool true,.int 181 0,.ref 103,.none,.ref 104,.ref 105,.ref 106,.int 307 0,.int 31 0,.str "/claim/cut.py" 308]) #[]) ::
(nat_lit 108,.mk (.type "function") none (.func (.mk "check_places" "check_places" (kA (top 13)) (.stmts (kB (top 13))) (kS (top 13)) 3 [] .none .none .none (.str "treewells.trees" 255) none (.ref 107) .none 0)) #[]) ::
(nat_lit 109,.mk (.type "tuple") none (.seq #[]) #[]) ::
(nat_lit 112,.mk (.type "code") none (.fields #[.str "neighbours" 310,.str "neighbours" 311,.str "/claim/cut.py" 312,.int 34 0,.int 2 0,.int 0 0,.int 0 0,.int 3 0,.ref 109,.bool true,.int 181 0,.ref 110,.none,.none,.none,.ref 111,.int 313 0,.int 34 0,.str "/claim/cut.py" 314]) #[]) ::
(nat_lit 113,.mk (.type "function") none (.func (.mk "neighbours" "neighbours" (kA (top 14)) (.stmts (kB (top 14))) (kS (top 14)) 3 [] .none .none .none (.str "treewells.trees" 255) none (.ref 112) .none 0)) #[]) ::
(nat_lit 114,.mk (.type "tuple") none (.seq #[]) #[]) ::
(nat_lit 116,.mk (.type "tuple") none (.seq #[.str "near" 319,.str "goal" 320,.str "steps" 321,.str "reached" 322,.str "done" 323,.str "here" 324,.str "place" 325]) #[]) ::
(nat_lit 117,.mk (.type "tuple") none (.seq #[]) #[]) ::
(nat_lit 119,.mk (.type "code") none (.fields #[.str "steps_to" 316,.str "steps_to" 317,.str "/claim/cut.py" 318,.int 40 0,.int 2 0,.int 0 0,.int 0 0,.int 3 0,.ref 114,.bool true,.int 181 0,.ref 115,.none,.ref 116,.ref 117,.ref 118,.int 326 0,.int 40 0,.str "/claim/cut.py" 327]) #[]) ::
(nat_lit 120,.mk (.type "function") none (.func (.mk "steps_to" "steps_to" (kA (top 15)) (.stmts (kB (top 15))) (kS (top 15)) 3 [] .none .none .none (.str "treewells.trees" 255) none (.ref 119) .none 0)) #[]) ::
(nat_lit 121,.mk (.type "tuple") none (.seq #[]) #[]) ::
(nat_lit 124,.mk (.type "code") none (.fields #[.str "fars_from" 329,.str "fars_from" 330,.str "/claim/cut.py" 331,.int 52 0,.int 2 0,.int 0 0,.int 0 0,.int 3 0,.ref 121,.bool true,.int 181 0,.ref 122,.none,.none,.none,.ref 123,.int 332 0,.int 52 0,.str "/claim/cut.py" 333]) #[]) ::
(nat_lit 125,.mk (.type "function") none (.func (.mk "fars_from" "fars_from" (kA (top 16)) (.stmts (kB (top 16))) (kS (top 16)) 3 [] .none .none .none (.str "treewells.trees" 255) none (.ref 124) .none 0)) #[]) ::
(nat_lit 126,.mk (.type "tuple") none (.seq #[]) #[]) ::
(nat_lit 128,.mk (.type "tuple") none (.seq #[.str "near" 338,.str "a" 339,.str "b" 340,.str "steps" 341,.str "places" 342]) #[]) ::
(nat_lit 129,.mk (.type "tuple") none (.seq #[]) #[]) ::
(nat_lit 131,.mk (.type "code") none (.fields #[.str "way_between" 335,.str "way_between" 336,.str "/claim/cut.py" 337,.int 59 0,.int 3 0,.int 0 0,.int 0 0,.int 3 0,.ref 126,.bool true,.int 181 0,.ref 127,.none,.ref 128,.ref 129,.ref 130,.int 343 0,.int 59 0,.str "/claim/cut.py" 344]) #[]) ::
(nat_lit 132,.mk (.type "function") none (.func (.mk "way_between" "way_between" (kA (top 17)) (.stmts (kB (top 17))) (kS (top 17)) 3 [] .none .none .none (.str "treewells.trees" 255) none (.ref 131) .none 0)) #[]) ::
(nat_lit 133,.mk (.type "tuple") none (.seq #[]) #[]) ::
(nat_lit 136,.mk (.type "code") none (.fields #[.str "line_from" 348,.str "line_from" 349,.str "/claim/cut.py" 350,.int 66 0,.int 3 0,.int 0 0,.int 0 0,.int 3 0,.ref 133,.bool true,.int 181 0,.ref 134,.none,.none,.none,.ref 135,.int 351 0,.int 66 0,.str "/claim/cut.py" 352]) #[]) ::
(nat_lit 137,.mk (.type "function") none (.func (.mk "line_from" "line_from" (kA (top 19)) (.stmts (kB (top 19))) (kS (top 19)) 3 [] .none .none .none (.str "treewells.rounds" 346) none (.ref 136) .none 0)) #[]) ::
(nat_lit 138,.mk (.type "tuple") none (.seq #[]) #[]) ::
(nat_lit 140,.mk (.type "tuple") none (.seq #[.str "many" 357,.str "roads" 358,.str "start" 359,.str "some" 360]) #[]) ::
(nat_lit 141,.mk (.type "tuple") none (.seq #[]) #[]) ::
(nat_lit 143,.mk (.type "code") none (.fields #[.str "line_by" 354,.str "line_by" 355,.str "/claim/cut.py" 356,.int 77 0,.int 4 0,.int 0 0,.int 0 0,.int 3 0,.ref 138,.bool true,.int 181 0,.ref 139,.none,.ref 140,.ref 141,.ref 142,.int 361 0,.int 77 0,.str "/claim/cut.py" 362]) #[]) ::
(nat_lit 144,.mk (.type "function") none (.func (.mk "line_by" "line_by" (kA (top 20)) (.stmts (kB (top 20))) (kS (top 20)) 3 [] .none .none .none (.str "treewells.rounds" 346) none (.ref 143) .none 0)) #[]) ::
(nat_lit 145,.mk (.type "tuple") none (.seq #[]) #[]) ::
(nat_lit 147,.mk (.type "tuple") none (.seq #[.str "many" 367,.str "roads" 368,.str "places" 369,.str "near" 370,.str "total" 371,.str "here" 372,.str "there" 373]) #[]) ::
(nat_lit 148,.mk (.type "tuple") none (.seq #[]) #[]) ::
(nat_lit 150,.mk (.type "code") none (.fields #[.str "length_of" 364,.str "length_of" 365,.str "/claim/cut.py" 366,.int 82 0,.int 3 0,.int 0 0,.int 0 0,.int 3 0,.ref 145,.bool true,.int 181 0,.ref 146,.none,.ref 147,.ref 148,.ref 149,.int 374 0,.int 82 0,.str "/claim/cut.py" 375]) #[]) ::
(nat_lit 151,.mk (.type "function") none (.func (.mk "length_of" "length_of" (kA (top 21)) (.stmts (kB (top 21))) (kS (top 21)) 3 [] .none .none .none (.str "treewells.rounds" 346) none (.ref 150) .none 0)) #[]) ::
(nat_lit 152,.mk (.type "tuple") none (.seq #[]) #[]) ::
(nat_lit 154,.mk (.type "tuple") none (.seq #[.str "_law_found" 382]) #[]) ::
(nat_lit 155,.mk (.type "tuple") none (.seq #[]) #[]) ::
(nat_lit 157,.mk (.type "code") none (.fields #[.str "_law_whole" 379,.str "_law_whole" 380,.str "/claim/cut.py" 381,.int 93 0,.int 1 0,.int 0 0,.int 0 0,.int 3 0,.ref 152,.bool true,.int 181 0,.ref 153,.none,.ref 154,.ref 155,.ref 156,.int 383 0,.int 93 0,.str "/claim/cut.py" 384]) #[]) ::
(nat_lit 158,.mk (.type "function") none (.func (.mk "_law_whole" "_law_whole" (kA (top 23)) (.stmts (kB (top 23))) (kS (top 23)) 3 [] .none .none .none (.str "law_treewells_k74_whole_lines" 377) none (.ref 157) .none 0)) #[]) ::
(nat_lit 159,.mk (.type "tuple") none (.seq #[]) #[]) ::
(nat_lit 161,.mk (.type "tuple") none (.seq #[.str "_law_script" 389,.str "_law_k" 390]) #[]) ::
(nat_lit 162,.mk (.type "tuple") none (.seq #[]) #[]) ::
(nat_lit 164,.mk (.type "code") none (.fields #[.str "_law_cell_at" 386,.str "_law_cell_at" 387,.str "/claim/cut.py" 388,.int 95 0,.int 2 0,.int 0 0,.int 0 0,.int 3 0,.ref 159,.bool true,.int 181 0,.ref 160,.none,.ref 161,.ref 162,.ref 163,.int 391 0,.int 95 0,.str "/claim/cut.py" 392]) #[]) ::
(nat_lit 165,.mk (.type "function") none (.func (.mk "_law_cell_at" "_law_cell_at" (kA (top 24)) (.stmts (kB (top 24))) (kS (top 24)) 3 [] .none .none .none (.str "law_treewells_k74_whole_lines" 377) none (.ref 164) .none 0)) #[]) ::
(nat_lit 166,.mk (.type "tuple") none (.seq #[]) #[]) ::
(nat_lit 168,.mk (.type "tuple") none (.seq #[.str "_law_cell" 397,.str "_law_k" 398,.str "_law_number" 399]) #[]) ::
(nat_lit 169,.mk (.type "tuple") none (.seq #[]) #[]) ::
(nat_lit 171,.mk (.type "code") none (.fields #[.str "_law_mixed" 394,.str "_law_mixed" 395,.str "/claim/cut.py" 396,.int 99 0,.int 2 0,.int 0 0,.int 0 0,.int 3 0,.ref 166,.bool true,.int 181 0,.ref 167,.none,.ref 168,.ref 169,.ref 170,.int 400 0,.int 99 0,.str "/claim/cut.py" 401]) #[]) ::
(nat_lit 172,.mk (.type "function") none (.func (.mk "_law_mixed" "_law_mixed" (kA (top 25)) (.stmts (kB (top 25))) (kS (top 25)) 3 [] .none .none .none (.str "law_treewells_k74_whole_lines" 377) none (.ref 171) .none 0)) #[]) ::
(nat_lit 173,.mk (.type "tuple") none (.seq #[]) #[]) ::
(nat_lit 175,.mk (.type "tuple") none (.seq #[.str "_law_cell" 406,.str "_law_many" 407,.str "_law_points" 408,.str "_law_k" 409]) #[]) ::
(nat_lit 176,.mk (.type "tuple") none (.seq #[]) #[]) ::
(nat_lit 178,.mk (.type "code") none (.fields #[.str "_law_names" 403,.str "_law_names" 404,.str "/claim/cut.py" 405,.int 103 0,.int 2 0,.int 0 0,.int 0 0,.int 3 0,.ref 173,.bool true,.int 181 0,.ref 174,.none,.ref 175,.ref 176,.ref 177,.int 410 0,.int 103 0,.str "/claim/cut.py" 411]) #[]) ::
(nat_lit 179,.mk (.type "function") none (.func (.mk "_law_names" "_law_names" (kA (top 26)) (.stmts (kB (top 26))) (kS (top 26)) 3 [] .none .none .none (.str "law_treewells_k74_whole_lines" 377) none (.ref 178) .none 0)) #[]) ::
(nat_lit 180,.mk (.type "tuple") none (.seq #[]) #[]) ::
(nat_lit 183,.mk (.type "code") none (.fields #[.str "_law_numbers" 413,.str "_law_numbers" 414,.str "/claim/cut.py" 415,.int 109 0,.int 1 0,.int 0 0,.int 0 0,.int 3 0,.ref 180,.bool true,.int 181 0,.ref 181,.none,.none,.none,.ref 182,.int 416 0,.int 109 0,.str "/claim/cut.py" 417]) #[]) ::
(nat_lit 184,.mk (.type "function") none (.func (.mk "_law_numbers" "_law_numbers" (kA (top 27)) (.stmts (kB (top 27))) (kS (top 27)) 3 [] .none .none .none (.str "law_treewells_k74_whole_lines" 377) none (.ref 183) .none 0)) #[]) ::
(nat_lit 185,.mk (.type "tuple") none (.seq #[]) #[]) ::
(nat_lit 187,.mk (.type "tuple") none (.seq #[.str "_law_script" 422,.str "_law_numbers_here" 423,.str "_law_first" 424,.str "_law_cell" 425,.str "_law_many" 426,.str "_law_span" 427,.str "_law_names_here" 428,.str "_law_roads" 429,.str "_law_k" 430,.str "_law_number" 431,.str "_law_back" 432,.str "_law_a" 433,.str "_law_long" 434,.str "_law_length_here" 435,.str "_law_road" 436]) #[]) ::
(nat_lit 188,.mk (.type "tuple") none (.seq #[]) #[]) ::
(nat_lit 190,.mk (.type "code") none (.fields #[.str "_law_tree" 419,.str "_law_tree" 420,.str "/claim/cut.py" 421,.int 122 0,.int 1 0,.int 0 0,.int 0 0,.int 3 0,.ref 185,.bool true,.int 181 0,.ref 186,.none,.ref 187,.ref 188,.ref 189,.int 437 0,.int 122 0,.str "/claim/cut.py" 438]) #[]) ::
(nat_lit 191,.mk (.type "function") none (.func (.mk "_law_tree" "_law_tree" (kA (top 28)) (.stmts (kB (top 28))) (kS (top 28)) 3 [] .none .none .none (.str "law_treewells_k74_whole_lines" 377) none (.ref 190) .none 0)) #[]) ::
(nat_lit 192,.mk (.type "tuple") none (.seq #[]) #[]) ::
(nat_lit 195,.mk (.type "code") none (.fields #[.str "_law_fars" 440,.str "_law_fars" 441,.str "/claim/cut.py" 442,.int 139 0,.int 2 0,.int 0 0,.int 0 0,.int 3 0,.ref 192,.bool true,.int 181 0,.ref 193,.none,.none,.none,.ref 194,.int 443 0,.int 139 0,.str "/claim/cut.py" 444]) #[]) ::
(nat_lit 196,.mk (.type "function") none (.func (.mk "_law_fars" "_law_fars" (kA (top 29)) (.stmts (kB (top 29))) (kS (top 29)) 3 [] .none .none .none (.str "law_treewells_k74_whole_lines" 377) none (.ref 195) .none 0)) #[]) ::
(nat_lit 197,.mk (.type "tuple") none (.seq #[]) #[]) ::
(nat_lit 200,.mk (.type "code") none (.fields #[.str "_law_places" 446,.str "_law_places" 447,.str "/claim/cut.py" 448,.int 151 0,.int 2 0,.int 0 0,.int 0 0,.int 3 0,.ref 197,.bool true,.int 181 0,.ref 198,.none,.none,.none,.ref 199,.int 449 0,.int 151 0,.str "/claim/cut.py" 450]) #[]) ::
(nat_lit 201,.mk (.type "function") none (.func (.mk "_law_places" "_law_places" (kA (top 30)) (.stmts (kB (top 30))) (kS (top 30)) 3 [] .none .none .none (.str "law_treewells_k74_whole_lines" 377) none (.ref 200) .none 0)) #[]) ::
(nat_lit 202,.mk (.type "tuple") none (.seq #[]) #[]) ::
(nat_lit 205,.mk (.type "code") none (.fields #[.str "_law_copy" 452,.str "_law_copy" 453,.str "/claim/cut.py" 454,.int 156 0,.int 1 0,.int 0 0,.int 0 0,.int 3 0,.ref 202,.bool true,.int 181 0,.ref 203,.none,.none,.none,.ref 204,.int 455 0,.int 156 0,.str "/claim/cut.py" 456]) #[]) ::
(nat_lit 206,.mk (.type "function") none (.func (.mk "_law_copy" "_law_copy" (kA (top 31)) (.stmts (kB (top 31))) (kS (top 31)) 3 [] .none .none .none (.str "law_treewells_k74_whole_lines" 377) none (.ref 205) .none 0)) #[]) ::
(nat_lit 207,.mk (.type "tuple") none (.seq #[]) #[]) ::
(nat_lit 209,.mk (.type "tuple") none (.seq #[.str "_law_roads" 461,.str "_law_a" 462,.str "_law_b" 463,.str "_law_k" 464]) #[]) ::
(nat_lit 210,.mk (.type "tuple") none (.seq #[]) #[]) ::
(nat_lit 212,.mk (.type "code") none (.fields #[.str "_law_on" 458,.str "_law_on" 459,.str "/claim/cut.py" 460,.int 158 0,.int 3 0,.int 0 0,.int 0 0,.int 3 0,.ref 207,.bool true,.int 181 0,.ref 208,.none,.ref 209,.ref 210,.ref 211,.int 465 0,.int 158 0,.str "/claim/cut.py" 466]) #[]) ::
(nat_lit 213,.mk (.type "function") none (.func (.mk "_law_on" "_law_on" (kA (top 32)) (.stmts (kB (top 32))) (kS (top 32)) 3 [] .none .none .none (.str "law_treewells_k74_whole_lines" 377) none (.ref 212) .none 0)) #[]) ::
(nat_lit 214,.mk (.type "tuple") none (.seq #[]) #[]) ::
(nat_lit 216,.mk (.type "tuple") none (.seq #[.str "_law_roads" 471,.str "_law_start" 472,.str "_law_other" 473,.str "_law_found" 474,.str "_law_k" 475,.str "_law_a" 476,.str "_law_b" 477,.str "_law_length_here" 478]) #[]) ::
(nat_lit 217,.mk (.type "tuple") none (.seq #[]) #[]) ::
(nat_lit 219,.mk (.type "code") none (.fields #[.str "_law_side" 468,.str "_law_side" 469,.str "/claim/cut.py" 470,.int 163 0,.int 3 0,.int 0 0,.int 0 0,.int 3 0,.ref 214,.bool true,.int 181 0,.ref 215,.none,.ref 216,.ref 217,.ref 218,.int 479 0,.int 163 0,.str "/claim/cut.py" 480]) #[]) ::
(nat_lit 220,.mk (.type "function") none (.func (.mk "_law_side" "_law_side" (kA (top 33)) (.stmts (kB (top 33))) (kS (top 33)) 3 [] .none .none .none (.str "law_treewells_k74_whole_lines" 377) none (.ref 219) .none 0)) #[]) ::
(nat_lit 221,.mk (.type "tuple") none (.seq #[]) #[]) ::
(nat_lit 223,.mk (.type "tuple") none (.seq #[.str "_law_roads" 485,.str "_law_found" 486,.str "_law_total" 487,.str "_law_k" 488,.str "_law_at" 489]) #[]) ::
(nat_lit 224,.mk (.type "tuple") none (.seq #[]) #[]) ::
(nat_lit 226,.mk (.type "code") none (.fields #[.str "_law_length" 482,.str "_law_length" 483,.str "/claim/cut.py" 484,.int 173 0,.int 2 0,.int 0 0,.int 0 0,.int 3 0,.ref 221,.bool true,.int 181 0,.ref 222,.none,.ref 223,.ref 224,.ref 225,.int 490 0,.int 173 0,.str "/claim/cut.py" 491]) #[]) ::
(nat_lit 227,.mk (.type "function") none (.func (.mk "_law_length" "_law_length" (kA (top 34)) (.stmts (kB (top 34))) (kS (top 34)) 3 [] .none .none .none (.str "law_treewells_k74_whole_lines" 377) none (.ref 226) .none 0)) #[]) ::
(nat_lit 228,.mk (.type "tuple") none (.seq #[]) #[]) ::
(nat_lit 231,.mk (.type "code") none (.fields #[.str "_law_needed" 493,.str "_law_needed" 494,.str "/claim/cut.py" 495,.int 181 0,.int 2 0,.int 0 0,.int 0 0,.int 3 0,.ref 228,.bool true,.int 181 0,.ref 229,.none,.none,.none,.ref 230,.int 496 0,.int 181 0,.str "/claim/cut.py" 497]) #[]) ::
(nat_lit 232,.mk (.type "function") none (.func (.mk "_law_needed" "_law_needed" (kA (top 35)) (.stmts (kB (top 35))) (kS (top 35)) 3 [] .none .none .none (.str "law_treewells_k74_whole_lines" 377) none (.ref 231) .none 0)) #[]) ::
(nat_lit 233,.mk (.type "tuple") none (.seq #[]) #[]) ::
(nat_lit 236,.mk (.type "code") none (.fields #[.str "law" 499,.str "law" 500,.str "/claim/cut.py" 501,.int 188 0,.int 1 0,.int 0 0,.int 0 0,.int 3 0,.ref 233,.bool true,.int 181 0,.ref 234,.none,.none,.none,.ref 235,.int 502 0,.int 188 0,.str "/claim/cut.py" 503]) #[]) ::
(nat_lit 237,.mk (.type "function") none (.func (.mk "law" "law" (kA (top 36)) (.stmts (kB (top 36))) (kS (top 36)) 3 [] .none .none .none (.str "law_treewells_k74_whole_lines" 377) none (.ref 236) .none 0)) #[]) ::
[]
def kAddrs:List Addr:=[nat_lit 2,nat_lit 3,nat_lit 15,nat_lit 22,nat_lit 23,nat_lit 24,nat_lit 25,nat_lit 28,nat_lit 35,nat_lit 36,nat_lit 37,nat_lit 40,nat_lit 47,nat_lit 48,nat_lit 49,nat_lit 52,nat_lit 59,nat_lit 60,nat_lit 61,nat_lit 64,nat_lit 66,nat_lit 67,nat_lit 69,nat_lit 70,nat_lit 71,nat_lit 73,nat_lit 74,nat_lit 76,nat_lit 77,nat_lit 78,nat_lit 81,nat_lit 82,nat_lit 83,nat_lit 85,nat_lit 86,nat_lit 88,nat_lit 89,nat_lit 90,nat_lit 93,nat_lit 94,nat_lit 95,nat_lit 97,nat_lit 98,nat_lit 100,nat_lit 101,nat_lit 102,nat_lit 104,nat_lit 105,nat_lit 107,nat_lit 108,nat_lit 109,nat_lit 112,nat_lit 113,nat_lit 114,nat_lit 116,nat_lit 117,nat_lit 119,nat_lit 120,nat_lit 121,nat_lit 124,nat_lit 125,nat_lit 126,nat_lit 128,nat_lit 129,nat_lit 131,nat_lit 132,nat_lit 133,nat_lit 136,nat_lit 137,nat_lit 138,nat_lit 140,nat_lit 141,nat_lit 143,nat_lit 144,nat_lit 145,nat_lit 147,nat_lit 148,nat_lit 150,nat_lit 151,nat_lit 152,nat_lit 154,nat_lit 155,nat_lit 157,nat_lit 158,nat_lit 159,nat_lit 161,nat_lit 162,nat_lit 164,nat_lit 165,nat_lit 166,nat_lit 168,nat_lit 169,nat_lit 171,nat_lit 172,nat_lit 173,nat_lit 175,nat_lit 176,nat_lit 178,nat_lit 179,nat_lit 180,nat_lit 183,nat_lit 184,nat_lit 185,nat_lit 187,nat_lit 188,nat_lit 190,nat_lit 191,nat_lit 192,nat_lit 195,nat_lit 196,nat_lit 197,nat_lit 200,nat_lit 201,nat_lit 202,nat_lit 205,nat_lit 206,nat_lit 207,nat_lit 209,nat_lit 210,nat_lit 212,nat_lit 213,nat_lit 214,nat_lit 216,nat_lit 217,nat_lit 219,nat_lit 220,nat_lit 221,nat_lit 223,nat_lit 224,nat_lit 226,nat_lit 227,nat_lit 228,nat_lit 231,nat_lit 232,nat_lit 233,nat_lit 236,nat_lit 237]
def kView:Program:={ PySem.Challenge.pw_treewells_k74_whole_lines with main:={ PySem.Challenge.pw_treewells_k74_whole_lines.main with body:=[top 1,top 2,top 3,top 4,top 6,top 7,top 8,top 9,top 10,top 11,top 12,top 13,top 14,top 15,top 16,top 17,top 19,top 20,top 21,top 23,top 24,top 25,top 26,top 27,top 28,top 29,top 30,top 31,top 32,top 33,top 34,top 35,top 36] } }
theorem kAddrs_eq (P:Params):kAddrs=(kHeap P).map (·.1):=by kernel_rfl
theorem kBoot:∀w:World,(PySem.W.fencedOpening treeTable PySem.Challenge.rw_treewells_k74_whole_lines.row.prog w 3538).map (fun s=>(s.heap,s.gens,s.drawn,s.toks))=some (PySem.W.boot_heap w.params,Array.mk [],PySem.W.boot_drawn,PySem.W.boot_toks):=
 PySem.W.boot_open (by rfl) (by decide) (fun _=>rfl)
abbrev kPr:Program:=PySem.Challenge.rw_treewells_k74_whole_lines.row.prog
abbrev kLk {α:Type}(g:World->Shared->α)(v:World->α):Prop:=Look kPr 3538 PySem.W.boot_heap (Array.mk []) PySem.W.boot_drawn PySem.W.boot_toks (nat_lit 11) (some (.ref (nat_lit 6))) { debug:=0,thresholds:=[2000,10,10] } g v
theorem kL1:kLk (fun w s=>PySem.W.staticsOk (PySem.importedModules kPr.main.body) (PySem.W.boot_heap w.params) s.heap&&PySem.W.namesBound kPr s.heap&&PySem.W.gensDone s&&PySem.W.laidKept (PySem.W.boot_heap w.params) s.heap) (fun _=>true):=by intro w os;kernel_rfl
theorem kL2:kLk (fun _ s=>PySem.W.openSeen KH.kView [] (PySem.importedModules kPr.main.body) (fun s=>PySem.W.xlAt KH.kView [] s&&PySem.W.recOk (PySem.W.RowW.records (PySem.W.OpenRow.toRowW PySem.Challenge.rw_treewells_k74_whole_lines.row)) s) true s) (fun _=>PySem.W.openGood KH.kView []):=by intro w os;kernel_rfl
theorem kL3:kLk (fun _ s=>(PySem.W.kHook KH.kHeap KH.kAddrs KH.kAddrs_eq).obs s) (PySem.W.kHook KH.kHeap KH.kAddrs KH.kAddrs_eq).val:=by intro w os;kernel_rfl
theorem kLeft:PySem.W.LeftO PySem.Challenge.rw_treewells_k74_whole_lines.row.prog KH.kView [] (fun s=>PySem.W.xlAt KH.kView [] s&&PySem.W.recOk (PySem.W.RowW.records (PySem.W.OpenRow.toRowW PySem.Challenge.rw_treewells_k74_whole_lines.row)) s) (PySem.W.kHook KH.kHeap KH.kAddrs KH.kAddrs_eq).obs (PySem.W.kHook KH.kHeap KH.kAddrs KH.kAddrs_eq).val 3538:=
 left_of kBoot (by intro w;kernel_rfl) kL1 kL2 kL3
end KH
namespace L2
open PySem PySem.Spec PyProof.Rows
abbrev Key:=Sum Int Str
def fz:Key->Value->Bool
 | .inl k,v=>Value.isInt k v
 | .inr x,v=>Value.isStrOf x v
def keyH (w:World):Key->Int
 | .inl k=>hashInt k
 | .inr x=>hashStr w x
theorem aZ:∀{k:Key} {v:Value},fz k v=true->(∃i t,k=Sum.inl i/\v=Value.int i t)∨(∃x t,k=Sum.inr x/\v=Value.str x t)
 | .inl i,v,h=>by
  obtain⟨t,e⟩:=Value.isInt_shape (k:=i) (v:=v) h;exact .inl ⟨i,t,rfl,e⟩
 | .inr x,v,h=>by
  obtain⟨t,e⟩:=Value.isStrOf_shape (x:=x) (v:=v) h;exact .inr ⟨x,t,rfl,e⟩
theorem keyIs_int (i:Int)(t:Tok):fz (.inl i) (.int i t)=true:=by simp[fz,Value.isInt]
theorem keyIs_str (x:Str)(t:Tok):fz (.inr x) (.str x t)=true:=by simp[fz,Value.isStrOf]
theorem li (a b:Int):decide ((Sum.inl a:Key)=Sum.inl b)=(a == b):=by
 by_cases e:a=b
 . subst e;simp
 . have h:¬(Sum.inl a:Key)=Sum.inl b:=fun q=>e (Sum.inl.inj q);rw[decide_eq_false h];exact(beq_eq_false_iff_ne.mpr e).symm
theorem key_rr (a b:Str):decide ((Sum.inr a:Key)=Sum.inr b)=decide (a=b):=by
 by_cases e:a=b
 . subst e;simp
 . have h:¬(Sum.inr a:Key)=Sum.inr b:=fun q=>e (Sum.inr.inj q);rw[decide_eq_false h,decide_eq_false e]
theorem key_lr (a:Int)(b:Str):decide ((Sum.inl a:Key)=Sum.inr b)=false:=decide_eq_false (fun q=>nomatch q)
theorem key_rl (a:Str)(b:Int):decide ((Sum.inr a:Key)=Sum.inl b)=false:=decide_eq_false (fun q=>nomatch q)
def aR (prog:Program)(w:World):PySem.KeyKind prog w Key where
 is:=fz
 hash:=keyH w
 inj:=fun v a b ha hb=>by
  rcases aZ ha with⟨i,t,rfl,rfl⟩ | ⟨x,t,rfl,rfl⟩
  . rcases aZ hb with⟨j,u,rfl,e⟩ | ⟨y,u,rfl,e⟩
    . injection e with e1 _;rw[e1]
    . exact nomatch e
  . rcases aZ hb with⟨j,u,rfl,e⟩ | ⟨y,u,rfl,e⟩
    . exact nomatch e
    . injection e with e1 _;rw[e1]
 byValue:=fun k v h=>by
  rcases aZ h with⟨i,t,rfl,rfl⟩ | ⟨x,t,rfl,rfl⟩<;>rfl
 pyHash:=fun hv h=>by
  rcases aZ hv with⟨i,t,rfl,rfl⟩ | ⟨x,t,rfl,rfl⟩
  . exact wpAny_pyHash_int h
  . exact wpAny_pyHash_str h
 eqBool:=fun hu hv h=>by
  rcases aZ hu with⟨i,t,rfl,rfl⟩ | ⟨x,t,rfl,rfl⟩
  . rcases aZ hv with⟨j,u,rfl,rfl⟩ | ⟨y,u,rfl,rfl⟩
    . rw[li]at h;exact wpAny_eqBool_int h
    . rw[key_lr]at h;exact SeqAt.EqAt.int_str i t y u _ _ _ _ h
  . rcases aZ hv with⟨j,u,rfl,rfl⟩ | ⟨y,u,rfl,rfl⟩
    . rw[key_rl]at h;exact SeqAt.EqAt.str_int x t j u _ _ _ _ h
    . rw[key_rr]at h;exact wpAny_eqBool_str h
 «strs»:=fun k x t v h=>by
  rcases aZ h with⟨i,u,rfl,e⟩ | ⟨y,u,rfl,e⟩
  . exact nomatch e
  . injection e with e1 _
    subst e1;cases v<;>rfl
theorem mixKind_int (prog:Program)(w:World)(i:Int)(t:Tok):(aR prog w).is (.inl i) (.int i t)=true:=keyIs_int i t
theorem mixKind_str (prog:Program)(w:World)(x:Str)(t:Tok):(aR prog w).is (.inr x) (.str x t)=true:=keyIs_str x t
end L2
namespace L2
open PySem PySem.Spec PyProof.Rows
inductive V where
 | non | bl (b:Bool) | int (i:Int) | str (x:Str) | byt (b:Array UInt8) | flt (b:UInt64) | ref (a:Addr) | ty (n:String)
 deriving DecidableEq
def RelV:V->Value->Prop
 | .non,u=>u=Value.none
 | .bl b,u=>u=Value.bool b
 | .int i,u=>∃t,u=Value.int i t
 | .str x,u=>∃t,u=Value.str x t
 | .byt b,u=>∃t,u=Value.bytes b t
 | .flt b,u=>∃t,u=Value.float b t
 | .ref a,u=>u=Value.ref a
 | .ty n,u=>u=Value.type n
abbrev Vals:List V->List Value->Prop:=Paired RelV
theorem Vals.length {xs:List V}{us:List Value}(r:Vals xs us):xs.length=us.length:=Paired.length r
theorem Vals.get:∀{xs:List V} {us:List Value} {i:Nat} {x:V},Vals xs us->xs[i]? = some x->∃u,us[i]? = some u/\RelV x u
 | _,_,_,_,.nil,e=>by simp at e
 | _,_,0,_,.cons r _,e=>by simp at e;subst e;exact⟨_,rfl,r⟩
 | _,_,i+1,x,.cons _ t,e=>by
  obtain⟨u,h1,h2⟩:=Vals.get (i:=i) (x:=x) t (by simpa using e)
  exact⟨u,by simpa using h1,h2⟩
theorem Vals.set {x:V}{u:Value}(r:RelV x u):∀{xs:List V} {us:List Value} (i:Nat),Vals xs us->Vals (xs.set i x) (us.set i u)
 | _,_,_,.nil=>.nil
 | _,_,0,.cons _ t=>.cons r t
 | _,_,i+1,.cons q t=>.cons q (Vals.set r i t)
theorem Vals.append:∀{xs ys:List V} {us ws:List Value},Vals xs us->Vals ys ws->Vals (xs++ys) (us++ws)
 | _,_,_,_,.nil,s=>s
 | _,_,_,_,.cons r t,s=>.cons r (Vals.append t s)
theorem Vals.take:∀{xs:List V} {us:List Value} (n:Nat),Vals xs us->Vals (xs.take n) (us.take n)
 | _,_,0,_=>.nil
 | _,_,_+1,.nil=>.nil
 | _,_,n+1,.cons r t=>.cons r (Vals.take n t)
theorem Vals.drop:∀{xs:List V} {us:List Value} (n:Nat),Vals xs us->Vals (xs.drop n) (us.drop n)
 | _,_,0,r=>r
 | _,_,_+1,.nil=>.nil
 | _,_,n+1,.cons _ t=>Vals.drop n t
def RelO:Option V->Option Value->Prop
 | some v,some u=>RelV v u
 | none,none=>True
 | _,_=>False
def KV {κ:Type}:List (κ×V)->List (κ×Value)->Prop:=Paired fun(p:κ×V) (q:κ×Value)=>p.1=q.1/\RelV p.2 q.2
def kV:Key->V
 | .inl i=>.int i
 | .inr x=>.str x
inductive HO where
 | lst (xs:List V)
 | tup (xs:List V)
 | dK (kvs:List (Key×V)) | dT (kvs:List (List Key×V))
 | set (S:Int->Bool) (n:Nat)
 | ins (C dx:Addr) (fs:List (Str×V))
 | own (x:Addr)
 | xd (fs:List (Str×V))
 | met (f x:Addr)
 | rng (lo hi:Int)
 | frz (o:Obj) (u:HO)
 | tbl (ps:Array Value)
 | cod (q:Str)
 | ext (φ:Heap->Prop)
def Per:HO->Prop
 | .tup _=>True
 | .cod _=>True
 | _=>False
def qOf (qs:Array Value):Str:=match (qs[0]?:Option Value)with
 | some (.str q _)=>q
 | _=>""
abbrev Hp:=Addr->Option HO
def upd (H:Hp)(a:Addr)(o:HO):Hp:=fun b=>if b=a then some o else H b
theorem a9 {H:Hp}{a:Addr}{o:HO}:upd H a o a=some o:=by unfold upd;rw[if_pos rfl]
theorem ac {H:Hp}{a b:Addr}{o:HO}(h:b≠a):upd H a o b=H b:=by unfold upd;rw[if_neg h]
theorem l7 {H:Hp}{a b:Addr}{o u:HO}(h:H a=some o)(h':H b=some u)(d:o≠u):a≠b:=by
 intro e;subst e;rw[h]at h';exact d (Option.some.inj h')
theorem a8 {H:Hp}{a b:Addr}{o:HO}(h:H a=some o)(h':H b=none):a≠b:=by
 intro e;subst e;rw[h]at h';cases h'
section
variable (P:Program)(w:World)
def ObjOk (H:Hp)(h:Heap)(a:Addr):HO->Prop
 | .lst xs=>xs.length≤sizeLine/\∃(its:List Value) (n:Nat),Vals xs its/\h.get? a=some { cls:=.type "list",data:=.seq its.toArray n }
 | .tup xs=>xs.length≤sizeLine/\∃its:List Value,Vals xs its/\IsTup h a its.toArray
 | .dK kvs=>kvs.length≤sizeLine/\(a == sysModules)=false/\∃vs,KV kvs vs/\h.DictOf (aR P w) a vs
 | .dT kvs=>kvs.length≤sizeLine/\(a == sysModules)=false/\∃xs:List (List Key×Addr×Value),
  Paired (fun(p:List Key×V) (q:List Key×Addr×Value)=>p.1=q.1/\H q.2.1=some (.tup (p.1.map kV))/\RelV p.2 q.2.2) kvs xs ∧
  ∃o es ep,h.get? a=some o/\o.ExactDict/\o.data = .dict es ep/\es.toList=xs.map (entryOfKey (tupleKind (aR P w)))/\(xs.map (·.1)).Nodup
 | .set S n=>h.SetOf (intKind P w) a S n
 | .ins C dx fs=>H dx=some (.own a)/\fs.length≤1000/\dx≠a/\h.get? a=some (PySem.W.instObj C dx) ∧
  ∃mA,h.Ns1 dx mA/\(∀f,RelO (fs.lookup f) (mA f))/\PySem.Within mA (fs.map (·.1))
 | .own _=>∃o,h.get? a=some o
 | .xd fs=>∃mA,h.Ns1 a mA/\∀f,RelO (fs.lookup f) (mA f)
 | .rng lo hi=>∃t u v,h.get? a=some { cls:=.type "range",data:=.fields #[.int lo t,.int hi u,.int 1 v] }
 | .frz o u=>h.get? a=some o/\ObjOk H h a u
 | .tbl qs=>∃ps:Array Value,h.get? a=some { cls:=.none,data:=.fields ps }/\TriplesOk ps.toList/\∀(pos:Pos) (cv:Value),codeAmong pos ps.toList=some cv->∃c,cv = .ref c/\H c=some (.cod (qOf qs))
 | .cod q=>h.CodeRec (.ref a) q
 | .met f x=>h.get? a=some (PySem.W.methodObj (.ref f) (.ref x))
 | .ext φ=>φ h/\(∃o,h.get? a=some o)/\∀h1 h2:Heap,φ h1->(∀o,h1.get? a=some o->h2.get? a=some o)->φ h2
def HOk (H:Hp)(h:Heap):Prop:=∀a o,H a=some o->ObjOk P w H h a o
end
section
variable {P:Program}{w:World}{H H':Hp}{h h':Heap}{a:Addr}{o:HO}
theorem ObjOk.lt (x:ObjOk P w H h a o):a < h.objs.size:=by
 cases o with
 | lst xs=>obtain⟨_,_,_,_,e⟩:=x;exact Heap.lt_size e
 | tup xs=>obtain⟨_,_,_,p⟩:=x;exact p.lt
 | dK kvs=>obtain⟨_,_,_,_,o,_,_,e,_⟩:=x;exact Heap.lt_size e
 | dT kvs=>obtain⟨_,_,_,_,o,_,_,e,_⟩:=x;exact Heap.lt_size e
 | set S n=>obtain⟨o,_,_,_,e,_⟩:=x;exact Heap.lt_size e
 | ins C dx fs=>obtain⟨_,_,_,e,_⟩:=x;exact Heap.lt_size e
 | own y=>obtain⟨_,e⟩:=x;exact Heap.lt_size e
 | xd fs=>obtain⟨_,⟨_,_,_,e,_⟩,_⟩:=x;exact Heap.lt_size e
 | rng lo hi=>obtain⟨_,_,_,e⟩:=x;exact Heap.lt_size e
 | frz ob u=>obtain⟨e,_⟩:=x;exact Heap.lt_size e
 | tbl ps=>obtain⟨_,e,_⟩:=x;exact Heap.lt_size e
 | cod q=>obtain⟨_,_,_,_,e0,e,_⟩:=x;cases e0;exact Heap.lt_size e
 | met f y=>exact Heap.lt_size (show h.get? a=some _ from x)
 | ext φ=>obtain⟨_,⟨_,e⟩,_⟩:=x;exact Heap.lt_size e
theorem Paired.mapP {α β:Type}{F G:α->β->Prop}:∀{l₁:List α} {l₂:List β},Paired F l₁ l₂->(∀a b,F a b->G a b)->Paired G l₁ l₂
 | _,_,.nil,_=>.nil
 | _,_,.cons r t,f=>.cons (f _ _ r) (Paired.mapP t f)
theorem ObjOk.stay (x:ObjOk P w H h a o)(k:∀b u,(b=a∨H b=some (.own a))->h.get? b=some u->h'.get? b=some u)(ho:∀b,H b=some (.own a)->H' b=some (.own a))(ht:∀b u,Per u->H b=some u->H' b=some u):ObjOk P w H' h' a o:=by
 induction o with
 | lst xs=>obtain⟨z,its,n,r,e⟩:=x;exact⟨z,its,n,r,k _ _ (.inl rfl) e⟩
 | tup xs=>obtain⟨z,its,r,ob,e,c⟩:=x;exact⟨z,its,r,ob,k _ _ (.inl rfl) e,c⟩
 | dK kvs=>obtain⟨z,y,vs,r,ob,es,ep,e,c⟩:=x;exact⟨z,y,vs,r,ob,es,ep,k _ _ (.inl rfl) e,c⟩
 | dT kvs =>
  obtain⟨z,y,xs,r,ob,es,ep,e,c⟩:=x;exact⟨z,y,xs,Paired.mapP r fun p q z=>⟨z.1,ht _ _ trivial z.2.1,z.2.2⟩,ob,es,ep,k _ _ (.inl rfl) e,c⟩
 | set S n=>obtain⟨ob,es,ep,t,e,c⟩:=x;exact⟨ob,es,ep,t,k _ _ (.inl rfl) e,c⟩
 | ins C dx fs =>
  obtain⟨d,z,ne,e,mA,⟨od,es,ep,e2,c⟩,r⟩:=x;exact⟨ho _ d,z,ne,k _ _ (.inl rfl) e,mA,⟨od,es,ep,k _ _ (.inr d) e2,c⟩,r⟩
 | own y=>obtain⟨ob,e⟩:=x;exact⟨ob,k _ _ (.inl rfl) e⟩
 | xd fs=>obtain⟨mA,⟨od,es,ep,e,c⟩,r⟩:=x;exact⟨mA,⟨od,es,ep,k _ _ (.inl rfl) e,c⟩,r⟩
 | rng lo hi=>obtain⟨t,u,v,e⟩:=x;exact⟨t,u,v,k _ _ (.inl rfl) e⟩
 | frz ob u ih=>obtain⟨e,q⟩:=x;exact⟨k _ _ (.inl rfl) e,ih q⟩
 | tbl qs =>
  obtain⟨ps,e,tr,f⟩:=x;exact⟨ps,k a _ (.inl rfl) e,tr,fun pos cv hc=>let ⟨c,e1,e2⟩:=f pos cv hc;⟨c,e1,ht _ _ trivial e2⟩⟩
 | cod q =>
  obtain⟨c,oc,vs,tq,e0,e,r⟩:=x;cases e0;exact⟨a,oc,vs,tq,rfl,k a _ (.inl rfl) e,r⟩
 | met f y =>
  have e:h.get? a=some (PySem.W.methodObj (.ref f) (.ref y)):=x;show h'.get? a=some (PySem.W.methodObj (.ref f) (.ref y));exact k a _ (.inl rfl) e
 | ext φ=>obtain⟨p,⟨o,e⟩,st⟩:=x;exact⟨st _ _ p fun o q=>k _ _ (.inl rfl) q,⟨o,k _ _ (.inl rfl) e⟩,st⟩
theorem HOk.lt (x:HOk P w H h)(e:H a=some o):a < h.objs.size:=(x a o e).lt
theorem HOk.fresh (x:HOk P w H h)(e:h.objs.size≤a):H a=none:=by
 cases q:H a with
 | none=>rfl
 | some u=>exact absurd (Nat.lt_of_lt_of_le (x.lt q) e) (Nat.lt_irrefl _)
theorem HOk.kept (x:HOk P w H h)(k:∀b u,h.get? b=some u->h'.get? b=some u):HOk P w H h':=fun a o e =>
 (x a o e).stay (fun b u _ q=>k b u q) (fun _ q=>q) fun _ _ _ q=>q
theorem HOk.laid (x:HOk P w H h)(k:∀b u,h.get? b=some u->h'.get? b=some u)(hp:h.objs.size≤a)(new:ObjOk P w (upd H a o) h' a o):HOk P w (upd H a o) h':=fun b u e=>by
 have hn:=x.fresh hp;by_cases hb:b=a
 . subst hb;rw[a9]at e;cases e;exact new
 . rw[ac hb]at e;exact(x b u e).stay (fun c v _ q=>k c v q) (fun c q=>by rw[ac (a8 q hn)];exact q) fun c xs _ q=>by rw[ac (a8 q hn)];exact q
end
def Rd (H:Hp)(a:Addr)(u:HO):Prop:=H a=some u∨∃o,H a=some (.frz o u)
theorem Rd.ok {P:Program}{w:World}{H:Hp}{h:Heap}{a:Addr}{u:HO}(r:Rd H a u)(x:HOk P w H h):ObjOk P w H h a u:=by
 rcases r with r | ⟨o,r⟩
 . exact x a u r
 . obtain⟨_,q⟩:=x a _ r;exact q
def Mut:Option HO->Prop
 | some (.lst _)=>True
 | some (.dK _)=>True
 | some (.dT _)=>True
 | some (.set _ _)=>True
 | some (.ins _ _ _)=>True
 | some (.ext _)=>True
 | _=>False
section
variable {P:Program}{w:World}{H:Hp}{h h':Heap}{x e:Addr}{o':HO}
theorem HOk.write (ok:HOk P w H h)(mu:Mut (H x))(he:e=x∨H e=some (.own x))(k:∀b u,b≠e->h.get? b=some u->h'.get? b=some u)(heo:∃u,h'.get? e=some u)(new:ObjOk P w (upd H x o') h' x o'):HOk P w (upd H x o') h':=fun b u q=>by
 have nown:∀c y,H c=some (.own y)->c≠x:=fun c y r z=>by subst z;rw[r]at mu;exact mu
 have ntup:∀c xs,H c=some (.tup xs)->c≠x:=fun c xs r z=>by subst z;rw[r]at mu;exact mu
 have nper:∀c u,Per u->H c=some u->c≠x:=fun c u pu r z=>by
  subst z;rw[r]at mu;cases u<;>first | exact mu | exact pu
 by_cases hb:b=x
 . subst hb;rw[a9]at q;cases q;exact new
 . rw[ac hb]at q;by_cases hbe:b=e
   . have q':H b=some (.own x):=by
      rcases he with z | z
      . exact absurd (hbe.trans z) hb
      . rw[hbe];exact z
     rw[q]at q';cases q';obtain⟨v,hv⟩:=heo;exact⟨v,by rw[hbe];exact hv⟩
   . refine(ok b u q).stay (fun c v hc r=>k c v ?_ r) (fun c r=>by rw[ac (nown c b r)];exact r) fun c u pu r=>by rw[ac (nper c u pu r)];exact r
     rcases hc with rfl | hc
     . exact hbe
     . rintro rfl;rcases he with z | z
       . exact nown c b hc z
       . rw[hc]at z;cases z;exact hb rfl
end
structure Un (fs ex:List Addr) (H H':Hp) (h h':Heap):Prop where
 keep:∀b o,h.get? b=some o->H b=none->b∉fs->b∉ex->h'.get? b=some o
 slot:∀b o,h.get? b=some o->H b=none->b∈fs->b∉ex->∃sl,h'.get? b=some { o with slots:=sl }
 free:∀b o,h.get? b=some o->H b=none->b∉ex->H' b=none
 there:∀b o,h.get? b=some o->b∉ex->∃o',h'.get? b=some o'
 tups:∀b xs,H b=some (.tup xs)->H' b=some (.tup xs)
 frzs:∀b o u,H b=some (.frz o u)->H' b=some (.frz o u)
 tbls:∀b ps,H b=some (.tbl ps)->∃more,H' b=some (.tbl (ps++more))
section
variable {fs fs' ex ex':List Addr}{H H1 H2:Hp}{h h1 h2 h':Heap}{a x e:Addr}{o:HO}
theorem Un.any (u:Un fs ex H H1 h h1){b:Addr}{ob:Obj}(q:h.get? b=some ob)(n:H b=none)(hx:b∉ex):∃sl,h1.get? b=some { ob with slots:=sl }:=by
 by_cases hb:b∈fs
 . exact u.slot b ob q n hb hx
 . exact⟨ob.slots,u.keep b ob q n hb hx⟩
theorem Un.kept (k:∀b u,h.get? b=some u->h'.get? b=some u):Un fs ex H H h h':=
 ⟨fun b ob q _ _ _=>k b ob q,fun b ob q _ _ _=>⟨ob.slots,k b ob q⟩,fun _ _ _ n _=>n,fun b ob q _=>⟨ob,k b ob q⟩,fun _ _ q=>q,fun _ _ _ q=>q,fun _ ps q=>⟨#[],by rw[q];simp⟩⟩
theorem Un.refl:Un fs ex H H h h:=Un.kept fun _ _ q=>q
theorem Un.laid (k:∀b u,h.get? b=some u->h'.get? b=some u)(hp:h.objs.size≤a)(hn:H a=none):Un fs ex H (upd H a o) h h' where
 keep:=fun b u q _ _ _=>k b u q
 slot:=fun b u q _ _ _=>⟨u.slots,k b u q⟩
 free:=fun b u q n _=>by rw[ac (Nat.ne_of_lt (Nat.lt_of_lt_of_le (Heap.lt_size q) hp))];exact n
 there:=fun b u q _=>⟨u,k b u q⟩
 tups:=fun b xs q=>by rw[ac (a8 q hn)];exact q
 frzs:=fun b u xs q=>by rw[ac (a8 q hn)];exact q
 tbls:=fun b ps q=>⟨#[],by rw[ac (a8 q hn),q];simp⟩
theorem Un.write (mu:Mut (H x))(he:e=x∨H e=some (.own x))(k:∀b u,b≠e->h.get? b=some u->h'.get? b=some u)(heo:∃u,h'.get? e=some u):Un fs ex H (upd H x o) h h':=by
 have hx:∀b,H b=none->b≠x:=fun b n z=>by subst z;rw[n]at mu;exact mu
 have hb:∀b,H b=none->b≠e:=fun b n z=>by
  subst z;rcases he with r | r
  . exact hx b n r
  . rw[n]at r;cases r
 have hm:∀b u,H b=some u->¬Mut (some u)->b≠x:=fun b u q nm z=>by subst z;rw[q]at mu;exact nm mu
 refine⟨fun b u q n _ _=>k b u (hb b n) q,fun b u q n _ _=>⟨u.slots,k b u (hb b n) q⟩,fun b u q n _=>by rw[ac (hx b n)];exact n,fun b u q _=>?_,
  fun b xs q=>by rw[ac (hm b _ q fun z=>z)];exact q,fun b u xs q=>by rw[ac (hm b _ q fun z=>z)];exact q,fun b ps q=>⟨#[],by rw[ac (hm b _ q fun z=>z),q];simp⟩⟩
 by_cases hbe:b=e
 . subst hbe;exact heo
 . exact⟨u,k b u hbe q⟩
end
def trk (h:Heap)(H:Hp):List Addr:=(List.range h.objs.size).filter fun a=>(H a).isSome
def hidT (h:Heap)(H:Hp):Heap:=PySem.W.hideAll h (trk h H)
theorem hidT_size (h:Heap)(H:Hp):(hidT h H).objs.size=h.objs.size:=PySem.W.hideAll_size _ _
theorem hidT_get {h:Heap}{H:Hp}{b:Addr}{o:Obj}(e:h.get? b=some o)(n:H b=none):(hidT h H).get? b=some o:=
 PySem.W.hideAll_get _ e fun hm=>by
  have q:(H b).isSome=true:=(List.mem_filter.mp hm).2;rw[n]at q;simp at q
theorem of_hidT {h:Heap}{H:Hp}{b:Addr}{o:Obj}(e:(hidT h H).get? b=some o):h.get? b=some o/\H b=none:=by
 have e':h.get? b=some o:=PySem.W.of_hideAll (trk h H) e;refine⟨e',?_⟩;cases q:H b with
 | none=>rfl
 | some x =>
  have hm:b∈trk h H:=List.mem_filter.mpr ⟨List.mem_range.mpr (Heap.lt_size e'),by simp[q]⟩
  have z:(hidT h H).get? b=none:=PySem.W.hideAll_none (trk h H) hm;rw[z]at e;cases e
def fZ (g h:Heap)(L:Addr):List (Addr×Obj):=(List.range h.objs.size).filterMap fun a=>if a=L∨(g.get? a).isSome=true then none else (h.get? a).map fun o=>(a,o)
theorem mem_allNews {g h:Heap}{L a:Addr}{o:Obj}(h1:a≠L)(h2:g.get? a=none)(h3:h.get? a=some o):(a,o)∈fZ g h L:=
 List.mem_filterMap.mpr ⟨a,List.mem_range.mpr (Heap.lt_size h3),by simp[h1,h2,h3]⟩
theorem of_mem_allNews {g h:Heap}{L:Addr}{p:Addr×Obj}(hp:p∈fZ g h L):p.1≠L/\g.get? p.1=none/\h.get? p.1=some p.2:=by
 obtain⟨b,_,e⟩:=List.mem_filterMap.mp hp
 split at e
 . cases e
 . rename_i hn;cases q:h.get? b with
   | none=>rw[q]at e;simp at e
   | some u =>
    rw[q]at e;simp only[Option.map_some,Option.some.injEq]at e;subst e;refine⟨fun z=>hn (.inl z),?_,q⟩;show g.get? b=none;cases r:g.get? b with
    | none=>rfl
    | some v=>exact(hn (.inr (by simp[r]))).elim
theorem news_all {g h:Heap}{L:Addr}:News g L h (fZ g h L):=fun p hp=>let ⟨a,b,c⟩:=of_mem_allNews hp;⟨c,a,b⟩
end L2
namespace L2
open PySem PySem.Spec PyProof.Rows
structure Mod (K:PySem.W.Frag) (mg:Str->Option Value) (base:Heap):Prop where
 kin:K.In base
 glob:base.Ns mainGlobals mg
 blt:∃mb,base.Ns builtinsNs mb/\∀x:Str,x ≠ "__name__"->mb x=bootBuiltins x
 nolimit:base.NoLimit
 bmain:∃bm ob,mg "__builtins__" = some (.ref bm)/\bm≠builtinsNs/\base.get? bm=some ob/\ob.cls = .type "module"/\ob.dict=some builtinsNs/\ob.data = .plain
structure Cx where
 prog:Program
 w:World
 K:PySem.W.Frag
 mg:Str->Option Value
 base:Heap
 A:Around
 N:List Str
 s₀:Shared
 H₀:Hp
 env:Env
 outer:List Env
 stack:List Env
 ex:List Addr
 fn:Str->Bool
 calm:Bool
 pn:List (Addr×Obj)
 xe:Value->Shared->Prop
def frs (l:List Env):List Addr:=l.filterMap (·.frame)
abbrev Cx.fs (X:Cx):List Addr:=frs X.outer
def Vis (sc:Scope)(x:Str):Prop:=sc.names.lookup x=some .local∨sc.names.lookup x=some .cell∨sc.names.lookup x=some .free
def Loc (sc:Scope)(x:Str):Prop:=sc.names.lookup x=some .local∨sc.names.lookup x=some .cell
def Look (env:Env)(h:Heap)(m:Str->Option Value)(x:Str)(u:Value):Prop:=
 (env.kindOf x=some .local/\m x=some u)∨((env.kindOf x=some .cell∨env.kindOf x=some .free)/\∃c,env.cells.lookup x=some c/\h.IsCell c (some u))
structure Cx.Ok (X:Cx):Prop where
 mod:Mod X.K X.mg X.base
 kind:X.env.scope.kind = .function
 glob:X.env.globals=mainGlobals
 blt:X.env.builtins=builtinsNs
 above:X.s₀.heap.objs.size≤X.env.locals
 inj:∀x y c,X.env.cells.lookup x=some c->X.env.cells.lookup y=some c->x=y
 has:∀x,(X.env.kindOf x=some .cell∨X.env.kindOf x=some .free)->∃c,X.env.cells.lookup x=some c
 cab:∀x c,X.fn x=true->X.env.cells.lookup x=some c->X.s₀.heap.objs.size≤c
 hd:X.calm=true->X.A.handled=none
 frames:X.A.frames=some X.stack
 stk:X.stack=X.outer∨(X.stack=X.env::X.outer/\X.env.frame=some X.env.locals)
 exf:∀b∈X.ex,b≠X.env.locals/\∀x c,X.env.cells.lookup x=some c->c≠b
 bs:∀b o,X.base.get? b=some o->X.s₀.heap.get? b=some o/\X.H₀ b=none
 bsz:X.base.objs.size≤X.s₀.heap.objs.size
 noex:∀b o,X.base.get? b=some o->b∉X.ex
 exfs:∀b∈X.ex,b∉X.fs
 funs:X.s₀.heap.FunFrames X.base X.outer
 frf:∀b∈X.fs,X.H₀ b=none
structure Inv (X:Cx) (pins:List (Addr×Obj)) (σ:List (Option V)) (H:Hp) (s:Shared):Prop where
 ok:X.Ok
 os:s.os=X.s₀.os
 bare:AllBare s.gens
 base:Un X.fs X.ex X.H₀ H X.s₀.heap s.heap
 loc:∃m,s.heap.Ns X.env.locals m/\∀(i:Nat) (x:Str) (v:V),X.N[i]? = some x->σ[i]? = some (some v)->Vis X.env.scope x->∃u,RelV v u/\Look X.env s.heap m x u
 cell:∀x c,X.env.cells.lookup x=some c->∃v,s.heap.IsCell c v
 free:H X.env.locals=none
 freeC:∀x c,X.env.cells.lookup x=some c->H c=none
 pin:∀p∈X.pn++pins,s.heap.get? p.1=some p.2/\H p.1=none/\p.1≠X.env.locals/\p.1∉X.fs/\∀v,p.2.data≠.cell v
 hok:HOk X.prog X.w H s.heap
 len:σ.length=X.N.length
section
variable {X:Cx}{pins:List (Addr×Obj)}{σ:List (Option V)}{H H':Hp}{s:Shared}{h':Heap}
theorem Cx.Ok.nofr (ok:X.Ok){b:Addr}{o:Obj}(e:X.base.get? b=some o):b∉X.fs:=fun hb=>by
 have:=(ok.funs.mem hb).1;rw[e]at this;cases this
theorem Inv.bs (I:Inv X pins σ H s):∀b o,X.base.get? b=some o->s.heap.get? b=some o/\H b=none:=fun b o e =>
 ⟨I.base.keep b o (I.ok.bs b o e).1 (I.ok.bs b o e).2 (I.ok.nofr e) (I.ok.noex b o e),I.base.free b o (I.ok.bs b o e).1 (I.ok.bs b o e).2 (I.ok.noex b o e)⟩
theorem Inv.bk (I:Inv X pins σ H s):∀b o,X.base.get? b=some o->s.heap.get? b=some o:=fun b o e=>(I.bs b o e).1
theorem Inv.mod (I:Inv X pins σ H s):Mod X.K X.mg X.base:=I.ok.mod
theorem Inv.kIn (I:Inv X pins σ H s):X.K.In s.heap:=I.ok.mod.kin.keeps I.bk
theorem Inv.fr (I:Inv X pins σ H s):∃m,Fr X.base X.env.locals s.heap m:=
 let ⟨m,hn,_⟩:=I.loc
 ⟨m,hn,I.bk,Nat.le_trans I.ok.bsz I.ok.above⟩
theorem Inv.lt (I:Inv X pins σ H s):X.env.locals < s.heap.objs.size:=let ⟨_,hn,_⟩:=I.loc;hn.lt
theorem Inv.sz (I:Inv X pins σ H s):X.s₀.heap.objs.size≤s.heap.objs.size:=Nat.le_trans I.ok.above (Nat.le_of_lt I.lt)
theorem Inv.nofs (I:Inv X pins σ H s){a:Addr}(h:s.heap.objs.size≤a):a∉X.fs:=fun hb=>by
 obtain⟨_,o,ho,_⟩:=I.ok.funs.mem hb;exact absurd (Nat.lt_of_lt_of_le (Heap.lt_size ho) (Nat.le_trans I.sz h)) (Nat.lt_irrefl _)
theorem Inv.cne (I:Inv X pins σ H s):∀x c,X.env.cells.lookup x=some c->c≠X.env.locals:=fun x c e z=>by
 obtain⟨v,o,ho,hd⟩:=I.cell x c e;obtain⟨m,⟨o',es,ep,ho',hd',_⟩,_⟩:=I.loc;rw[z,ho']at ho;cases ho;rw[hd']at hd;cases hd
theorem Inv.funs (I:Inv X pins σ H s):s.heap.FunFrames X.base X.outer:=by
 have all:∀(l:List Env),(∀b∈frs l,b∈X.fs)->X.s₀.heap.FunFrames X.base l->s.heap.FunFrames X.base l:=by
  intro l
  induction l with
  | nil=>intro _ _;trivial
  | cons env r ih =>
   intro hs hl;obtain⟨hk,⟨L,o,hf,hn,ho,hd⟩,hr⟩:=hl;have hL:L∈X.fs:=hs L (by unfold frs;rw[List.filterMap_cons,hf];exact List.mem_cons_self)
   obtain⟨sl,e⟩:=I.base.slot L o ho (I.ok.frf L hL) hL fun z=>I.ok.exfs L z hL;exact⟨hk,⟨L,_,hf,hn,e,hd⟩,ih (fun b hb=>hs b (by unfold frs;rw[List.filterMap_cons,hf];exact List.mem_cons_of_mem _ hb)) hr⟩
 exact all X.outer (fun _ hb=>hb) I.ok.funs
theorem Inv.stack (I:Inv X pins σ H s):s.heap.FunFrames X.base X.stack:=by
 rcases I.ok.stk with e | ⟨e,hf⟩
 . rw[e];exact I.funs
 . rw[e];obtain⟨m,hn,_⟩:=I.loc;refine .cons (by rw[I.ok.kind];decide) hf hn ?_ I.funs
   exact Heap.get?_none_of_le (Nat.le_trans I.ok.bsz I.ok.above)
theorem Inv.stkSub (I:Inv X pins σ H s):∀b∈frs X.stack,b∈X.env.locals::X.fs:=fun b hb=>by
 rcases I.ok.stk with e | ⟨e,hf⟩
 . rw[e]at hb;exact List.mem_cons_of_mem _ hb
 . rw[e]at hb;unfold frs at hb;rw[List.filterMap_cons,hf]at hb;exact hb
theorem Inv.stkFree (I:Inv X pins σ H s):∀b∈frs X.stack,H b=none:=fun b hb=>by
 rcases List.mem_cons.mp (I.stkSub b hb)with e | hb
 . rw[e];exact I.free
 . obtain⟨_,o,ho,_⟩:=I.ok.funs.mem hb;exact I.base.free b o ho (I.ok.frf b hb) fun z=>I.ok.exfs b z hb
theorem Inv.step {g':Array GenState}{t':Nat}{d':Drawn}{ch:List Addr}(I:Inv X pins σ H s)(hch:∀b∈ch,(b∈X.ex∨X.s₀.heap.objs.size≤b)/\b≠X.env.locals/\(∀x c,X.env.cells.lookup x=some c->c≠b)/\∀p∈X.pn++pins,p.1≠b)(keep:∀b o,b≠X.env.locals->b∉X.fs->b∉ch->s.heap.get? b=some o->H b=none->h'.get? b=some o)(slot:∀b o,b≠X.env.locals->b∈X.fs->b∉ch->s.heap.get? b=some o->H b=none->∃sl,h'.get? b=some { o with slots:=sl })(free:∀b o,b∉ch->s.heap.get? b=some o->H b=none->H' b=none)
 (there:∀b o,b∉ch->s.heap.get? b=some o->∃o',h'.get? b=some o')
 (tups:∀b xs,H b=some (.tup xs)->H' b=some (.tup xs)) (frzs:∀b o u,H b=some (.frz o u)->H' b=some (.frz o u)) (tbls:∀b ps,H b=some (.tbl ps)->∃more,H' b=some (.tbl (ps++more)))
 (ns:∀m,s.heap.Ns X.env.locals m->h'.Ns X.env.locals m) (hok:HOk X.prog X.w H' h') (hg:AllBare g') :
 Inv X pins σ H' { s with heap:=h',gens:=g',drawn:=d',toks:=t' }:=by
 have neL:∀b o,X.s₀.heap.get? b=some o->b≠X.env.locals:=fun b o e=>Nat.ne_of_lt (Nat.lt_of_lt_of_le (Heap.lt_size e) I.ok.above);have neC:∀b o,X.s₀.heap.get? b=some o->b∉X.ex->b∉ch:=fun b o e hx hb=>by
  rcases(hch b hb).1 with z | z
  . exact hx z
  . exact absurd (Nat.lt_of_lt_of_le (Heap.lt_size e) z) (Nat.lt_irrefl _)
 have cellK:∀x c,X.env.cells.lookup x=some c->∀v,s.heap.IsCell c v->h'.IsCell c v:=fun x c e v ⟨o,ho,hd⟩=>by
  have nch:c∉ch:=fun z=>(hch c z).2.2.1 x c e rfl;by_cases hc:c∈X.fs
  . obtain⟨sl,q⟩:=slot c o (I.cne x c e) hc nch ho (I.freeC x c e);exact⟨_,q,hd⟩
  . exact⟨o,keep c o (I.cne x c e) hc nch ho (I.freeC x c e),hd⟩
 refine⟨I.ok,I.os,hg,⟨fun b o e n hb hx=>?_,fun b o e n hb hx=>?_,fun b o e n hx=>?_,fun b o e hx=>?_,fun b xs e=>tups b xs (I.base.tups b xs e),fun b o xs e=>frzs b o xs (I.base.frzs b o xs e),fun b ps e=>?_⟩,?_,fun x c e=>?_,?_,fun x c e=>?_,fun p hp=>?_,hok,I.len⟩
 . exact keep b o (neL b o e) hb (neC b o e hx) (I.base.keep b o e n hb hx) (I.base.free b o e n hx)
 . obtain⟨sl,e1⟩:=I.base.slot b o e n hb hx;obtain⟨sl',e2⟩:=slot b _ (neL b o e) hb (neC b o e hx) e1 (I.base.free b o e n hx);exact⟨sl',e2⟩
 . obtain⟨o',e1⟩:=I.base.there b o e hx;exact free b o' (neC b o e hx) e1 (I.base.free b o e n hx)
 . obtain⟨o',e1⟩:=I.base.there b o e hx;exact there b o' (neC b o e hx) e1
 . obtain⟨m1,e1⟩:=I.base.tbls b ps e;obtain⟨m2,e2⟩:=tbls b _ e1;exact⟨m1++m2,by rw[e2,Array.append_assoc]⟩
 . obtain⟨m,hn,hl⟩:=I.loc;refine⟨m,ns m hn,fun i x v e1 e2 e3=>?_⟩;obtain⟨u,r,l⟩:=hl i x v e1 e2 e3;refine⟨u,r,?_⟩;rcases l with l | ⟨k,c,e,z⟩
   . exact .inl l
   . exact .inr ⟨k,c,e,cellK x c e _ z⟩
 . obtain⟨v,z⟩:=I.cell x c e;exact⟨v,cellK x c e v z⟩
 . obtain⟨m,⟨o,_,_,ho,_⟩,_⟩:=I.loc;exact free _ o (fun z=>(hch _ z).2.1 rfl) ho I.free
 . obtain⟨v,o,ho,hd⟩:=I.cell x c e;exact free c o (fun z=>(hch c z).2.2.1 x c e rfl) ho (I.freeC x c e)
 . obtain⟨e,n,ne,nf,d⟩:=I.pin p hp;have nch:p.1∉ch:=fun z=>(hch p.1 z).2.2.2 p hp rfl;exact⟨keep p.1 p.2 ne nf nch e n,free p.1 p.2 nch e n,ne,nf,d⟩
theorem Inv.un {t':Nat}(I:Inv X pins σ H s)(u:Un X.fs [] H H' s.heap h')(hok:HOk X.prog X.w H' h'):Inv X pins σ H' { s with heap:=h',toks:=t' }:=by
 obtain⟨m,⟨o,es,ep,ho,r⟩,_⟩:=id I.loc;obtain⟨sl,hL⟩:=u.any ho I.free (by simp)
 exact I.step (g':=s.gens) (d':=s.drawn) (ch:=[]) (fun _ z=>nomatch z) (fun b o _ hb _ e n=>u.keep b o e n hb (by simp)) (fun b o _ hb _ e n=>u.slot b o e n hb (by simp)) (fun b o _ e n=>u.free b o e n (by simp)) (fun b o _ e=>u.there b o e (by simp)) u.tups u.frzs u.tbls (fun m' hm=>by
  obtain⟨o',es',ep',ho',r'⟩:=hm;rw[ho]at ho';cases ho';exact⟨_,es',ep',hL,r'⟩) hok I.bare
theorem Inv.call {g':Array GenState}{t':Nat}{d':Drawn}{ch:List Addr}(I:Inv X pins σ H s)(u:Un (frs X.stack) ch H H' s.heap h')(hok:HOk X.prog X.w H' h')(hg:AllBare g')(hch:∀b∈ch,(b∈X.ex∨X.s₀.heap.objs.size≤b)/\b≠X.env.locals/\(∀x c,X.env.cells.lookup x=some c->c≠b)/\∀p∈X.pn++pins,p.1≠b):Inv X pins σ H' { s with heap:=h',gens:=g',drawn:=d',toks:=t' }:=by
 obtain⟨m,⟨o,es,ep,ho,r⟩,_⟩:=id I.loc;obtain⟨sl,hL⟩:=u.any ho I.free fun z=>(hch _ z).2.1 rfl;exact I.step (ch:=ch) hch (fun b o hL hb hc e n=>u.keep b o e n (fun z=>(List.mem_cons.mp (I.stkSub b z)).elim hL hb) hc) (fun b o _ _ hc e n=>u.any e n hc) (fun b o hc e n=>u.free b o e n hc) (fun b o hc e=>u.there b o e hc) u.tups u.frzs u.tbls (fun m' hm=>by
  obtain⟨o',es',ep',ho',r'⟩:=hm;rw[ho]at ho';cases ho';exact⟨_,es',ep',hL,r'⟩) hok hg
theorem Inv.turned {t':Nat}{it:Addr}(I:Inv X pins σ H s)(k:∀b o,b≠it->s.heap.get? b=some o->h'.get? b=some o)(hn:H it=none)(hL:it≠X.env.locals)(h1:it∈X.ex∨X.s₀.heap.objs.size≤it)(h2:∀x c,X.env.cells.lookup x=some c->c≠it)(h3:∀p∈X.pn++pins,p.1≠it):Inv X pins σ H { s with heap:=h',toks:=t' }:=by
 have nit:∀b u,H b=some u->b≠it:=fun b u e z=>by rw[z,hn]at e;cases e
 refine I.step (g':=s.gens) (d':=s.drawn) (ch:=[it]) (fun b hb=>?_) (fun b o _ _ hc e _=>k b o (fun z=>hc (by simp[z])) e) (fun b o _ _ hc e _=>⟨o.slots,k b o (fun z=>hc (by simp[z])) e⟩) (fun _ _ _ _ n=>n)
  (fun b o hc e=>⟨o,k b o (fun z=>hc (by simp[z])) e⟩) (fun _ _ e=>e) (fun _ _ _ e=>e) (fun b ps e=>⟨#[],by rw[e];simp⟩) (fun m hm=>?_) (fun b u e=>?_) I.bare
 . have e:b=it:=by simpa using hb
   subst e;exact⟨h1,hL,h2,h3⟩
 . obtain⟨o,es,ep,ho,r⟩:=hm;exact⟨o,es,ep,k _ o (Ne.symm hL) ho,r⟩
 . refine(I.hok b u e).stay (fun c v hc q=>k c v ?_ q) (fun _ q=>q) fun _ _ _ q=>q;rcases hc with z | z
   . rw[z];exact nit b u e
   . exact nit c _ z
theorem Inv.tok (I:Inv X pins σ H s)(t:Nat):Inv X pins σ H { s with toks:=t }:=I.un (h':=s.heap) (t':=t) Un.refl I.hok
theorem Inv.kept {t':Nat}(I:Inv X pins σ H s)(k:∀b u,s.heap.get? b=some u->h'.get? b=some u):Inv X pins σ H { s with heap:=h',toks:=t' }:=I.un (Un.kept k) (I.hok.kept k)
theorem Inv.laid {a:Addr}{o:HO}{t':Nat}(I:Inv X pins σ H s)(k:∀b u,s.heap.get? b=some u->h'.get? b=some u)(hp:s.heap.objs.size≤a)(new:ObjOk X.prog X.w (upd H a o) h' a o):Inv X pins σ (upd H a o) { s with heap:=h',toks:=t' }:=I.un (Un.laid k hp (I.hok.fresh hp)) (I.hok.laid k hp new)
theorem Inv.write {x e:Addr}{o:HO}{t':Nat}(I:Inv X pins σ H s)(mu:Mut (H x))(he:e=x∨H e=some (.own x))(k:∀b u,b≠e->s.heap.get? b=some u->h'.get? b=some u)(heo:∃u,h'.get? e=some u)(new:ObjOk X.prog X.w (upd H x o) h' x o):Inv X pins σ (upd H x o) { s with heap:=h',toks:=t' }:=I.un (Un.write mu he k heo) (I.hok.write mu he k heo new)
theorem Inv.weak {σ':List (Option V)}(I:Inv X pins σ H s)(hl:σ'.length=σ.length)(w:∀(i:Nat) v,σ'[i]? = some (some v)->σ[i]? = some (some v)):Inv X pins σ' H s:=
 ⟨I.ok,I.os,I.bare,I.base,let ⟨m,hn,hl'⟩:=I.loc;⟨m,hn,fun i x v e1 e2 e3=>hl' i x v e1 (w i v e2) e3⟩,I.cell,I.free,I.freeC,I.pin,I.hok,hl.trans I.len⟩
theorem Inv.pins_of {pins':List (Addr×Obj)}(I:Inv X pins σ H s)(h:∀p∈pins',s.heap.get? p.1=some p.2/\H p.1=none/\p.1≠X.env.locals/\p.1∉X.fs/\∀v,p.2.data≠.cell v):Inv X pins' σ H s:=
 ⟨I.ok,I.os,I.bare,I.base,I.loc,I.cell,I.free,I.freeC,fun p hp=>(List.mem_append.mp hp).elim (fun z=>I.pin p (List.mem_append_left _ z)) (h p),I.hok,I.len⟩
theorem jd {N:List Str}(hN:N.Nodup){i j:Nat}{x:Str}(a:N[i]? = some x)(b:N[j]? = some x):i=j:=by
 obtain⟨h1,e1⟩:=List.getElem?_eq_some_iff.mp a;obtain⟨h2,e2⟩:=List.getElem?_eq_some_iff.mp b;exact(List.getElem_inj hN).mp (e1.trans e2.symm)
theorem gP {M:Model}{A:Around}{E:Value->Shared->Prop}{i:Nat}{x:Str}{v:V}{u:Value}{Q:Unit->Shared->Prop}(I:Inv X pins σ H s)(hN:X.N.Nodup)(hi:X.N[i]? = some x)(hx:Loc X.env.scope x)(r:RelV v u)(h:∀s',Inv X pins (σ.set i (some v)) H s'->(∃a,Heap.SameBut a s.heap s'.heap/\(a=X.env.locals∨X.env.cells.lookup x=some a))->Q () s')(hf:X.fn x=true∨X.env.scope.names.lookup x=some .local:=by first | exact .inl rfl | exact .inr rfl | assumption):wpAny M A (storeName X.env x u) Q E s:=by
 obtain⟨m,hn,hl⟩:=id I.loc;have hcls:(X.env.scope.kind == .class||(X.env.scope.kind == .module&&X.env.locals != X.env.globals))=false:=by rw[I.ok.kind];rfl
 have hiσ:i < σ.length:=by rw[I.len];exact(List.getElem?_eq_some_iff.mp hi).1
 have cne:=I.cne;have tracked:∀{a:Addr} {h':Heap},(∃o,s.heap.get? a=some o/\H a=none)->Heap.SameBut a s.heap h'->HOk X.prog X.w H h':=fun{a h'} ha hs b ob e=>by
  obtain⟨_,_,hfree⟩:=ha;refine(I.hok b ob e).stay (fun c w' hc q=>(hs.2 c ?_).trans q) (fun _ q=>q) fun _ _ _ q=>q;rintro rfl;rcases hc with rfl | hc
  . rw[hfree]at e;cases e
  . rw[hfree]at hc;cases hc
 rcases hx with hk | hk
 . refine wpAny_storeName_local hk hn (fun h' hn' hs=>?_) hcls;obtain⟨oL,_,_,hoL,_⟩:=id hn;refine h _ ⟨I.ok,I.os,I.bare,⟨fun b o e n hb hx=>?_,fun b o e n hb hx=>?_,I.base.free,fun b o e hx=>?_,I.base.tups,I.base.frzs,I.base.tbls⟩,⟨_,hn',fun j y v' e1 e2 e3=>?_⟩,fun y c e=>?_,I.free,I.freeC,fun p hp=>?_,tracked ⟨oL,hoL,I.free⟩ hs,by simpa using I.len⟩ ⟨_,hs,.inl rfl⟩
   . exact(hs.2 b (Nat.ne_of_lt (Nat.lt_of_lt_of_le (Heap.lt_size e) I.ok.above))).trans (I.base.keep b o e n hb hx)
   . obtain⟨sl,e1⟩:=I.base.slot b o e n hb hx;exact⟨sl,(hs.2 b (Nat.ne_of_lt (Nat.lt_of_lt_of_le (Heap.lt_size e) I.ok.above))).trans e1⟩
   . obtain⟨o',e1⟩:=I.base.there b o e hx;exact⟨o',(hs.2 b (Nat.ne_of_lt (Nat.lt_of_lt_of_le (Heap.lt_size e) I.ok.above))).trans e1⟩
   . by_cases hj:j=i
     . subst hj;rw[hi]at e1;cases e1;rw[List.getElem?_set_self hiσ]at e2;cases e2;exact⟨u,r,.inl ⟨hk,by simp⟩⟩
     . rw[List.getElem?_set_ne (Ne.symm hj)]at e2;obtain⟨u',r',q⟩:=hl j y v' e1 e2 e3;refine⟨u',r',?_⟩;rcases q with⟨k,e⟩ | ⟨k,c,e,z⟩
       . refine .inl ⟨k,?_⟩;have:y≠x:=fun e=>hj (jd hN e1 (e▸hi));simp[this,e]
       . exact .inr ⟨k,c,e,z.sameBut hs (cne y c e)⟩
   . obtain⟨w',z⟩:=I.cell y c e;exact⟨w',z.sameBut hs (cne y c e)⟩
   . obtain⟨e,n,ne,nf,d⟩:=I.pin p hp;exact⟨(hs.2 p.1 ne).trans e,n,ne,nf,d⟩
 . have hfn:X.fn x=true:=by
    rcases hf with z | z
    . exact z
    . rw[z]at hk;cases hk
   obtain⟨c,hc⟩:=I.ok.has x (.inl hk);obtain⟨w',z⟩:=I.cell x c hc;refine wpAny_storeName_cell I.ok.kind hk hc z (fun h' hc' hs=>?_);obtain⟨oc,hoc,hocd⟩:=id z;refine h { s with heap:=h' } ⟨I.ok,I.os,I.bare,⟨fun b o e n hb hx=>?_,fun b o e n hb hx=>?_,I.base.free,fun b o e hx=>?_,I.base.tups,I.base.frzs,I.base.tbls⟩,⟨m,hn.sameBut hs (Ne.symm (cne x c hc)),fun j y v' e1 e2 e3=>?_⟩,fun y c' e=>?_,I.free,I.freeC,fun p hp=>?_,tracked ⟨oc,hoc,I.freeC x c hc⟩ hs,by simpa using I.len⟩ ⟨c,hs,.inr hc⟩
   . exact(hs.2 b (Nat.ne_of_lt (Nat.lt_of_lt_of_le (Heap.lt_size e) (I.ok.cab x c hfn hc)))).trans (I.base.keep b o e n hb hx)
   . obtain⟨sl,e1⟩:=I.base.slot b o e n hb hx;exact⟨sl,(hs.2 b (Nat.ne_of_lt (Nat.lt_of_lt_of_le (Heap.lt_size e) (I.ok.cab x c hfn hc)))).trans e1⟩
   . obtain⟨o',e1⟩:=I.base.there b o e hx;exact⟨o',(hs.2 b (Nat.ne_of_lt (Nat.lt_of_lt_of_le (Heap.lt_size e) (I.ok.cab x c hfn hc)))).trans e1⟩
   . by_cases hj:j=i
     . subst hj;rw[hi]at e1;cases e1;rw[List.getElem?_set_self hiσ]at e2;cases e2;exact⟨u,r,.inr ⟨.inl hk,c,hc,hc'⟩⟩
     . rw[List.getElem?_set_ne (Ne.symm hj)]at e2;obtain⟨u',r',q⟩:=hl j y v' e1 e2 e3;refine⟨u',r',?_⟩;rcases q with q | ⟨k,c',e,z'⟩
       . exact .inl q
       . refine .inr ⟨k,c',e,z'.sameBut hs ?_⟩;rintro rfl;exact hj (jd hN e1 (I.ok.inj _ _ _ e hc▸hi))
   . by_cases hcc:c'=c
     . subst hcc;exact⟨_,hc'⟩
     . obtain⟨w2,z2⟩:=I.cell y c' e;exact⟨w2,z2.sameBut hs hcc⟩
   . obtain⟨e,n,ne,nf,d⟩:=I.pin p hp;refine⟨(hs.2 p.1 ?_).trans e,n,ne,nf,d⟩;intro q;rw[q,hoc]at e;have q':oc=p.2:=Option.some.inj e;exact d w' (by rw[←q'];exact hocd)
theorem ee {M:Model}{A:Around}{E:Value->Shared->Prop}{i:Nat}{x:Str}{v:V}{u:Value}{Q:Unit->Shared->Prop}(I:Inv X pins σ H s)(hN:X.N.Nodup)(hi:X.N[i]? = some x)(hx:Loc X.env.scope x)(r:RelV v u)(h:∀s',Inv X pins (σ.set i (some v)) H s'->Q () s')(hf:X.fn x=true∨X.env.scope.names.lookup x=some .local:=by first | exact .inl rfl | exact .inr rfl | assumption):wpAny M A (storeName X.env x u) Q E s:=
 gP I hN hi hx r (fun s' I' _=>h s' I') hf
theorem Inv.call' {s':Shared}{ch:List Addr}(I:Inv X pins σ H s)(ho:s'.os=s.os)(u:Un (frs X.stack) ch H H' s.heap s'.heap)(hok:HOk X.prog X.w H' s'.heap)(hg:AllBare s'.gens)(hch:∀b∈ch,(b∈X.ex∨X.s₀.heap.objs.size≤b)/\b≠X.env.locals/\(∀x c,X.env.cells.lookup x=some c->c≠b)/\∀p∈X.pn++pins,p.1≠b):Inv X pins σ H' s':=by
 obtain⟨h',g',d',t',o'⟩:=s';have e:o'=s.os:=ho;subst e;exact I.call (g':=g') (t':=t') (d':=d') u hok hg hch
end
abbrev XK:=Value->Option Addr->Hp->Prop
abbrev St:=List (Option V)
abbrev VK:=V->Hp->Prop
abbrev TE:=St->Hp->VK->Prop
abbrev TT:=St->Hp->(Bool->Hp->Prop)->Prop
abbrev TA:=St->Hp->(List V->Hp->Prop)->Prop
structure Ends where
 nx:St->Hp->Prop
 rt:VK
 bk:St->Hp->Prop:=fun _ _=>False
 ct:St->Hp->Prop:=fun _ _=>False
abbrev TS:=Ends->St->Hp->Prop
def EP (X:Cx)(pins:List (Addr×Obj))(σ:St)(Q:VK)(u:Value)(s':Shared):Prop:=∃v H',Inv X pins σ H' s'/\RelV v u/\Q v H'
def TP (X:Cx)(pins:List (Addr×Obj))(σ:St)(Q:Bool->Hp->Prop)(b:Bool)(s':Shared):Prop:=∃H',Inv X pins σ H' s'/\Q b H'
def AP (X:Cx)(pins:List (Addr×Obj))(σ:St)(Q:List V->Hp->Prop)(us:List Value)(s':Shared):Prop:=∃vs H',Inv X pins σ H' s'/\Vals vs us/\Q vs H'
def SP (X:Cx)(pins:List (Addr×Obj))(D:Ends)(f:Flow)(s':Shared):Prop:=
 match f with
 | .next=>∃σ' H',Inv X pins σ' H' s'/\D.nx σ' H'
 | .brk=>∃σ' H',Inv X pins σ' H' s'/\D.bk σ' H'
 | .cont=>∃σ' H',Inv X pins σ' H' s'/\D.ct σ' H'
 | .ret u=>∃v σ' H',Inv X pins σ' H' s'/\RelV v u/\D.rt v H'
def PE (X:Cx)(e:Expr)(t:TE):Prop:=
 ∀(pins:List (Addr×Obj)) (s:Shared) (σ:St) (H:Hp) (Q:VK),Inv X pins σ H s->t σ H Q->wpAny (model X.prog X.w) X.A (eval e X.env) (EP X pins σ Q) X.xe s
def PT (X:Cx)(e:Expr)(t:TT):Prop:=
 ∀(pins:List (Addr×Obj)) (s:Shared) (σ:St) (H:Hp) (Q:Bool->Hp->Prop),Inv X pins σ H s->t σ H Q->wpAny (model X.prog X.w) X.A (isTrue e X.env (eval e X.env)) (TP X pins σ Q) X.xe s
def PW (X:Cx)(e:Expr)(t:TT):Prop:=
 ∀(whole:Sem Value) (pins:List (Addr×Obj)) (s:Shared) (σ:St) (H:Hp) (Q:Bool->Hp->Prop),Inv X pins σ H s->t σ H Q->wpAny (model X.prog X.w) X.A (isTrue e X.env whole) (TP X pins σ Q) X.xe s
theorem PW.pt {X:Cx}{e:Expr}{t:TT}(h:PW X e t):PT X e t:=h _
def PA (X:Cx)(es:List Expr)(t:TA):Prop:=
 ∀(pos:Pos) (pins:List (Addr×Obj)) (s:Shared) (σ:St) (H:Hp) (Q:List V->Hp->Prop),Inv X pins σ H s->t σ H Q->wpAny (model X.prog X.w) X.A (spliced (backTo pos (starEach es X.env))) (AP X pins σ Q) X.xe s
def PS (X:Cx)(st:Stmt)(t:TS):Prop:=
 ∀(pins:List (Addr×Obj)) (s:Shared) (σ:St) (H:Hp) (D:Ends),Inv X pins σ H s->t D σ H->wpAny (model X.prog X.w) X.A (exec st X.env) (SP X pins D) X.xe s
def PSs (X:Cx)(st:List Stmt)(t:TS):Prop:=
 ∀(pins:List (Addr×Obj)) (s:Shared) (σ:St) (H:Hp) (D:Ends),Inv X pins σ H s->t D σ H->wpAny (model X.prog X.w) X.A (execs st X.env) (SP X pins D) X.xe s
theorem thn {α:Type}{t:Sem α}{Q Q':α->Shared->Prop}{M:Model}{A:Around}{E:Value->Shared->Prop}{s:Shared}(h:wpAny M A t Q E s)(hQ:∀a s,Q a s->Q' a s):wpAny M A t Q' E s:=wpAny_mono h hQ fun _ _ x=>x
end L2
namespace L2
open PySem PySem.Spec PyProof.Rows
section
variable {X:Cx}
def tVar (i:Nat):TE:=fun σ H Q=>∃v,σ[i]? = some (some v)/\Q v H
def tC (v:V):TE:=fun _ H Q=>Q v H
theorem pe_var {i:Nat}{x:Str}{pos:Pos}(hN:X.N[i]? = some x)(hv:Vis X.env.scope x)(hd:(x == ("__debug__" : Str))=false:=by decide)(hcd:(x == ("__classdict__" : Str))=false:=by decide):PE X (.Name x pos) (tVar i):=by
 intro pins s σ H Q I h;obtain⟨v,e,h⟩:=h;obtain⟨m,hn,hl⟩:=I.loc;obtain⟨u,r,l⟩:=hl i x v hN e hv;have fin:EP X pins σ Q u s:=⟨v,H,I,r,h⟩;rcases l with⟨hk,hm⟩ | ⟨hk,c,hc,hcell⟩
 . exact wpAny_Name (wpAny_loadName_local I.ok.kind hk hn hm fin) hd
 . rcases hk with hk | hk
   . exact wpAny_Name (wpAny_loadName_cell I.ok.kind hk hc hcell fin) hd
   . exact wpAny_Name (wpAny_loadName_free I.ok.kind hk hc hcell fin hcd) hd
theorem ag {i j pos}:PE X (.Constant (.int i) j pos) (tC (.int i)):=fun _ _ _ H _ I h=>wpAny_Constant_int ⟨.int i,H,I.tok _,⟨_,rfl⟩,h⟩
theorem gX {b j pos}:PE X (.Constant (.bool b) j pos) (tC (.bl b)):=fun _ _ _ H _ I h=>Constant_bool ⟨.bl b,H,I,rfl,h⟩
def Gl (X:Cx)(x:Str):Prop:=X.env.kindOf x=some .globalImplicit
theorem k9 {E:Value->Shared->Prop}{pins:List (Addr×Obj)}{s:Shared}{σ:St}{H:Hp}{x:Str}{u:Value}{pos:Pos}{Q:Value->Shared->Prop}(I:Inv X pins σ H s)(hg:Gl X x)(hm:X.mg x=some u)(h:Q u s)(hd:(x == ("__debug__" : Str))=false:=by decide):wpAny (model X.prog X.w) X.A (eval (.Name x pos) X.env) Q E s:=
 Calls.Name_function_global I.ok.kind hg (Calls.loadGlobal_global (by rw[I.ok.glob];exact I.mod.glob.keeps I.bk) hm h) hd
theorem bY {E:Value->Shared->Prop}{pins:List (Addr×Obj)}{s:Shared}{σ:St}{H:Hp}{x:Str}{u:Value}{pos:Pos}{Q:Value->Shared->Prop}(I:Inv X pins σ H s)(hg:Gl X x)(hm:X.mg x=none)(hv:bootBuiltins x=some u)(h:Q u s)(hn:x ≠ "__name__":=by decide)(hd:(x == ("__debug__" : Str))=false:=by decide):wpAny (model X.prog X.w) X.A (eval (.Name x pos) X.env) Q E s:=by
 obtain⟨mb,h1,h2⟩:=I.mod.blt;exact Calls.Name_function_global I.ok.kind hg (Calls.loadGlobal_builtin (by rw[I.ok.glob];exact I.mod.glob.keeps I.bk) hm (by rw[I.ok.blt];exact h1.keeps I.bk) ((h2 x hn).trans hv) h) hd
theorem pe_glob {x:Str}{v:V}{u:Value}{pos:Pos}(hg:Gl X x)(hm:X.mg x=some u)(r:RelV v u)(hd:(x == ("__debug__" : Str))=false:=by decide):PE X (.Name x pos) (tC v):=
 fun _ _ _ H _ I h=>k9 I hg hm ⟨v,H,I,r,h⟩ hd
theorem eG {x:Str}{v:V}{u:Value}{pos:Pos}(hg:Gl X x)(hm:X.mg x=none)(hv:bootBuiltins x=some u)(r:RelV v u)(hn:x ≠ "__name__":=by decide)(hd:(x == ("__debug__" : Str))=false:=by decide):PE X (.Name x pos) (tC v):=
 fun _ _ _ H _ I h=>bY I hg hm hv ⟨v,H,I,r,h⟩ hn hd
variable {a b:Expr}{ta tb:TE}{pos:Pos}
def PC (X:Cx)(op:CmpOp)(a b:Expr)(t:TE):Prop:=
 ∀(pins:List (Addr×Obj)) (s:Shared) (σ:St) (H:Hp) (Q:VK),Inv X pins σ H s->t σ H Q →
  wpAny (model X.prog X.w) X.A (eval a X.env) (fun v s₁=>wpAny (model X.prog X.w) X.A (eval b X.env) (fun u s₂=>wpAny (model X.prog X.w) X.A (compareOp op v u) (EP X pins σ Q) X.xe s₂) X.xe s₁) X.xe s
def tB (t:TE):TT:=fun σ H Q=>t σ H fun x H1=>∃c,x = .bl c/\Q c H1
theorem eZ {op:CmpOp}{t:TE}(h:PC X op a b t)(h1:behindInMarks op b=false:=by first | exact nobehind _ (by decide) (by decide) | rfl):PT X (.Compare a [op] [b] pos) (tB t):=by
 intro pins s σ H Q I hw;refine wpAny_isTrue_Compare1 (thn (h pins s σ H _ I hw) fun v s1 h1=>thn h1 fun u s2 h2=>thn h2 fun c s3 ⟨x,H1,I1,r1,q1⟩=>?_) h1;obtain⟨d,rfl,q⟩:=q1;cases r1;exact wpAny_truthy_bool ⟨H1,I1,q⟩
theorem dj {e:Expr}{t:TE}(h:PE X e t)(he:∀whole,isTrue e X.env whole=(do let v ←whole;standAt e.pos;holding [v] (truthy v)):=by intro _;rfl):PT X e (tB t):=by
 intro pins s σ H Q I hw;refine isTrue_plain (thn (h pins s σ H _ I hw) fun v s1 ⟨x,H1,I1,r1,q1⟩=>?_) (he _);obtain⟨d,rfl,q⟩:=q1;cases r1;exact wpAny_truthy_bool ⟨H1,I1,q⟩
variable {tA tB':TT}{rest:List Expr}
def tAnd (t u:TT):TT:=fun σ H Q=>t σ H fun c H1=>if c=true then u σ H1 Q else Q false H1
def tOr (t u:TT):TT:=fun σ H Q=>t σ H fun c H1=>if c=true then Q true H1 else u σ H1 Q
def tNot (t:TT):TT:=fun σ H Q=>t σ H fun c H1=>Q (!c) H1
theorem dF (ha:PT X a tA):PW X (.BoolOp .And [a] pos) tA:=by
 intro wh pins s σ H Q I h;refine isTrue_and (thn (ha pins s σ H Q I h) fun c s1 e=>?_);cases c with
 | true=>exact isTrue_and_nil e
 | false=>exact e
theorem eX (ha:PT X a tA):PW X (.BoolOp .Or [a] pos) tA:=by
 intro wh pins s σ H Q I h;refine isTrue_or (thn (ha pins s σ H Q I h) fun c s1 e=>?_);cases c with
 | false=>exact isTrue_or_nil e
 | true=>exact e
theorem eY (ha:PT X a tA)(hb:PW X (.BoolOp .And (b::rest) pos) tB'):PW X (.BoolOp .And (a::b::rest) pos) (tAnd tA tB'):=by
 intro wh pins s σ H Q I h;refine isTrue_and (thn (ha pins s σ H _ I h) fun c s1 ⟨H1,I1,q1⟩=>?_);cases c with
 | true=>exact hb wh pins s1 σ H1 Q I1 q1
 | false=>exact⟨H1,I1,q1⟩
theorem ft (ha:PT X a tA)(hb:PW X (.BoolOp .Or (b::rest) pos) tB'):PW X (.BoolOp .Or (a::b::rest) pos) (tOr tA tB'):=by
 intro wh pins s σ H Q I h;refine isTrue_or (thn (ha pins s σ H _ I h) fun c s1 ⟨H1,I1,q1⟩=>?_);cases c with
 | true=>exact⟨H1,I1,q1⟩
 | false=>exact hb wh pins s1 σ H1 Q I1 q1
theorem dk (ha:PT X a tA):PT X (.UnaryOp .Not a pos) (tNot tA):=by
 intro pins s σ H Q I h;exact isTrue_not (ha pins s σ H (fun c H1=>Q (!c) H1) I h)
def tAndV (ta tb:TE):TE:=fun σ H Q=>ta σ H fun x H1=>∃c,x = .bl c/\if c=true then tb σ H1 Q else Q (.bl false) H1
def tNotV (ta:TE):TE:=fun σ H Q=>ta σ H fun x H1=>∃c,x = .bl c/\Q (.bl (!c)) H1
theorem iA {op}{t:TE}(h:PE X a t):PE X (.BoolOp op [a] pos) t:=fun pins s σ H Q I hw=>BoolOp_one (h pins s σ H Q I hw)
theorem f8 (ha:PE X a ta)(hb:PE X (.BoolOp .And (b::rest) pos) tb):PE X (.BoolOp .And (a::b::rest) pos) (tAndV ta tb):=by
 intro pins s σ H Q I h;refine BoolOp_and (thn (ha pins s σ H _ I h) fun v s1 ⟨x,H1,I1,r1,q1⟩=>?_);obtain⟨c,rfl,q1⟩:=q1;cases r1;refine wpAny_truthy_bool ?_;cases c with
 | true=>exact hb pins s1 σ H1 Q I1 q1
 | false=>exact⟨.bl false,H1,I1,rfl,q1⟩
theorem l4 (ha:PE X a ta):PE X (.UnaryOp .Not a pos) (tNotV ta):=by
 intro pins s σ H Q I h;refine UnaryOp_ (thn (ha pins s σ H _ I h) fun v s1 ⟨x,H1,I1,r1,q1⟩=>?_);obtain⟨c,rfl,q1⟩:=q1;cases r1;exact not_of (wpAny_truthy_bool ⟨.bl (!c),H1,I1,rfl,q1⟩)
end
end L2
namespace L2
open PySem PySem.Spec PyProof.Rows
def SqL (K:PySem.W.Frag)(H:Hp)(a:Addr)(xs:List V):Prop:=
 Rd H a (.lst xs) ∨
  ∃(o:Obj) (its:Array Value) (n:Nat),K.lookup a=some o/\o.cls = .type "list"/\o.dict=none/\o.data = .seq its n/\its.size≤sizeLine/\Vals xs its.toList
def SqT (K:PySem.W.Frag)(H:Hp)(a:Addr)(xs:List V):Prop:=
 Rd H a (.tup xs) ∨
  ∃(o:Obj) (its:Array Value) (n:Nat),K.lookup a=some o/\o.cls = .type "tuple"/\o.data = .seq its n/\its.size≤sizeLine/\Vals xs its.toList
def absV:Value->Option V
 | .none=>some .non
 | .bool b=>some (.bl b)
 | .int i _=>some (.int i)
 | .str x _=>some (.str x)
 | .bytes b _=>some (.byt b)
 | .float b _=>some (.flt b)
 | .ref a=>some (.ref a)
 | .type n=>some (.ty n)
 | _=>none
theorem RelV.abs {x:V}{u:Value}(r:RelV x u):absV u=some x:=by
 cases x with
 | non=>cases r;rfl
 | bl _=>cases r;rfl
 | int _=>obtain⟨t,rfl⟩:=r;rfl
 | str _=>obtain⟨t,rfl⟩:=r;rfl
 | byt _=>obtain⟨t,rfl⟩:=r;rfl
 | flt _=>obtain⟨t,rfl⟩:=r;rfl
 | ref _=>cases r;rfl
 | ty _=>cases r;rfl
theorem RelV.inj {x y:V}{u:Value}(r:RelV x u)(q:RelV y u):x=y:=Option.some.inj (r.abs.symm.trans q.abs)
theorem Vals.inj:∀{xs ys:List V} {us:List Value},Vals xs us->Vals ys us->xs=ys
 | _,_,_,.nil,.nil=>rfl
 | _,_,_,.cons r t,.cons r' t'=>by rw[r.inj r',Vals.inj t t']
section
variable {X:Cx}{pins:List (Addr×Obj)}{σ:St}{H:Hp}{s:Shared}{a:Addr}{xs ys:List V}
theorem SqL.of {K:PySem.W.Frag}(h:H a=some (.lst xs)):SqL K H a xs:=.inl (.inl h)
theorem SqT.of {K:PySem.W.Frag}(h:H a=some (.tup xs)):SqT K H a xs:=.inl (.inl h)
theorem Inv.list (I:Inv X pins σ H s)(h:SqL X.K H a xs):∃its:List Value,Vals xs its/\PlainL s.heap a its.toArray/\xs.length≤sizeLine:=by
 rcases h with h | ⟨o,its,n,hk,hc,hd,hs,hz,r⟩
 . obtain⟨z,its,n,r,e⟩:=h.ok I.hok;exact⟨its,r,⟨_,n,e,rfl,rfl,rfl⟩,z⟩
 . refine⟨its.toList,r,⟨o,n,I.kIn a o hk,hc,hd,by simpa using hs⟩,?_⟩
   have e:=r.length;simp only[Array.length_toList]at e;omega
theorem Inv.tuple (I:Inv X pins σ H s)(h:SqT X.K H a xs):∃its:List Value,Vals xs its/\IsTup s.heap a its.toArray/\xs.length≤sizeLine:=by
 rcases h with h | ⟨o,its,n,hk,hc,hs,hz,r⟩
 . obtain⟨z,its,r,p⟩:=h.ok I.hok;exact⟨its,r,p,z⟩
 . refine⟨its.toList,r,⟨o,I.kIn a o hk,hc,n,by simpa using hs⟩,?_⟩
   have e:=r.length;simp only[Array.length_toList]at e;omega
theorem Inv.list_inj (I:Inv X pins σ H s)(h:SqL X.K H a xs)(h':SqL X.K H a ys):xs=ys:=by
 obtain⟨its,r,⟨o,n,e,_,_,d⟩,_⟩:=I.list h;obtain⟨its',r',⟨o',n',e',_,_,d'⟩,_⟩:=I.list h';rw[e]at e';cases e';rw[d]at d';injection d' with d1 _
 have:its=its':=by simpa using congrArg Array.toList d1
 subst this;exact r.inj r'
end
abbrev Cx.wish (X:Cx)(E:Value->Shared->Prop):Cx:={ X with xe:=E }
abbrev Cx.nox (X:Cx):Cx:=X.wish fun _ _=>False
theorem Cx.Ok.wish {X:Cx}(ok:X.Ok)(E:Value->Shared->Prop):(X.wish E).Ok:=
 ⟨ok.mod,ok.kind,ok.glob,ok.blt,ok.above,ok.inj,ok.has,ok.cab,ok.hd,ok.frames,ok.stk,ok.exf,ok.bs,ok.bsz,ok.noex,ok.exfs,ok.funs,ok.frf⟩
theorem Cx.Ok.unwish {X:Cx}{E:Value->Shared->Prop}(ok:(X.wish E).Ok):X.Ok:=
 ⟨ok.mod,ok.kind,ok.glob,ok.blt,ok.above,ok.inj,ok.has,ok.cab,ok.hd,ok.frames,ok.stk,ok.exf,ok.bs,ok.bsz,ok.noex,ok.exfs,ok.funs,ok.frf⟩
section
variable {X:Cx}{pins:List (Addr×Obj)}{σ:St}{H:Hp}{s:Shared}{E:Value->Shared->Prop}
theorem Inv.wish (I:Inv X pins σ H s)(E:Value->Shared->Prop):Inv (X.wish E) pins σ H s:=⟨I.ok.wish E,I.os,I.bare,I.base,I.loc,I.cell,I.free,I.freeC,I.pin,I.hok,I.len⟩
theorem Inv.unwish (I:Inv (X.wish E) pins σ H s):Inv X pins σ H s:=⟨I.ok.unwish,I.os,I.bare,I.base,I.loc,I.cell,I.free,I.freeC,I.pin,I.hok,I.len⟩
theorem SP.unwish {D:Ends}{f:Flow}{s':Shared}(h:SP (X.wish E) pins D f s'):SP X pins D f s':=by
 cases f with
 | next=>obtain⟨σ',H',I,q⟩:=h;exact⟨σ',H',I.unwish,q⟩
 | brk=>obtain⟨σ',H',I,q⟩:=h;exact⟨σ',H',I.unwish,q⟩
 | cont=>obtain⟨σ',H',I,q⟩:=h;exact⟨σ',H',I.unwish,q⟩
 | ret u=>obtain⟨v,σ',H',I,r,q⟩:=h;exact⟨v,σ',H',I.unwish,r,q⟩
theorem PSs.nox {st:List Stmt}{t:TS}(h:PSs X.nox st t):PSs X st t:=fun pins s σ H D I hw =>
 wpAny_mono (h pins s σ H D (I.wish _) hw) (fun _ _ q=>q.unwish) fun _ _ z=>False.elim z
end
section
variable {X:Cx}{st:Stmt}{rest:List Stmt}{t u:TS}{e:Expr}{te:TE}{pos:Pos}
def tNext:TS:=fun D σ H=>D.nx σ H
def tSeq (t u:TS):TS:=fun D σ H=>t { D with nx:=u D } σ H
theorem aQ:PSs X [] tNext:=fun _ _ σ H _ I h=>wpAny_execs_nil ⟨σ,H,I,h⟩
theorem ad (h1:PS X st t)(h2:PSs X rest u):PSs X (st::rest) (tSeq t u):=by
 intro pins s σ H D I h;refine wpAny_execs_cons (thn (h1 pins s σ H { D with nx:=u D } I h) fun f s1 q=>?_)
 cases f with
 | next =>
  obtain⟨σ',H',I',q⟩:=q;exact h2 pins s1 σ' H' D I' q
 | ret v=>exact q
 | brk=>exact q
 | cont=>exact q
theorem ah (h1:PS X st t):PSs X [st] t:=by
 intro pins s σ H D I h;refine wpAny_execs_cons (thn (h1 pins s σ H D I h) fun f s1 q=>?_);cases f with
 | next=>exact wpAny_execs_nil q
 | ret v=>exact q
 | brk=>exact q
 | cont=>exact q
theorem Inv.quiet {pins:List (Addr×Obj)}{σ:St}{H:Hp}{s:Shared}(I:Inv X pins σ H s):interactive X.env=false:=by simp[interactive,I.ok.kind]
def tDrop (te:TE):TS:=fun D σ H=>te σ H fun _ H1=>D.nx σ H1
theorem bt (he:PE X e te)(hs:swapsWith e none pos.line X.env=pure false:=by rfl):PS X (.Expr e pos) (tDrop te):=by
 intro pins s σ H D I h;exact wpAny_Expr_any (thn (he pins s σ H _ I h) fun v s1 ⟨x,H1,I1,r1,q1⟩=>⟨σ,H1,I1,q1⟩) I.quiet hs
def tRet (te:TE):TS:=fun D σ H=>te σ H D.rt
theorem aB (he:PE X e te):PS X (.Return (some e) pos) (tRet te):=by
 intro pins s σ H D I h;exact wpAny_Return_some (thn (he pins s σ H _ I h) fun v s1 ⟨x,H1,I1,r1,q1⟩=>⟨x,σ,H1,I1,r1,q1⟩)
def tIfS (c:TT)(t u:TS):TS:=fun D σ H=>c σ H fun b H1=>if b=true then t D σ H1 else u D σ H1
theorem bG {c:Expr}{a b:List Stmt}{tc:TT}(hc:PT X c tc)(ha:PSs X a t)(hb:PSs X b u):PS X (.If c a b pos) (tIfS tc t u):=by
 intro pins s σ H D I h;refine wpAny_If (thn (hc pins s σ H _ I h) fun d s1 ⟨H1,I1,q1⟩=>?_);cases d with
 | true=>exact ha pins s1 σ H1 D I1 q1
 | false=>exact hb pins s1 σ H1 D I1 q1
def tNever:TS:=fun _ _ _=>False
theorem gk:PS X st tNever:=fun _ _ _ _ _ _ h=>h.elim
end
abbrev TG:=V->St->Hp->(St->Hp->Prop)->Prop
abbrev TGs:=List V->St->Hp->(St->Hp->Prop)->Prop
def PG (X:Cx)(target:Expr)(t:TG):Prop:=
 ∀(pins:List (Addr×Obj)) (s:Shared) (σ:St) (H:Hp) (v:V) (u:Value) (Q:St->Hp->Prop),Inv X pins σ H s->RelV v u->t v σ H Q →
  wpAny (model X.prog X.w) X.A (assign target X.env u) (fun _ s'=>∃σ' H',Inv X pins σ' H' s'/\Q σ' H') X.xe s
def PGs (X:Cx)(ts:List Expr)(t:TGs):Prop:=
 ∀(pins:List (Addr×Obj)) (s:Shared) (σ:St) (H:Hp) (vs:List V) (us:List Value) (Q:St->Hp->Prop),Inv X pins σ H s->Vals vs us->t vs σ H Q →
  wpAny (model X.prog X.w) X.A (assignInOrder ((assignEach ts X.env).map (·.2)) us) (fun _ s'=>∃σ' H',Inv X pins σ' H' s'/\Q σ' H') X.xe s
abbrev TSet:=V->V->V->Hp->(Hp->Prop)->Prop
def PSet (X:Cx)(t:TSet):Prop:=
 ∀(pins:List (Addr×Obj)) (s:Shared) (σ:St) (H:Hp) (o i v:V) (ov iv u:Value) (Q:Hp->Prop),Inv X pins σ H s->RelV o ov->RelV i iv->RelV v u->t o i v H Q →
  wpAny (model X.prog X.w) X.A (setItem ov iv u) (fun _ s'=>∃H',Inv X pins σ H' s'/\Q H') X.xe s
abbrev TIp:=V->V->Hp->VK->Prop
def PIp (X:Cx)(op:Operator)(t:TIp):Prop:=
 ∀(pins:List (Addr×Obj)) (s:Shared) (σ:St) (H:Hp) (x y:V) (v u:Value) (Q:VK),Inv X pins σ H s->RelV x v->RelV y u->t x y H Q →
  wpAny (model X.prog X.w) X.A (inplaceOp op v u) (EP X pins σ Q) X.xe s
section
variable {X:Cx}{pos:Pos}
def lR (i:Nat):TG:=fun v σ H Q=>Q (σ.set i (some v)) H
theorem ay {i:Nat}{x:Str}(hN:X.N.Nodup)(hi:X.N[i]? = some x)(hx:Loc X.env.scope x)(hf:X.fn x=true∨X.env.scope.names.lookup x=some .local:=by first | exact .inl rfl | exact .inr rfl | assumption):PG X (.Name x pos) (lR i):=by
 intro pins s σ H v u Q I r h;exact wpAny_assign_Name (ee I hN hi hx r (fun s' I'=>⟨_,H,I',h⟩) hf)
def gNil:TGs:=fun vs σ H Q=>vs=[]/\Q σ H
def gCons (t:TG)(u:TGs):TGs:=fun vs σ H Q=>∃v r,vs=v::r/\t v σ H fun σ' H'=>u r σ' H' Q
theorem eE:PGs X [] gNil:=by
 intro pins s σ H vs us Q I r h;obtain⟨e,h⟩:=h;subst e;cases r;exact assignInOrder_nil ⟨σ,H,I,h⟩
theorem bh {e:Expr}{es:List Expr}{t:TG}{u:TGs}(h1:PG X e t)(h2:PGs X es u)(hs:(assignEach (e::es) X.env).map (·.2)=assign e X.env::(assignEach es X.env).map (·.2):=by rfl):PGs X (e::es) (gCons t u):=by
 intro pins s σ H vs us Q I r h;obtain⟨v,vr,e1,h⟩:=h;subst e1;cases r with
 | cons r rr =>
  rw[hs];refine assignInOrder_cons (thn (h1 pins s σ H _ _ _ I r h) fun _ s1 ⟨σ1,H1,I1,q1⟩=>?_);exact h2 pins s1 σ1 H1 _ _ Q I1 rr q1
def gTup (K:PySem.W.Frag)(n:Nat)(t:TGs):TG:=fun v σ H Q=>∃a xs,v = .ref a/\SqT K H a xs/\xs.length=n/\t xs σ H Q
theorem kR {es:List Expr}{k:Nat}{t:TGs}{n:Nat}(hc:X.calm=true)(h:PGs X es t)(hn:(assignEach es X.env).length=n:=by rfl)(hst:(assignEach es X.env).findIdx? (·.1)=none:=by rfl):PG X (.Tuple es k pos) (gTup X.K n t):=by
 intro pins s σ H v u Q I r hw;obtain⟨a,xs,e1,hq,hl,hw⟩:=hw;subst e1;cases r;obtain⟨its,rv,ht,hz⟩:=I.tuple hq;refine assign_Tuple_tuple (I.ok.hd hc) ht (by simp[hn,←hl,rv.length]) hst fun h' hx=>?_
 have I1:Inv X pins σ H { s with heap:=h' }:=I.kept (t':=s.toks) fun b o e=>hx b o (Nat.ne_of_lt (Heap.lt_size e)) e
 exact h pins _ σ H xs _ Q I1 (by simpa using rv) hw
def gSub (to ti:TE)(t:TSet):TG:=fun v σ H Q=>to σ H fun o H1=>ti σ H1 fun i H2=>t o i v H2 fun H3=>Q σ H3
theorem iz {o i:Expr}{to ti:TE}{t:TSet}(ho:PE X o to)(hi:PE X i ti)(hs:PSet X t)
 (ha:∀v,assign (.Subscript o i pos) X.env v=(do
   let ov ←holding [v] (eval o X.env)
   let iv ←holding [v,ov] (eval i X.env)
   standAt pos
   holding [v,ov,iv] (setItem ov iv v)
   release [v,ov,iv] []):=by intro _;rfl):PG X (.Subscript o i pos) (gSub to ti t):=by
 intro pins s σ H v u Q I r h;rw[ha];refine wpAny_bind (wpAny_holding (thn (ho pins s σ H _ I h) fun ov s1 ⟨x,H1,I1,r1,q1⟩=>?_));refine wpAny_bind (wpAny_holding (thn (hi pins s1 σ H1 _ I1 q1) fun iv s2 ⟨y,H2,I2,r2,q2⟩=>?_));refine wpAny_bind (wpAny_standAt (wpAny_bind (wpAny_holding (thn (hs pins s2 σ H2 x y v ov iv u _ I2 r1 r2 r q2) fun _ s3 ⟨H3,I3,q3⟩=>?_))));exact wpAny_release ⟨σ,H3,I3,q3⟩
def tAsg (te:TE)(g:TG):TS:=fun D σ H=>te σ H fun x H1=>g x σ H1 D.nx
theorem gl {tg e:Expr}{te:TE}{g:TG}(he:PE X e te)(hg:PG X tg g)(hs:swapsWithSole [tg] e pos.line X.env=pure false:=by rfl)(hw:swappedStores [tg] e X.env=pure none:=by rfl)
 (h1:(assignEach [tg] X.env).map (·.2)=[assign tg X.env]:=by rfl):PS X (.Assign [tg] e pos) (tAsg te g):=by
 intro pins s σ H D I h;refine wpAny_Assign_stores (thn (he pins s σ H _ I h) fun v s1 ⟨x,H1,I1,r1,q1⟩=>?_) hs hw;rw[h1];exact thn (hg pins s1 σ H1 x v _ I1 r1 q1) fun _ s2 q=>q
theorem ao {i:Nat}{x:Str}{e:Expr}{te:TE}{pos':Pos}(hN:X.N.Nodup)(hi:X.N[i]? = some x)(hx:Loc X.env.scope x)(he:PE X e te)(hs:swapsWith e (some (.Name x pos')) pos.line X.env=pure false:=by rfl)(hf:X.fn x=true∨X.env.scope.names.lookup x=some .local:=by first | exact .inl rfl | exact .inr rfl | assumption) :
 PS X (.Assign [.Name x pos'] e pos) (tAsg te (lR i)):=by
 intro pins s σ H D I h;refine wpAny_Assign_Name (thn (he pins s σ H _ I h) fun v s1 ⟨y,H1,I1,r1,q1⟩=>?_) hs;exact ee I1 hN hi hx r1 (fun s2 I2=>⟨_,H1,I2,q1⟩) hf
def tAug (i:Nat)(te:TE)(ti:TIp):TS:=fun D σ H=>∃x,σ[i]? = some (some x)/\te σ H fun y H1=>ti x y H1 fun z H2=>D.nx (σ.set i (some z)) H2
theorem kQ {i:Nat}{x:Str}{e:Expr}{te:TE}{op:Operator}{ti:TIp}{pos':Pos}(hN:X.N.Nodup)(hi:X.N[i]? = some x)(hx:Loc X.env.scope x)(he:PE X e te)(ho:PIp X op ti)(hf:X.fn x=true∨X.env.scope.names.lookup x=some .local:=by first | exact .inl rfl | exact .inr rfl | assumption) :
 PS X (.AugAssign (.Name x pos') op e pos) (tAug i te ti):=by
 intro pins s σ H D I h;obtain⟨v,e1,h⟩:=h;obtain⟨m,hn,hl⟩:=I.loc;have vis:Vis X.env.scope x:=by rcases hx with k | k;exact .inl k;exact .inr (.inl k)
 obtain⟨u,r,l⟩:=hl i x v hi e1 vis;refine wpAny_AugAssign_Name ?_;have go:wpAny (model X.prog X.w) X.A (eval e X.env) (fun w s₂=>wpAny (model X.prog X.w) X.A (inplaceOp op u w) (fun r s₃=>wpAny (model X.prog X.w) X.A (storeName X.env x r) (fun _=>SP X pins D .next) X.xe s₃) X.xe s₂) X.xe s:=by
  refine thn (he pins s σ H _ I h) fun w s1 ⟨y,H1,I1,r1,q1⟩=>?_;refine thn (ho pins s1 σ H1 v y u w _ I1 r r1 q1) fun z s2 ⟨zv,H2,I2,r2,q2⟩=>?_;exact ee I2 hN hi hx r2 (fun s3 I3=>⟨_,H2,I3,q2⟩) hf
 rcases l with⟨hk,hm⟩ | ⟨hk,c,hc,hcell⟩
 . exact wpAny_loadName_local I.ok.kind hk hn hm go
 . rcases hk with hk | hk
   . exact wpAny_loadName_cell I.ok.kind hk hc hcell go
   . rcases hx with k | k
     . have:X.env.scope.names.lookup x=some .free:=hk;rw[k]at this;cases this
     . have:X.env.scope.names.lookup x=some .free:=hk;rw[k]at this;cases this
def ipI (f:Int->Int->Int):TIp:=fun x y H Q=>∃i j,x = .int i/\y = .int j/\Q (.int (f i j)) H
theorem lj:PIp X .Add (ipI fun i j=>i+j):=by
 intro pins s σ H x y v u Q I r1 r2 h;obtain⟨i,j,e1,e2,q⟩:=h;subst e1;subst e2;obtain⟨t,rfl⟩:=r1;obtain⟨t',rfl⟩:=r2;exact iadd_int ⟨.int _,H,I.tok _,⟨_,rfl⟩,q⟩
end
section
variable {X:Cx}{pos:Pos}
def tWhile (c:TT)(tb:TS):TS:=fun D σ H=>∃W:Nat->St->Hp->Prop,(∃m,W m σ H)/\∀m σ H,W m σ H →
 c σ H fun b H1=>if b=true then ∃N:St->Hp->Prop,(∀σ' H',N σ' H'->∃m',m' < m/\W m' σ' H')/\tb { D with nx:=N,ct:=N,bk:=D.nx } σ H1 else D.nx σ H1
theorem iY {c:Expr}{body:List Stmt}{tc:TT}{tb:TS}(hp:PassesOwn (model X.prog X.w) X.A X.env X.xe)(hc:PT X c tc)(hb:PSs X body tb):PS X (.While c body [] pos) (tWhile tc tb):=by
 intro pins s σ H D I h;obtain⟨W,⟨m0,w0⟩,turn⟩:=h;refine wpAny_While (codeAny_whileLoop (fun n s'=>∃σ' H',Inv X pins σ' H' s'/\W n σ' H') ?_ m0 ⟨σ,H,I,w0⟩);rintro n s1 ⟨σ1,H1,I1,w1⟩;refine wpAny_passesOwn hp (thn (hc pins s1 σ1 H1 _ I1 (turn n σ1 H1 w1)) fun b s2 ⟨H2,I2,q2⟩=>?_);cases b with
 | true =>
  obtain⟨N,hN,q2⟩:=q2;rw[if_pos rfl];refine wpAny_passesOwn hp (thn (hb pins s2 σ1 H2 _ I2 q2) fun f s3 q3=>?_);cases f with
  | next =>
   obtain⟨σ3,H3,I3,n3⟩:=q3;obtain⟨m',hm,w3⟩:=hN σ3 H3 n3;exact⟨m',hm,σ3,H3,I3,w3⟩
  | cont =>
   obtain⟨σ3,H3,I3,n3⟩:=q3;obtain⟨m',hm,w3⟩:=hN σ3 H3 n3;exact⟨m',hm,σ3,H3,I3,w3⟩
  | brk=>exact q3
  | ret v=>exact q3
 | false =>
  rw[if_neg Bool.false_ne_true];exact wpAny_execs_nil ⟨σ1,H2,I2,q2⟩
end
structure It where
 go:Nat->Hp->Prop
 yld:Nat->Hp->V->Hp->Prop
 stop:Nat->Hp->Prop
def FpOk (X:Cx)(pins:List (Addr×Obj))(H:Hp)(b:Addr):Prop:=
 H b=none/\b≠X.env.locals/\b∉X.fs/\(b∈X.ex∨X.s₀.heap.objs.size≤b)/\(∀x c,X.env.cells.lookup x=some c->c≠b)/\∀p∈X.pn++pins,p.1≠b
theorem Inv.fpOk {X:Cx}{pins:List (Addr×Obj)}{σ:St}{H H':Hp}{s:Shared}{b:Addr}(I:Inv X pins σ H s)(hb:s.heap.objs.size≤b)(hn:H' b=none):FpOk X pins H' b:=by
 refine⟨hn,Nat.ne_of_gt (Nat.lt_of_lt_of_le I.lt hb),I.nofs hb,.inr (Nat.le_trans I.sz hb),fun x c e z=>?_,fun p hp z=>?_⟩
 . obtain⟨v,q⟩:=I.cell x c e;exact absurd (Nat.lt_of_lt_of_le q.lt (by rw[z];exact hb)) (Nat.lt_irrefl _)
 . exact absurd (Nat.lt_of_lt_of_le (Heap.lt_size (I.pin p hp).1) (by rw[z];exact hb)) (Nat.lt_irrefl _)
structure Turn (P:Program) (w:World) (K:PySem.W.Frag) (tg:Expr) (J:It) (fp:List Addr) (it:Addr) (tn:Nat->Heap->Prop):Prop where
 mem:it∈fp
 obj:∀i h,tn i h->∀b∈fp,∃o,h.get? b=some o/\∀v,o.data≠.cell v
 keep:∀i h h',tn i h->(∀b∈fp,∀o,h.get? b=some o->h'.get? b=some o)->tn i h'
 item:∀(X:Cx),X.prog=P->X.w=w->X.K=K->X.calm=true->∀(i:Nat) (pins:List (Addr×Obj)) (s:Shared) (σ:St) (H:Hp) (E:Value->Shared->Prop),Inv X pins σ H s->(∀b∈fp,FpOk X pins H b)->tn i s.heap->J.go i H →
  wpAny (model P w) X.A (pyNext (.ref it)) (fun r s1=>∃u,r=some u ∧
   wpAny (model P w) X.A (letOwnedTupleGo tg (.ref it) u) (fun _ s2=>∃x H',Inv X pins σ H' s2/\RelV x u/\J.yld i H x H'/\tn (i+1) s2.heap/\∀b∈fp,H' b=none) E s1) E s
 done:∀(X:Cx),X.prog=P->X.w=w->X.K=K->X.calm=true->∀(i:Nat) (pins:List (Addr×Obj)) (s:Shared) (σ:St) (H:Hp) (E:Value->Shared->Prop),Inv X pins σ H s->(∀b∈fp,FpOk X pins H b)->tn i s.heap->J.stop i H →
  wpAny (model P w) X.A (pyNext (.ref it)) (fun r s1=>r=none/\Inv X pins σ H s1) E s
 self:∀(A:Around) (i:Nat) (s:Shared) (Q:Value->Shared->Prop) (E:Value->Shared->Prop),tn i s.heap->Q (.ref it) s->wpAny (model P w) A (pyIter (.ref it)) Q E s
abbrev TI:=St->Hp->(It->Hp->Prop)->Prop
def PIE (X:Cx)(pins:List (Addr×Obj))(σ:St)(tg:Expr)(R:It->Hp->Prop)(itv:Value)(s2:Shared):Prop:=
 ∃(it:Addr) (fp:List Addr) (tn:Nat->Heap->Prop) (J:It) (H':Hp),itv = .ref it/\Inv X pins σ H' s2/\Turn X.prog X.w X.K tg J fp it tn/\tn 0 s2.heap/\(∀b∈fp,FpOk X pins H' b)/\R J H'
def PI (X:Cx)(tg iter:Expr)(wi:TI):Prop:=
 ∀(pins:List (Addr×Obj)) (s:Shared) (σ:St) (H:Hp) (R:It->Hp->Prop),Inv X pins σ H s->wi σ H R →
  wpAny (model X.prog X.w) X.A (eval iter X.env) (fun v s1=>wpAny (model X.prog X.w) X.A (pyIter v) (PIE X pins σ tg R) X.xe s1) X.xe s
theorem lm {M:Model}{A:Around}{E:Value->Shared->Prop}{s:Shared}{tg:Expr}{it:Addr}{u:Value}{o:Obj}{n:String}{vs:Array Value}{Q:Unit->Shared->Prop}(ho:s.heap.get? it=some o)(hc:o.cls = .type n)(hd:o.data = .fields vs)(hn:["enumerate", "zip", "dict_itemiterator", "dict_reverseitemiterator", "odict_iterator", "itertools.zip_longest", "itertools.pairwise"].contains n=false)(hQ:Q () s):wpAny M A (letOwnedTupleGo tg (.ref it) u) Q E s:=by
 unfold letOwnedTupleGo;cases tg<;>first
  | exact wpAny_pure hQ
  | (cases u<;>first
      | exact wpAny_pure hQ
      | (refine wpAny_bind (wpAny_load ho ?_)
         rw[hc,hd];show wpAny M A (if (["enumerate", "zip", "dict_itemiterator", "dict_reverseitemiterator", "odict_iterator", "itertools.zip_longest", "itertools.pairwise"].contains n&&vs[0]? == some (rawInt _))=true then _ else _) Q E s
         rw[if_neg (by intro h;rw[hn,Bool.false_and]at h;cases h)]
         exact wpAny_pure hQ))
def Itl (K:PySem.W.Frag)(a:Addr):It:=
 ⟨fun i H=>∃xs x,SqL K H a xs/\xs[i]? = some x,fun i H x H'=>H'=H/\∀xs,SqL K H a xs->xs[i]? = some x,fun i H=>∃xs,SqL K H a xs/\xs.length≤i⟩
def Itr (lo:Int)(n:Nat):It:=⟨fun i _=>i < n,fun i H x H'=>H'=H/\x = .int (lo+i),fun i _=>n≤i⟩
theorem turn_list {P:Program}{w:World}{K:PySem.W.Frag}{tg:Expr}(a it:Addr):Turn P w K tg (Itl K a) [it] it (fun i h=>h.IsListIter it a i) where
 mem:=by simp
 obj:=fun i h st b hb=>by
  have e:b=it:=by simpa using hb
  subst e;obtain⟨o,e,c,d⟩:=st;exact⟨o,e,fun v z=>by rw[d]at z;cases z⟩
 keep:=fun i h h' st k=>st.at fun o e=>k it (by simp) o e
 item:=by
  intro X hP hw hK hc i pins s σ H E I hf st hg;subst hP hw hK;obtain⟨xs,x,hq,hx⟩:=hg;obtain⟨its,rv,p,hz⟩:=I.list hq;obtain⟨u,hu,ru⟩:=rv.get hx;obtain⟨f0,f1,f2,f3,f4,f5⟩:=hf it (by simp)
  refine wpAny_pyNext_list_item st p.isList (x:=u) (by simpa using hu) fun h' st' sb=>?_
  have I1:Inv X pins σ H { s with heap:=h' }:=I.turned (t':=s.toks) (fun b o hb e=>(sb.2 b hb).trans e) f0 f1 f3 f4 f5
  obtain⟨o,e,c,d⟩:=id st';exact⟨u,rfl,lm (s:={ s with heap:=h' }) e c d (by decide) ⟨x,H,I1,ru,⟨rfl,fun ys hy=>by rw[I.list_inj hy hq];exact hx⟩,st',fun b hb=>(hf b hb).1⟩⟩
 done:=by
  intro X hP hw hK hc i pins s σ H E I hf st hg;subst hP hw hK;obtain⟨xs,hq,hx⟩:=hg;obtain⟨its,rv,p,hz⟩:=I.list hq;obtain⟨f0,f1,f2,f3,f4,f5⟩:=hf it (by simp)
  have hl:=rv.length;exact wpAny_pyNext_list_end (I.ok.hd hc) st p.isList (by simp;omega) fun h' eb=>⟨rfl,I.turned (t':=s.toks) (fun b o hb e=>eb b o hb e) f0 f1 f3 f4 f5⟩
 self:=fun _ _ _ _ _ st h=>wpAny_pyIter_listiter st h
theorem turn_range {P:Program}{w:World}{K:PySem.W.Frag}{tg:Expr}(it:Addr)(lo:Int)(n:Nat):Turn P w K tg (Itr lo n) [it] it (fun i h=>IsRangeIter h it (lo+(i:Nat)*1) ((n:Int) - (i:Nat)) 1) where
 mem:=by simp
 obj:=fun i h st b hb=>by
  have e:b=it:=by simpa using hb
  subst e;exact⟨_,st,fun v z=>by
   have z':Data.fields _=Data.cell v:=z;cases z'⟩
 keep:=fun i h h' st k=>k it (by simp) _ st
 item:=by
  intro X hP hw hK hc i pins s σ H E I hf st hg;subst hP hw hK;obtain⟨f0,f1,f2,f3,f4,f5⟩:=hf it (by simp)
  have W:=Walks.range (prog:=X.prog) (w:=X.w) (I.ok.hd hc) it lo 1 n;refine W.item i s _ _ hg st fun v h' tk hv st' kk=>?_;obtain⟨t,rfl⟩:=hv;have I1:Inv X pins σ H { s with heap:=h',toks:=tk }:=I.turned (fun b o hb e=>kk b o (by simpa using hb) e) f0 f1 f3 f4 f5
  refine⟨_,rfl,lm (s:={ s with heap:=h',toks:=tk }) (n:="range_iterator") st' rfl rfl (by decide) ⟨.int (lo+i),H,I1,⟨t,?_⟩,⟨rfl,rfl⟩,st',fun b hb=>(hf b hb).1⟩⟩
  rw[Int.mul_one]
 done:=by
  intro X hP hw hK hc i pins s σ H E I hf st hg;subst hP hw hK;obtain⟨f0,f1,f2,f3,f4,f5⟩:=hf it (by simp)
  exact wpAny_pyNext_range_end (I.ok.hd hc) st (by have:n≤i:=hg;omega) fun h' eb=>⟨rfl,I.turned (t':=s.toks) (fun b o hb e=>eb b o hb e) f0 f1 f3 f4 f5⟩
 self:=fun _ _ _ _ _ st h=>wpAny_pyIter_rangeiter st h
end L2
namespace L2
open PySem PySem.Spec PyProof.Rows
section
variable {X:Cx}{tg:Expr}
def lQ (K:PySem.W.Frag)(tl:TE):TI:=fun σ H R=>tl σ H fun x H1=>∃a,x = .ref a/\(∃xs,SqL K H1 a xs)/\R (Itl K a) H1
theorem iy {l:Expr}{tl:TE}(hl:PE X l tl):PI X tg l (lQ X.K tl):=by
 intro pins s σ H R I h;refine thn (hl pins s σ H _ I h) fun v s1 ⟨x,H1,I1,r1,q1⟩=>?_;obtain⟨a,e,⟨xs,hq⟩,q⟩:=q1;subst e;cases r1;obtain⟨its,rv,p,hz⟩:=I1.list hq;refine wpAny_pyIter_list p.isList ?_;refine⟨s1.heap.objs.size,[s1.heap.objs.size],_,_,H1,rfl,I1.kept (t':=s1.toks) fun b o e=>Heap.get?_push_of_some _ e,turn_list a _,⟨_,Heap.get?_push_size _ rfl,rfl,rfl⟩,fun b hb=>?_,q⟩;have e:b=s1.heap.objs.size:=by simpa using hb
 subst e;exact I1.fpOk (Nat.le_refl _) (I1.hok.fresh (Nat.le_refl _))
theorem iW {pins:List (Addr×Obj)}{σ:St}{H:Hp}{s:Shared}{R:It->Hp->Prop}{E:Value->Shared->Prop}{lo hi:Int}{t u v:Tok}{tk:Nat}(I:Inv X pins σ H s)(h1:-(2 ^ 62)≤lo)(h2:lo < 2 ^ 62)(h3:-(2 ^ 62)≤hi)(h4:hi < 2 ^ 62)(q:R (Itr lo (hi - lo).toNat) H):wpAny (model X.prog X.w) X.A (pyIter (.ref s.heap.objs.size)) (PIE X pins σ tg R) E { s with heap:=s.heap.push { cls:=.type "range",data:=.fields #[.int lo t,.int hi u,.int 1 v] },toks:=tk }:=by
 refine wpAny_pyIter_range (IsRange.new ..) (small_one h1 h2 h3 h4) ?_;have I1:Inv X pins σ H { s with heap:=s.heap.push { cls:=.type "range",data:=.fields #[.int lo t,.int hi u,.int 1 v] },toks:=tk }:=I.kept fun b o e=>Heap.get?_push_of_some _ e
 refine⟨(s.heap.push { cls:=.type "range",data:=.fields #[.int lo t,.int hi u,.int 1 v] }).objs.size,[(s.heap.push { cls:=.type "range",data:=.fields #[.int lo t,.int hi u,.int 1 v] }).objs.size],_,_,H,rfl,
  I1.kept (t':=tk) fun b o e=>Heap.get?_push_of_some _ e,turn_range _ lo (hi - lo).toNat,?_,fun b hb=>?_,q⟩
 . have e1:lo+((0:Nat):Int)*1=lo:=by simp
   have e2:(((hi - lo).toNat:Nat):Int) - ((0:Nat):Int)=Builtin.Range.rangeSize lo hi 1:=by rw[rangeSize_one];split<;>omega
   show IsRangeIter _ _ (lo+((0:Nat):Int)*1) ((((hi - lo).toNat:Nat):Int) - ((0:Nat):Int)) 1;rw[e1,e2];exact Heap.get?_push_size _ rfl
 . have e:b=(s.heap.push { cls:=.type "range",data:=.fields #[.int lo t,.int hi u,.int 1 v] }).objs.size:=by simpa using hb
   subst e;exact I1.fpOk (Nat.le_refl _) (I1.hok.fresh (Nat.le_refl _))
def iRng1 (ta:TA):TI:=fun σ H R=>ta σ H fun vs H1=>∃j:Int,vs=[.int j]/\-(2 ^ 62)≤j/\j < 2 ^ 62/\R (Itr 0 j.toNat) H1
def iRng2 (ta:TA):TI:=fun σ H R=>ta σ H fun vs H1=>∃i j:Int,vs=[.int i,.int j]/\(-(2 ^ 62)≤i/\i < 2 ^ 62/\-(2 ^ 62)≤j/\j < 2 ^ 62)/\R (Itr i (j - i).toNat) H1
theorem be {a:Expr}{ta:TA}{p pos:Pos}(hg:Gl X "range")(hm:X.mg "range" = none)(ha:PA X [a] ta)(hs:starEach [a] X.env=[(false,eval a X.env)]:=by rfl):PI X tg (.Call (.Name "range" p) [a] [] pos) (iRng1 ta):=by
 intro pins s σ H R I h;refine Call_ (bY I hg hm boot_range (PyProof.Rows.callWith_type1 (thn (ha pos pins s σ H _ I h) fun us s1 ⟨vs,H1,I1,r1,q1⟩=>?_) hs rfl));obtain⟨j,e,q1,q2,q⟩:=q1;subst e;cases r1 with
 | cons r rr =>
  cases rr;obtain⟨t,rfl⟩:=r;exact call_range_1 (iW I1 (by omega) (by omega) q1 q2 (by simpa using q))
theorem gW {a b:Expr}{ta:TA}{p pos:Pos}(hg:Gl X "range")(hm:X.mg "range" = none)(ha:PA X [a,b] ta)(hs:starEach [a,b] X.env=[(false,eval a X.env),(false,eval b X.env)]:=by rfl)(hs2:starEach [b] X.env=[(false,eval b X.env)]:=by rfl) :
 PI X tg (.Call (.Name "range" p) [a,b] [] pos) (iRng2 ta):=by
 intro pins s σ H R I h;refine Call_ (bY I hg hm boot_range (PyProof.Rows.callWith_type1 (thn (ha pos pins s σ H _ I h) fun us s1 ⟨vs,H1,I1,r1,q1⟩=>?_) (by rw[hs,hs2]) (by rw[hs2];rfl)))
 obtain⟨i,j,e,⟨q1,q2,q3,q4⟩,q⟩:=q1;subst e;cases r1 with
 | cons r rr =>
  cases rr with
  | cons r' rr =>
   cases rr;obtain⟨t,rfl⟩:=r;obtain⟨t',rfl⟩:=r';exact call_range_2 (iW I1 q1 q2 q3 q4 q)
def tFor (wi:TI)(g:TG)(tb:TS):TS:=fun D σ H=>wi σ H fun J H1=>∃W:Nat->Nat->St->Hp->Prop,(∃m,W 0 m σ H1)/\∀i m σ H,W i m σ H →
 (J.stop i H/\D.nx σ H)∨(J.go i H/\∃N:St->Hp->Prop,(∀σ' H',N σ' H'->∃m',m' < m/\W (i+1) m' σ' H')/\∀x H',J.yld i H x H'->g x σ H' fun σ2 H2=>tb { D with nx:=N,ct:=N,bk:=D.nx } σ2 H2)
def gn (fp:List Addr)(h:Heap):List (Addr×Obj):=fp.filterMap fun b=>(h.get? b).map fun o=>(b,o)
theorem d9 {fp:List Addr}{h:Heap}{b:Addr}{o:Obj}(hb:b∈fp)(e:h.get? b=some o):(b,o)∈gn fp h:=List.mem_filterMap.mpr ⟨b,hb,by rw[e];rfl⟩
theorem of_pinsAt {fp:List Addr}{h:Heap}{p:Addr×Obj}(hp:p∈gn fp h):p.1∈fp/\h.get? p.1=some p.2:=by
 obtain⟨b,hb,e⟩:=List.mem_filterMap.mp hp;cases q:h.get? b with
 | none=>rw[q]at e;cases e
 | some o =>
  rw[q]at e;have e':(b,o)=p:=Option.some.inj e;subst e';exact⟨hb,q⟩
theorem Inv.pinned {pins:List (Addr×Obj)}{σ:St}{H:Hp}{s:Shared}{fp:List Addr}(I:Inv X pins σ H s)(hf:∀b∈fp,FpOk X pins H b)(ho:∀b∈fp,∃o,s.heap.get? b=some o/\∀v,o.data≠.cell v):Inv X (pins++gn fp s.heap) σ H s:=
 I.pins_of fun p hp=>(List.mem_append.mp hp).elim (fun z=>I.pin p (List.mem_append_right _ z)) fun z=>by
  obtain⟨hb,e⟩:=of_pinsAt z;obtain⟨f0,f1,f2,_⟩:=hf p.1 hb;obtain⟨o,e',d⟩:=ho p.1 hb;rw[e]at e';cases e';exact⟨e,f0,f1,f2,d⟩
theorem Inv.unpinned {pins pl:List (Addr×Obj)}{σ:St}{H:Hp}{s:Shared}(I:Inv X (pins++pl) σ H s):Inv X pins σ H s:=I.pins_of fun p hp=>I.pin p (List.mem_append_right _ (List.mem_append_left _ hp))
theorem bA {iter:Expr}{body:List Stmt}{wi:TI}{g:TG}{tb:TS}{pos:Pos}(hp:PassesOwn (model X.prog X.w) X.A X.env X.xe)(hc:X.calm=true)(hi:PI X tg iter wi)(hg:PG X tg g)(hb:PSs X body tb)(hs:∀x,foldedSetIterable iter X.env x=pure x:=by intro _;rfl):PS X (.For tg iter body [] pos) (tFor wi g tb):=by
 intro pins s σ H D I h;refine wpAny_For (thn (hi pins s σ H _ I h) fun v s1 h1=>thn h1 fun itv s2 h2=>?_) hs;obtain⟨it,fp,tn,J,H2,e,I2,T,st2,f2,W,⟨m0,w0⟩,turn⟩:=h2;subst e;have stat:∀{H':Hp},(∀b∈fp,H' b=none)->∀b∈fp,FpOk X pins H' b:=fun hn b hb=>⟨hn b hb,(f2 b hb).2⟩;refine codeAny_forLoop_any (fun n s'=>∃i σ' H',Inv X pins σ' H' s'/\tn i s'.heap/\(∀b∈fp,H' b=none)/\W i n σ' H') ?_ m0 ⟨0,σ,H2,I2,st2,fun b hb=>(f2 b hb).1,w0⟩;rintro n s3 ⟨i,σ3,H3,I3,st3,fr3,w3⟩;rcases turn i n σ3 H3 w3 with⟨stop,qn⟩ | ⟨go,N,hN,step⟩
 . refine wpAny_passesOwn hp (thn (T.done X rfl rfl rfl hc i pins s3 σ3 H3 X.xe I3 (stat fr3) st3 stop) fun r s4 ⟨hr,I4⟩=>?_);subst hr;exact wpAny_execs_nil ⟨σ3,H3,I4,qn⟩
 . refine wpAny_passesOwn hp (thn (T.item X rfl rfl rfl hc i pins s3 σ3 H3 X.xe I3 (stat fr3) st3 go) fun r s4 ⟨u,hr,h4⟩=>?_);subst hr;refine wpAny_passesOwn hp (thn h4 fun _ s5 ⟨x,H5,I5,r5,y5,st5,fr5⟩=>?_);have I5':=I5.pinned (stat fr5) (T.obj _ _ st5);refine wpAny_passesOwn hp (thn (hg _ s5 σ3 H5 x u _ I5' r5 (step x H5 y5)) fun _ s6 ⟨σ6,H6,I6,q6⟩=>?_);refine wpAny_passesOwn hp (thn (hb _ s6 σ6 H6 _ I6 q6) fun f s7 q7=>?_);have again:∀{σ7:St} {H7:Hp},Inv X (pins++gn fp s5.heap) σ7 H7 s7->N σ7 H7->∃m,m < n/\∃i σ' H',Inv X pins σ' H' s7/\tn i s7.heap/\(∀b∈fp,H' b=none)/\W i m σ' H':=fun{σ7 H7} I7 n7=>by
    obtain⟨m',hm,w7⟩:=hN σ7 H7 n7;refine⟨m',hm,i+1,σ7,H7,I7.unpinned,T.keep _ _ _ st5 fun b hb o e=>(I7.pin (b,o) (List.mem_append_right _ (List.mem_append_right _ (d9 hb e)))).1,fun b hb=>?_,w7⟩;obtain⟨o,e,d⟩:=T.obj _ _ st5 b hb;exact(I7.pin (b,o) (List.mem_append_right _ (List.mem_append_right _ (d9 hb e)))).2.1
   cases f with
   | next=>obtain⟨σ7,H7,I7,n7⟩:=q7;exact again I7 n7
   | cont=>obtain⟨σ7,H7,I7,n7⟩:=q7;exact again I7 n7
   | brk=>obtain⟨σ7,H7,I7,q7⟩:=q7;exact⟨σ7,H7,I7.unpinned,q7⟩
   | ret v=>obtain⟨x7,σ7,H7,I7,r7,q7⟩:=q7;exact⟨x7,σ7,H7,I7.unpinned,r7,q7⟩
end
theorem d0 {K:PySem.W.Frag}{a:Addr}{xs:List V}{g:TG}{tb:TS}{D:Ends}{σ:St}{H:Hp}(Pv:Nat->St->Hp->Prop)(h0:Pv 0 σ H)(hl:∀i σ H,i≤xs.length->Pv i σ H->SqL K H a xs)(hs:∀i x σ H,xs[i]? = some x->Pv i σ H->g x σ H fun σ2 H2=>tb { D with nx:=Pv (i+1),ct:=Pv (i+1),bk:=D.nx } σ2 H2)(hd:∀σ H,Pv xs.length σ H->D.nx σ H) :
 ∃W:Nat->Nat->St->Hp->Prop,(∃m,W 0 m σ H)/\∀i m σ H,W i m σ H →
  ((Itl K a).stop i H/\D.nx σ H)∨((Itl K a).go i H/\∃N:St->Hp->Prop,(∀σ' H',N σ' H'->∃m',m' < m/\W (i+1) m' σ' H')/\∀x H',(Itl K a).yld i H x H'->g x σ H' fun σ2 H2=>tb { D with nx:=N,ct:=N,bk:=D.nx } σ2 H2):=by
 refine⟨fun i m σ H=>m=xs.length - i/\i≤xs.length/\Pv i σ H,⟨xs.length,by simp,Nat.zero_le _,h0⟩,?_⟩
 rintro i m σ H ⟨rfl,hi,p⟩;have q:=hl i σ H hi p;by_cases hlt:i < xs.length
 . refine .inr ⟨⟨xs,xs[i],q,by simp[hlt]⟩,Pv (i+1),fun σ' H' p'=>⟨xs.length - (i+1),by omega,rfl,hlt,p'⟩,fun x H' y=>?_⟩
   obtain⟨e,y⟩:=y;subst e;exact hs i x σ _ (y xs q) p
 . have e:i=xs.length:=by omega
   subst e;exact .inl ⟨⟨xs,q,Nat.le_refl _⟩,hd σ H p⟩
theorem bF {lo:Int}{n:Nat}{g:TG}{tb:TS}{D:Ends}{σ:St}{H:Hp}(Pv:Nat->St->Hp->Prop)(h0:Pv 0 σ H)(hs:∀i σ H,i < n->Pv i σ H->g (.int (lo+i)) σ H fun σ2 H2=>tb { D with nx:=Pv (i+1),ct:=Pv (i+1),bk:=D.nx } σ2 H2)(hd:∀σ H,Pv n σ H->D.nx σ H) :
 ∃W:Nat->Nat->St->Hp->Prop,(∃m,W 0 m σ H)/\∀i m σ H,W i m σ H →
  ((Itr lo n).stop i H/\D.nx σ H)∨((Itr lo n).go i H/\∃N:St->Hp->Prop,(∀σ' H',N σ' H'->∃m',m' < m/\W (i+1) m' σ' H')/\∀x H',(Itr lo n).yld i H x H'->g x σ H' fun σ2 H2=>tb { D with nx:=N,ct:=N,bk:=D.nx } σ2 H2):=by
 refine⟨fun i m σ H=>m=n - i/\i≤n/\Pv i σ H,⟨n,by simp,Nat.zero_le _,h0⟩,?_⟩
 rintro i m σ H ⟨rfl,hi,p⟩;by_cases hlt:i < n
 . refine .inr ⟨hlt,Pv (i+1),fun σ' H' p'=>⟨n - (i+1),by omega,rfl,hlt,p'⟩,fun x H' y=>?_⟩
   obtain⟨e,y⟩:=y;subst e y;exact hs i σ _ hlt p
 . have e:i=n:=by omega
   subst e;exact .inl ⟨Nat.le_refl _,hd σ H p⟩
end L2
namespace L2
open PySem PySem.Spec PyProof.Rows
abbrev R2:=V->V->Hp->VK->Prop
def OpR (X:Cx)(f:Value->Value->Sem Value)(r:R2):Prop:=
 ∀(pins:List (Addr×Obj)) (s:Shared) (σ:St) (H:Hp) (x y:V) (v u:Value) (Q:VK),Inv X pins σ H s->RelV x v->RelV y u->r x y H Q →
  wpAny (model X.prog X.w) X.A (f v u) (EP X pins σ Q) X.xe s
def UnR (X:Cx)(f:Value->Sem Value)(r:V->Hp->VK->Prop):Prop:=
 ∀(pins:List (Addr×Obj)) (s:Shared) (σ:St) (H:Hp) (x:V) (v:Value) (Q:VK),Inv X pins σ H s->RelV x v->r x H Q →
  wpAny (model X.prog X.w) X.A (f v) (EP X pins σ Q) X.xe s
def cr (X:Cx)(f:Value)(r:List V->Hp->VK->Prop):Prop:=
 ∀(pins:List (Addr×Obj)) (s:Shared) (σ:St) (H:Hp) (xs:List V) (us:List Value) (Q:VK),Inv X pins σ H s->Vals xs us->r xs H Q →
  wpAny (model X.prog X.w) X.A (call f us) (EP X pins σ Q) X.xe s
def tOp (r:R2)(ta tb:TE):TE:=fun σ H Q=>ta σ H fun x H1=>tb σ H1 fun y H2=>r x y H2 Q
def tUn (r:V->Hp->VK->Prop)(ta:TE):TE:=fun σ H Q=>ta σ H fun x H1=>r x H1 Q
def rI (C:Int->Int->Prop)(g:Int->Int->V):R2:=fun x y H Q=>∃i j,x = .int i/\y = .int j/\C i j/\Q (g i j) H
def rI0 (g:Int->Int->V):R2:=fun x y H Q=>∃i j,x = .int i/\y = .int j/\Q (g i j) H
def rU (g:Int->V):V->Hp->VK->Prop:=fun x H Q=>∃i,x = .int i/\Q (g i) H
section
variable {X:Cx}{a b c:Expr}{ta tb tc:TE}{pos:Pos}
theorem binT (ha:PE X a ta)(hb:PE X b tb){pins:List (Addr×Obj)}{s:Shared}{σ:St}{H:Hp}{R:V->V->Hp->Prop}(I:Inv X pins σ H s)(h:ta σ H fun x H1=>tb σ H1 fun y H2=>R x y H2){Q:Value->Shared->Prop}{f:Value->Value->Sem Value}(hf:∀v u s2 x y H2,Inv X pins σ H2 s2->RelV x v->RelV y u->R x y H2->wpAny (model X.prog X.w) X.A (f v u) Q X.xe s2):wpAny (model X.prog X.w) X.A (eval a X.env) (fun v s₁=>wpAny (model X.prog X.w) X.A (eval b X.env) (fun u s₂=>wpAny (model X.prog X.w) X.A (f v u) Q X.xe s₂) X.xe s₁) X.xe s:=by
 refine thn (ha pins s σ H _ I h) fun v s1 ⟨x,H1,I1,r1,q1⟩=>?_;refine thn (hb pins s1 σ H1 _ I1 q1) fun u s2 ⟨y,H2,I2,r2,q2⟩=>?_;exact hf v u s2 x y H2 I2 r1 r2 q2
theorem ak {op:Operator}{r:R2}(ho:OpR X (binaryOp op) r)(ha:PE X a ta)(hb:PE X b tb):PE X (.BinOp a op b pos) (tOp r ta tb):=by
 intro pins s σ H Q I h;exact wpAny_BinOp (binT ha hb I h fun v u s2 x y H2 I2 rx ry q=>ho pins s2 σ H2 x y v u Q I2 rx ry q)
theorem j7 {op:UnaryOp}{r:V->Hp->VK->Prop}(ho:UnR X (unaryOp op) r)(ha:PE X a ta):PE X (.UnaryOp op a pos) (tUn r ta):=by
 intro pins s σ H Q I h;exact UnaryOp_ (thn (ha pins s σ H _ I h) fun v s1 ⟨x,H1,I1,r1,q1⟩=>ho pins s1 σ H1 x v Q I1 r1 q1)
theorem opI {f:Value->Value->Sem Value}{C:Int->Int->Prop}{g:Int->Int->Int}(rule:∀(i j:Int) (t u:Tok) (s:Shared) (Q:Value->Shared->Prop) (E:Value->Shared->Prop),C i j->Q (.int (g i j) s.toks) { s with toks:=s.toks+1 }->wpAny (model X.prog X.w) X.A (f (.int i t) (.int j u)) Q E s) :
 OpR X f (rI C fun i j=>.int (g i j)):=by
 intro pins s σ H x y v u Q I rx ry h;obtain⟨i,j,rfl,rfl,hc,q⟩:=h;obtain⟨t,rfl⟩:=rx;obtain⟨t',rfl⟩:=ry;exact rule i j t t' s _ _ hc ⟨.int (g i j),H,I.tok _,⟨_,rfl⟩,q⟩
theorem opI0 {f:Value->Value->Sem Value}{g:Int->Int->Int}(rule:∀(i j:Int) (t u:Tok) (s:Shared) (Q:Value->Shared->Prop) (E:Value->Shared->Prop),Q (.int (g i j) s.toks) { s with toks:=s.toks+1 }->wpAny (model X.prog X.w) X.A (f (.int i t) (.int j u)) Q E s) :
 OpR X f (rI0 fun i j=>.int (g i j)):=by
 intro pins s σ H x y v u Q I rx ry h;obtain⟨i,j,rfl,rfl,q⟩:=h;obtain⟨t,rfl⟩:=rx;obtain⟨t',rfl⟩:=ry;exact rule i j t t' s _ _ ⟨.int (g i j),H,I.tok _,⟨_,rfl⟩,q⟩
theorem opB0 {f:Value->Value->Sem Value}{g:Int->Int->Bool}(rule:∀(i j:Int) (t u:Tok) (s:Shared) (Q:Value->Shared->Prop) (E:Value->Shared->Prop),Q (.bool (g i j)) s->wpAny (model X.prog X.w) X.A (f (.int i t) (.int j u)) Q E s):OpR X f (rI0 fun i j=>.bl (g i j)):=by
 intro pins s σ H x y v u Q I rx ry h;obtain⟨i,j,rfl,rfl,q⟩:=h;obtain⟨t,rfl⟩:=rx;obtain⟨t',rfl⟩:=ry;exact rule i j t t' s _ _ ⟨.bl (g i j),H,I,rfl,q⟩
def CDiv (i j:Int):Prop:=0 < j/\j < 1073741824
def CPow (i j:Int):Prop:=0≤j/\j≤1000000/\i.natAbs < 2 ^ 64
def CMul (i j:Int):Prop:=(-(2 ^ 64) < i/\i < 2 ^ 64)∨(-(2 ^ 64) < j/\j < 2 ^ 64)
theorem CMul.ok {i j:Int}(h:CMul i j):IntMulOk i j:=by
 rcases h with⟨h1,h2⟩ | ⟨h1,h2⟩
 . exact .of_left (intBits_le_64 h1 h2)
 . exact .of_right (intBits_le_64 h1 h2)
theorem bo:OpR X (binaryOp .Add) (rI0 fun i j=>.int (i+j)):=opI0 fun _ _ _ _ _ _ _ q=>add_int q
theorem f9:OpR X (binaryOp .Sub) (rI0 fun i j=>.int (i - j)):=opI0 fun _ _ _ _ _ _ _ q=>sub_int q
theorem gu:OpR X (binaryOp .Mult) (rI CMul fun i j=>.int (i*j)):=opI fun _ _ _ _ _ _ _ hc q=>mul_int q hc.ok
theorem cF:OpR X (binaryOp .FloorDiv) (rI CDiv fun i j=>.int (i / j)):=opI fun i j _ _ _ _ _ hc q=>by
 have h1:(0:Int) < j:=hc.1;have h2:j < 1073741824:=hc.2;exact floordiv_int (by omega) (by rw[Int.fdiv_eq_ediv_of_nonneg i (by omega)];exact q) (.inl (PyProof.noPylong_small (by omega)))
theorem b8:OpR X (binaryOp .Mod) (rI (fun _ j=>0 < j) fun i j=>.int (i % j)):=opI fun i j _ _ _ _ _ hc q=>by
 have h1:(0:Int) < j:=hc;exact mod_int' (by omega) (by rw[Int.fmod_eq_emod_of_nonneg i (by omega)];exact q)
theorem jH:OpR X (binaryOp .Pow) (rI CPow fun i j=>.int (i ^ j.toNat)):=opI fun _ _ _ _ _ _ _ hc q=>pow_int_small hc.1 hc.2.1 hc.2.2 q
theorem unI {f:Value->Sem Value}{g:Int->Int}(rule:∀(i:Int) (t:Tok) (s:Shared) (Q:Value->Shared->Prop) (E:Value->Shared->Prop),Q (.int (g i) s.toks) { s with toks:=s.toks+1 }->wpAny (model X.prog X.w) X.A (f (.int i t)) Q E s) :
 UnR X f (rU fun i=>.int (g i)):=by
 intro pins s σ H x v Q I rx h;obtain⟨i,rfl,q⟩:=h;obtain⟨t,rfl⟩:=rx;exact rule i t s _ _ ⟨.int (g i),H,I.tok _,⟨_,rfl⟩,q⟩
theorem g5:UnR X (unaryOp .USub) (rU fun i=>.int (-i)):=unI fun _ _ _ _ _ q=>neg_int q
end
def scal:V->V->Bool
 | .non,.non=>true | .non,.int _=>true | .int _,.non=>true | .non,.bl _=>true | .bl _,.non=>true | .non,.str _=>true | .str _,.non=>true
 | .int _,.int _=>true | .bl _,.bl _=>true | .str _,.str _=>true | .byt _,.byt _=>true
 | .int _,.str _=>true | .str _,.int _=>true | .bl _,.str _=>true | .str _,.bl _=>true
 | _,_=>false
def rEq:R2:=fun x y H Q=>scal x y=true/\Q (.bl (decide (x=y))) H
def rNe:R2:=fun x y H Q=>scal x y=true/\Q (.bl (!decide (x=y))) H
theorem km {i j:Int}:decide (V.int i=V.int j)=(i == j):=by
 rw[Bool.eq_iff_iff];simp
theorem lz {i j:Bool}:decide (V.bl i=V.bl j)=(i == j):=by
 rw[Bool.eq_iff_iff];simp
theorem kj {i j:Str}:decide (V.str i=V.str j)=(i == j):=by
 rw[Bool.eq_iff_iff];simp
theorem kq {i j:Array UInt8}:decide (V.byt i=V.byt j)=(i.toList == j.toList):=by
 rw[Bool.eq_iff_iff];cases i;cases j;simp
section
variable {X:Cx}{a b c:Expr}{ta tb tc:TE}{pos:Pos}
theorem aK {pins:List (Addr×Obj)}{σ:St}{H:Hp}{s:Shared}{Q:VK}{k k':Bool}(I:Inv X pins σ H s)(q:Q (.bl k) H)(e:k=k'):EP X pins σ Q (.bool k') s:=by
 subst e;exact⟨.bl k,H,I,rfl,q⟩
theorem ja:OpR X (compareOp .Eq) rEq:=by
 intro pins s σ H x y v u Q I rx ry h;obtain⟨hs,q⟩:=h;cases x with
 | non =>
  cases rx;cases y with
  | non=>cases ry;exact PySem.EqNone.eq_none_none (aK I q (by simp))
  | bl j=>cases ry;exact PySem.EqNone.eq_none_bool (aK I q (by simp))
  | int j=>obtain⟨t',rfl⟩:=ry;exact PySem.EqNone.eq_none_int (aK I q (by simp))
  | str j=>obtain⟨t',rfl⟩:=ry;exact PySem.EqNone.eq_none_str (aK I q (by simp))
  | _=>exact absurd (show false=true from hs) Bool.false_ne_true
 | bl i =>
  cases rx;cases y with
  | non=>cases ry;exact PySem.EqNone.eq_bool_none (aK I q (by simp))
  | bl j=>cases ry;exact eq_bool (aK I q lz)
  | str j=>obtain⟨t',rfl⟩:=ry;exact PySem.EqMixed.eq_bool_str (aK I q (by simp))
  | _=>exact absurd (show false=true from hs) Bool.false_ne_true
 | int i =>
  obtain⟨t,rfl⟩:=rx;cases y with
  | non=>cases ry;exact PySem.EqNone.eq_int_none (aK I q (by simp))
  | int j=>obtain⟨t',rfl⟩:=ry;exact eq_int (aK I q km)
  | str j=>obtain⟨t',rfl⟩:=ry;exact PySem.EqMixed.eq_int_str (aK I q (by simp))
  | _=>exact absurd (show false=true from hs) Bool.false_ne_true
 | str i =>
  obtain⟨t,rfl⟩:=rx;cases y with
  | non=>cases ry;exact PySem.EqNone.eq_str_none (aK I q (by simp))
  | bl j=>cases ry;exact PySem.EqMixed.eq_str_bool (aK I q (by simp))
  | int j=>obtain⟨t',rfl⟩:=ry;exact PySem.EqMixed.eq_str_int (aK I q (by simp))
  | str j=>obtain⟨t',rfl⟩:=ry;exact eq_str (aK I q kj)
  | _=>exact absurd (show false=true from hs) Bool.false_ne_true
 | byt i =>
  obtain⟨t,rfl⟩:=rx;cases y with
  | byt j=>obtain⟨t',rfl⟩:=ry;exact PySem.W.eq_bytes (aK I q kq)
  | _=>exact absurd (show false=true from hs) Bool.false_ne_true
 | _=>cases y<;>exact absurd (show false=true from hs) Bool.false_ne_true
theorem gt:OpR X (compareOp .NotEq) rNe:=by
 intro pins s σ H x y v u Q I rx ry h;obtain⟨hs,q⟩:=h;cases x with
 | non =>
  cases rx;cases y with
  | non=>cases ry;exact PySem.EqNone.ne_none_none (aK I q (by simp))
  | bl j=>cases ry;exact PySem.EqNone.ne_none_bool (aK I q (by simp))
  | int j=>obtain⟨t',rfl⟩:=ry;exact PySem.EqNone.ne_none_int (aK I q (by simp))
  | str j=>obtain⟨t',rfl⟩:=ry;exact PySem.EqNone.ne_none_str (aK I q (by simp))
  | _=>exact absurd (show false=true from hs) Bool.false_ne_true
 | bl i =>
  cases rx;cases y with
  | non=>cases ry;exact PySem.EqNone.ne_bool_none (aK I q (by simp))
  | bl j=>cases ry;exact ne_bool (aK I q (congrArg not lz))
  | str j=>obtain⟨t',rfl⟩:=ry;exact PySem.EqMixed.ne_bool_str (aK I q (by simp))
  | _=>exact absurd (show false=true from hs) Bool.false_ne_true
 | int i =>
  obtain⟨t,rfl⟩:=rx;cases y with
  | non=>cases ry;exact PySem.EqNone.ne_int_none (aK I q (by simp))
  | int j=>obtain⟨t',rfl⟩:=ry;exact ne_int (aK I q (congrArg not km))
  | str j=>obtain⟨t',rfl⟩:=ry;exact PySem.EqMixed.ne_int_str (aK I q (by simp))
  | _=>exact absurd (show false=true from hs) Bool.false_ne_true
 | str i =>
  obtain⟨t,rfl⟩:=rx;cases y with
  | non=>cases ry;exact PySem.EqNone.ne_str_none (aK I q (by simp))
  | bl j=>cases ry;exact PySem.EqMixed.ne_str_bool (aK I q (by simp))
  | int j=>obtain⟨t',rfl⟩:=ry;exact PySem.EqMixed.ne_str_int (aK I q (by simp))
  | str j=>obtain⟨t',rfl⟩:=ry;exact ne_str (aK I q (congrArg not kj))
  | _=>exact absurd (show false=true from hs) Bool.false_ne_true
 | byt i =>
  obtain⟨t,rfl⟩:=rx;cases y with
  | byt j=>obtain⟨t',rfl⟩:=ry;exact PySem.W.ne_bytes (aK I q (congrArg not kq))
  | _=>exact absurd (show false=true from hs) Bool.false_ne_true
 | _=>cases y<;>exact absurd (show false=true from hs) Bool.false_ne_true
theorem j9:OpR X (compareOp .Lt) (rI0 fun i j=>.bl (decide (i < j))):=opB0 fun _ _ _ _ _ _ _ q=>lt_int q
theorem op_le:OpR X (compareOp .LtE) (rI0 fun i j=>.bl (decide (i≤j))):=opB0 fun _ _ _ _ _ _ _ q=>le_int q
theorem op_gt:OpR X (compareOp .Gt) (rI0 fun i j=>.bl (decide (j < i))):=opB0 fun _ _ _ _ _ _ _ q=>gt_int q
theorem op_ge:OpR X (compareOp .GtE) (rI0 fun i j=>.bl (decide (j≤i))):=opB0 fun _ _ _ _ _ _ _ q=>ge_int q
theorem b9 (b:Expr){op:CmpOp}(h:op≠.In:=by decide)(h2:op≠.NotIn:=by decide):behindInMarks op b=false:=by
 have e1:(op == CmpOp.In)=false:=by cases op<;>first | rfl | exact absurd rfl h
 have e2:(op == CmpOp.NotIn)=false:=by cases op<;>first | rfl | exact absurd rfl h2
 cases b<;>simp[behindInMarks,e1,e2]
theorem cD {op:CmpOp}{r:R2}(ho:OpR X (compareOp op) r)(ha:PE X a ta)(hb:PE X b tb)(hm:behindInMarks op b=false):PE X (.Compare a [op] [b] pos) (tOp r ta tb):=by
 intro pins s σ H Q I h;exact wpAny_Compare1 (binT ha hb I h fun v u s2 x y H2 I2 rx ry q=>ho pins s2 σ H2 x y v u Q I2 rx ry q) hm
def tTest (t:TE):TT:=fun σ H Q=>t σ H fun x H'=>∃k,x = .bl k/\Q k H'
theorem aJ {op:CmpOp}{r:R2}(ho:OpR X (compareOp op) r)(ha:PE X a ta)(hb:PE X b tb)(hm:behindInMarks op b=false):PT X (.Compare a [op] [b] pos) (tTest (tOp r ta tb)):=by
 intro pins s σ H Q I h;refine wpAny_isTrue_Compare1 (thn (ha pins s σ H _ I h) fun v s1 ⟨x,H1,I1,r1,q1⟩=>thn (hb pins s1 σ H1 _ I1 q1) fun u s2 ⟨y,H2,I2,r2,q2⟩ =>
  thn (ho pins s2 σ H2 x y v u _ I2 r1 r2 q2) fun c s3 ⟨z,H3,I3,r3,k,e,q3⟩=>?_) hm
 subst e;cases r3;exact wpAny_truthy_bool ⟨H3,I3,q3⟩
def tChain (r r':R2)(ta tb tc:TE):TE:=fun σ H Q=>ta σ H fun x H1=>tb σ H1 fun y H2=>r x y H2 fun z H3=>∃k,z = .bl k ∧
 (if k=true then tc σ H3 fun w' H4=>r' y w' H4 Q else Q (.bl false) H3)
theorem pe_chain {op op':CmpOp}{r r':R2}(ho:OpR X (compareOp op) r)(ho':OpR X (compareOp op') r')(ha:PE X a ta)(hb:PE X b tb)(hc:PE X c tc)(hm:lastMarks [op,op'] [b,c]=false:=by with_unfolding_all rfl):PE X (.Compare a [op,op'] [b,c] pos) (tChain r r' ta tb tc):=by
 intro pins s σ H Q I h;refine Compare_chain (thn (ha pins s σ H _ I h) fun v s1 ⟨x,H1,I1,r1,q1⟩=>chain_link (thn (hb pins s1 σ H1 _ I1 q1) fun u s2 ⟨y,H2,I2,r2,q2⟩ =>
  thn (ho pins s2 σ H2 x y v u _ I2 r1 r2 q2) fun d s3 ⟨z,H3,I3,r3,k,e,q3⟩=>?_)) hm
 subst e;cases r3;refine wpAny_truthy_bool ?_;cases k with
 | false=>exact ite_ff ⟨.bl false,H3,I3,rfl,q3⟩
 | true=>exact ite_tt (chain_last (thn (hc pins s3 σ H3 _ I3 q3) fun w' s4 ⟨z',H4,I4,r4,q4⟩=>ho' pins s4 σ H4 y z' u w' Q I4 r2 r4 q4))
theorem iE:(sizeLine:Nat) < 2 ^ 63:=by rw[sizeLine_eq];decide
theorem fi {x:V}{us:List Value}(r:Vals [x] us):∃u,us=[u]/\RelV x u:=by
 cases r with
 | cons r1 r2=>cases r2;exact⟨_,rfl,r1⟩
theorem lG {x y:V}{us:List Value}(r:Vals [x,y] us):∃u w',us=[u,w']/\RelV x u/\RelV y w':=by
 cases r with
 | cons r1 r2 =>
  cases r2 with
  | cons r3 r4=>cases r4;exact⟨_,_,rfl,r1,r3⟩
theorem call_min2 (hc:X.calm=true):cr X (.builtin "min") (fun xs H Q=>∃i j,xs=[.int i,.int j]/\Q (.int (if j < i then j else i)) H):=by
 intro pins s σ H xs us Q I r h;obtain⟨i,j,rfl,q⟩:=h;obtain⟨u,w',rfl,⟨t,rfl⟩,⟨t',rfl⟩⟩:=lG r;refine min_two_ints (I.ok.hd hc) fun h' tk k=>⟨_,H,I.kept k,?_,q⟩;by_cases hj:j < i
 . rw[if_pos hj,if_pos hj];exact⟨_,rfl⟩
 . rw[if_neg hj,if_neg hj];exact⟨_,rfl⟩
theorem call_int1:cr X (.type "int") (fun xs H Q=>(∃i,xs=[.int i]/\Q (.int i) H)∨∃k,xs=[.bl k]/\Q (.int (if k then 1 else 0)) H):=by
 intro pins s σ H xs us Q I r h;rcases h with⟨i,rfl,q⟩ | ⟨k,rfl,q⟩
 . obtain⟨u,rfl,t,rfl⟩:=fi r;exact call_int_int ⟨.int i,H,I,⟨_,rfl⟩,q⟩
 . obtain⟨u,rfl,r1⟩:=fi r;cases r1;exact call_int_bool ⟨.int (if k then 1 else 0),H,I.tok _,⟨_,rfl⟩,q⟩
end
end L2
namespace L2
open PySem PySem.Spec PyProof.Rows
structure ObjM (h:Heap) (x dx C:Addr) (mA:Str->Option Value):Prop where
 obj:h.get? x=some (PySem.W.instObj C dx)
 ns:h.Ns1 dx mA
 ne:dx≠x
theorem lookIn_ns {h:Heap}{dx:Addr}{mA:Str->Option Value}(n:h.Ns1 dx mA):∃od,h.get? dx=some od/\∀name,PySem.W.lookIn name od=some (mA name):=by
 obtain⟨o,es,ep,ho,hd,hk,_,hm⟩:=n;refine⟨o,ho,fun name=>?_⟩;have e:=hm name;unfold nsFind findBy at e;rw[←Array.find?_toList]at e;unfold PySem.W.lookIn;rw[hd];dsimp only
 split
 . rename_i y q;rw[q]at e;exact congrArg some e
 . rename_i q;rw[q]at e;have a:es.toList.any (·.refKey)=false:=by
    rw[List.any_eq_false];intro y hy;obtain⟨z,t,hkey⟩:=hk y (Array.mem_toList_iff.mp hy);simp[DictEntry.refKey,hkey]
   have a':¬es.toList.any (·.refKey)=true:=by rw[a];exact Bool.false_ne_true
   rw[if_neg a'];exact congrArg some e
theorem ObjM.look {h:Heap}{x dx C:Addr}{mA:Str->Option Value}(I:ObjM h x dx C mA):∃od,PySem.W.InstAt h x (PySem.W.instObj C dx) C (some od)/\∀name,PySem.W.lookIn name od=some (mA name):=
 let ⟨od,ho,hl⟩:=lookIn_ns I.ns
 ⟨od,⟨I.obj,rfl,rfl,ho⟩,hl⟩
section
variable {prog:Program}{w:World}{A:Around}{E:Value->Shared->Prop}{s:Shared}{K:PySem.W.Frag}{x dx C f:Addr}{mA:Str->Option Value}{name:Str}{v:Value}
end
theorem RelO.some_of {v:V}{o:Option Value}(r:RelO (some v) o):∃u,o=some u/\RelV v u:=by
 cases o with
 | none=>exact(show False from r).elim
 | some u=>exact⟨u,rfl,r⟩
section
variable {P:Program}{w:World}{H H':Hp}{h h':Heap}{a C dx:Addr}{fs fs':List (Str×V)}
theorem ins_get (hok:HOk P w H h)(e:H a=some (.ins C dx fs)):∃mA,ObjM h a dx C mA/\(∀f,RelO (fs.lookup f) (mA f))/\PySem.Within mA (fs.map (·.1))/\fs.length≤1000/\H dx=some (.own a):=by
 obtain⟨d,z,ne,ob,mA,n,r,q⟩:=(show ObjOk P w H h a (.ins C dx fs)from hok a _ e)
 exact⟨mA,⟨ob,n,ne⟩,r,q,z,d⟩
end
structure Cls (K:PySem.W.Frag) (C:Addr):Prop where
 pg:PySem.W.plainGet K C Str.empty=true
 hd:PySem.W.hasDictIn K C=true
 po:PySem.W.plainOver K C=true
 sa:PySem.W.findIn K (.ref C) "__setattr__" = some (some (.builtin "object.__setattr__"))
theorem Cls.get {K:PySem.W.Frag}{C:Addr}(c:Cls K C)(f:Str):PySem.W.plainGet K C f=true:=c.pg
section
variable {X:Cx}{pins:List (Addr×Obj)}{σ:St}{H:Hp}{s:Shared}{a C dx:Addr}{fs:List (Str×V)}{f:Str}{v:V}{A:Around}{E:Value->Shared->Prop}
end
section
variable {X:Cx}{o e value:Expr}{f:Str}{pos pos' tpos:Pos}{ta tv:TE}
end
section
variable {X:Cx}{pins:List (Addr×Obj)}{σ:St}{H:Hp}{s:Shared}{A:Around}{E:Value->Shared->Prop}{Q:Value->Shared->Prop}{c:Value}{b:Bool}
inductive TyOf (K:PySem.W.Frag) (H:Hp):V->Value->Prop where
 | non:TyOf K H .non (.type "NoneType")
 | bl (x:Bool):TyOf K H (.bl x) (.type "bool")
 | int (i:Int):TyOf K H (.int i) (.type "int")
 | str (x:Str):TyOf K H (.str x) (.type "str")
 | flt (x:UInt64):TyOf K H (.flt x) (.type "float")
 | lst {a:Addr} {xs:List V} (e:H a=some (.lst xs)):TyOf K H (.ref a) (.type "list")
 | frz {a:Addr} {o:Obj} {xs:List V} (e:H a=some (.frz o (.lst xs))):TyOf K H (.ref a) (.type "list")
 | tup {a:Addr} {xs:List V} (e:H a=some (.tup xs)):TyOf K H (.ref a) (.type "tuple")
 | dK {a:Addr} {kvs:List (Key×V)} (e:H a=some (.dK kvs)):TyOf K H (.ref a) (.type "dict")
 | dT {a:Addr} {kvs:List (List Key×V)} (e:H a=some (.dT kvs)):TyOf K H (.ref a) (.type "dict")
 | ins {a C dx:Addr} {fs:List (Str×V)} (e:H a=some (.ins C dx fs)) (cl:Cls K C) (ha:PySem.W.findIn K (.ref C) "__class__" = some (some (.builtin "object.__class__")))
  (hn:PySem.W.specialIn K (.builtin "object.__class__") "__get__" = some (some (.builtin "getset_descriptor.__get__"))) (htk:PySem.W.takesIn K (.builtin "object.__class__")=some true)
  (hm:PySem.W.mroIn K C (.type "object")=some true):TyOf K H (.ref a) (.ref C)
theorem isinst_ok {x:V}{u t:Value}(I:Inv X pins σ H s)(rx:RelV x u)(ty:TyOf X.K H x t)(e:PySem.W.kitOne X.K t c=some b)(h:∀tk,Q (.bool b) { s with toks:=tk }) :
 wpAny (model X.prog X.w) A (call (.builtin "isinstance") [u,c]) Q E s:=by
 cases ty with
 | non=>cases(show u=Value.none from rx);exact PySem.W.kia_one PySem.W.kitx_none I.kIn True.intro e (fun z=>nomatch z) h
 | bl y=>cases(show u=Value.bool y from rx);exact PySem.W.kia_one PySem.W.kitx_bool I.kIn True.intro e (fun z=>nomatch z) h
 | int i=>obtain⟨t,q⟩:=(show ∃t,u=Value.int i t from rx);cases q;exact PySem.W.kia_one PySem.W.kitx_int I.kIn True.intro e (fun z=>nomatch z) h
 | str y=>obtain⟨t,q⟩:=(show ∃t,u=Value.str y t from rx);cases q;exact PySem.W.kia_one PySem.W.kitx_str I.kIn True.intro e (fun z=>nomatch z) h
 | flt y=>obtain⟨t,q⟩:=(show ∃t,u=Value.float y t from rx);cases q;exact PySem.W.kia_one PySem.W.kitx_float I.kIn True.intro e (fun z=>nomatch z) h
 | @lst a xs ea =>
  cases(show u=Value.ref a from rx)
  obtain⟨_,_,n,_,h1⟩:=(show ObjOk X.prog X.w H s.heap a (.lst xs)from I.hok a _ ea)
  exact PySem.W.kia_one PySem.W.kitx_list I.kIn ⟨_,h1,rfl⟩ e (fun z=>nomatch z) h
 | @frz a ob xs ea =>
  cases(show u=Value.ref a from rx)
  obtain⟨_,_,_,n,_,h1⟩:=(show ObjOk X.prog X.w H s.heap a (.frz ob (.lst xs))from I.hok a _ ea)
  exact PySem.W.kia_one PySem.W.kitx_list I.kIn ⟨_,h1,rfl⟩ e (fun z=>nomatch z) h
 | @tup a xs ea =>
  cases(show u=Value.ref a from rx)
  obtain⟨_,_,_,p⟩:=(show ObjOk X.prog X.w H s.heap a (.tup xs)from I.hok a _ ea)
  obtain⟨o,h1,h2,_⟩:=p;exact PySem.W.kia_one PySem.W.kitx_tuple I.kIn ⟨o,h1,h2⟩ e (fun z=>nomatch z) h
 | @dK a kvs ea =>
  cases(show u=Value.ref a from rx)
  obtain⟨_,_,vs,_,p⟩:=(show ObjOk X.prog X.w H s.heap a (.dK kvs)from I.hok a _ ea)
  obtain⟨o,es,ep,h1,h2,_⟩:=p;exact PySem.W.kia_one PySem.W.kitx_dict I.kIn ⟨o,h1,h2.1⟩ e (fun z=>nomatch z) h
 | @dT a kvs ea =>
  cases(show u=Value.ref a from rx)
  obtain⟨_,_,xs,_,o,es,ep,h1,h2,_⟩:=(show ObjOk X.prog X.w H s.heap a (.dT kvs)from I.hok a _ ea)
  exact PySem.W.kia_one PySem.W.kitx_dict I.kIn ⟨o,h1,h2.1⟩ e (fun z=>nomatch z) h
 | @ins a C dx fs ea cl ha hn htk hm =>
  cases(show u=Value.ref a from rx)
  obtain⟨mA,O,_⟩:=ins_get I.hok ea;obtain⟨od,J,_⟩:=O.look;exact PySem.W.kia_one (PySem.W.kitx_own (cl.get _) cl.hd ha hn htk hm) I.kIn J e (fun z=>nomatch z) h
end
end L2
namespace L2
open PySem PySem.Spec PyProof.Rows
structure Room (k:Nat) (A:Around):Prop where
 hd:A.handled=none
 dp:A.depth+3*k+5 < recursionLimit
 un:A.units+16*k+200 < cLine
theorem Room.mono {j k:Nat}{A:Around}(r:Room k A)(h:j≤k):Room j A:=⟨r.hd,by have:=r.dp;omega,by have:=r.un;omega⟩
theorem Room.deeper {k:Nat}{A:Around}(r:Room (k+1) A)(env:Env):Room k (A.deeper env):=
 ⟨r.hd,by have:=r.dp;show A.depth+1+3*k+5 < _;omega,by have:=r.un;show A.units+3+16*k+200 < _;omega⟩
theorem Room.in1 {k:Nat}{A:Around}(r:Room (k+1) A):Room k A.in1:=
 ⟨r.hd,by have:=r.dp;show A.depth+3*k+5 < _;omega,by have:=r.un;show A.units+1+16*k+200 < _;omega⟩
theorem Room.depth {k:Nat}{A:Around}(r:Room k A):A.depth < recursionLimit:=by have:=r.dp;omega
theorem Room.units {k:Nat}{A:Around}(r:Room k A):A.units+64 < cLine:=by have:=r.un;omega
def tNil:TA:=fun _ H Q=>Q [] H
def iO (ta:TE)(tr:TA):TA:=fun σ H Q=>ta σ H fun x H1=>tr σ H1 fun xs H2=>Q (x::xs) H2
section
variable {X:Cx}{e:Expr}{es:List Expr}{te:TE}{t:TA}{pos:Pos}
theorem af:PA X [] tNil:=fun _ _ _ _ H Q I h=>Calls.spliced_nil ⟨[],H,I,.nil,h⟩
theorem a7 (ha:PE X e te)(hr:PA X es t)(hs:starEach (e::es) X.env=(false,eval e X.env)::starEach es X.env:=by rfl):PA X (e::es) (iO te t):=by
 intro pos pins s σ H Q I h;rw[hs];show wpAny _ _ (spliced ((false,eval e X.env)::backTo pos (starEach es X.env))) _ _ s;refine Calls.spliced_cons (thn (ha pins s σ H _ I h) fun u s1 ⟨x,H1,I1,r1,q1⟩=>?_);exact thn (hr pos pins s1 σ H1 _ I1 q1) fun us s2 ⟨xs,H2,I2,r2,q2⟩=>⟨x::xs,H2,I2,.cons r1 r2,q2⟩
def tTup (t:TA):TE:=fun σ H Q=>t σ H fun xs H1=>xs.length≤sizeLine/\∀p,H1 p=none->Q (.ref p) (upd H1 p (.tup xs))
def tLst (t:TA):TE:=fun σ H Q=>t σ H fun xs H1=>xs.length≤sizeLine/\∀p,H1 p=none->Q (.ref p) (upd H1 p (.lst xs))
theorem kZ {x1}(h:PA X es t):PE X (.Tuple es x1 pos) (tTup t):=by
 intro pins s σ H Q I hq;refine wpAny_Tuple_spliced (thn (h pos pins s σ H _ I hq) fun us s1 ⟨xs,H1,I1,r,z,q⟩=>⟨by rw[←r.length];exact z,?_⟩)
 have hf:H1 s1.heap.objs.size=none:=I1.hok.fresh (Nat.le_refl _);refine⟨.ref s1.heap.objs.size,upd H1 s1.heap.objs.size (.tup xs),I1.laid (t':=s1.toks) (fun b u e=>Heap.get?_push_of_some _ e) (Nat.le_refl _) ?_,rfl,q _ hf⟩;exact⟨z,us,r,⟨_,Heap.get?_push_size _ rfl,rfl,_,rfl⟩⟩
theorem aG (h:PA X es t):PE X (.List es pos) (tLst t):=by
 intro pins s σ H Q I hq;refine wpAny_List_spliced (thn (h pos pins s σ H _ I hq) fun us s1 ⟨xs,H1,I1,r,z,q⟩=>⟨by rw[←r.length];exact z,?_⟩)
 have hf:H1 s1.heap.objs.size=none:=I1.hok.fresh (Nat.le_refl _);refine⟨.ref s1.heap.objs.size,upd H1 s1.heap.objs.size (.lst xs),I1.laid (t':=s1.toks) (fun b u e=>Heap.get?_push_of_some _ e) (Nat.le_refl _) ?_,rfl,q _ hf⟩;exact⟨z,us,0,r,Heap.get?_push_size _ rfl⟩
end
abbrev Sp:=List V->Hp->VK->XK->Prop
abbrev CXT:=List Env->Hp->Shared->XK->Value->Shared->Prop
structure Env0 (P:Program) (w:World) (K:PySem.W.Frag) (mg:Str->Option Value) (base:Heap) (A:Around) (outer:List Env) (s:Shared) (H:Hp):Prop where
 frames:A.frames=some outer
 mod:Mod K mg base
 bs:∀b o,base.get? b=some o->s.heap.get? b=some o/\H b=none
 bsz:base.objs.size≤s.heap.objs.size
 funs:s.heap.FunFrames base outer
 frf:∀b∈frs outer,H b=none
 hok:HOk P w H s.heap
 bare:AllBare s.gens
def CE (outer:List Env)(P:Program)(w:World)(H:Hp)(s:Shared)(Q:VK)(u:Value)(s':Shared):Prop:=
 ∃v H',s'.os=s.os/\AllBare s'.gens/\Un (frs outer) [] H H' s.heap s'.heap/\HOk P w H' s'.heap/\RelV v u/\Q v H'
def CR (CX:CXT)(outer:List Env)(P:Program)(w:World)(H:Hp)(s:Shared)(Q:VK)(E:XK)(r:Result)(s':Shared):Prop:=
 match r with
 | .ok (.ret u)=>CE outer P w H s Q u s'
 | .ok _=>False
 | .error e=>CX outer H s E e s'
structure FnOk (P:Program) (w:World) (K:PySem.W.Frag) (mg:Str->Option Value) (base:Heap) (CX:CXT) (k:Nat) (f:Addr) (fd:FuncData) (ps:List Str) (sp:Sp):Prop where
 len:∀vs H Q E,sp vs H Q E->vs.length=ps.length
 run:∀(A:Around) (outer:List Env) (s:Shared) (H:Hp) (args:Args) (us:List Value) (vs:List V) (Q:VK) (E:XK),Room k A->Env0 P w K mg base A outer s H->BindsTo s fd args (ps.zip us)->Vals vs us->sp vs H Q E →
  codeAny (model P w) A (.call (.ref f) args) (CR CX outer P w H s Q E) s
theorem Env0.in1 {P:Program}{w:World}{K:PySem.W.Frag}{mg:Str->Option Value}{base:Heap}{A:Around}{outer:List Env}{s:Shared}{H:Hp}(e:Env0 P w K mg base A outer s H):Env0 P w K mg base A.in1 outer s H:=⟨e.frames,e.mod,e.bs,e.bsz,e.funs,e.frf,e.hok,e.bare⟩
section
variable {X:Cx}{pins:List (Addr×Obj)}{σ:St}{H:Hp}{s s':Shared}
theorem Inv.env0 (I:Inv X pins σ H s):Env0 X.prog X.w X.K X.mg X.base X.A X.stack s H:=
 ⟨I.ok.frames,I.ok.mod,I.bs,Nat.le_trans I.ok.bsz I.sz,I.stack,I.stkFree,I.hok,I.bare⟩
theorem Inv.after {Q:VK}{u:Value}(I:Inv X pins σ H s)(h:CE X.stack X.prog X.w H s Q u s'):EP X pins σ Q u s':=by
 obtain⟨v,H',os,bare,un,hok,r,q⟩:=h;obtain⟨hh,g,d,t,os'⟩:=s';obtain rfl:os'=s.os:=os;exact⟨v,H',I.call (h':=hh) (g':=g) (d':=d) (t':=t) (ch:=[]) un hok bare (fun b z=>absurd z (by simp)),r,q⟩
end
def tCall (sp:Sp)(dvs:List V)(E:XK)(t:TA):TE:=fun σ H Q=>t σ H fun vs H1=>sp (vs++dvs) H1 Q E
def Binds (K:PySem.W.Frag)(fd:FuncData)(ps:List Str)(ds:List Value):Prop:=
 ∀(s:Shared) (us:List Value),K.In s.heap->(us++ds).length=ps.length->BindsTo s fd ⟨us,[]⟩ (ps.zip (us++ds))
theorem Binds.all {K:PySem.W.Frag}{fd:FuncData}{ps:List Str}(h:∀us:List Value,us.length=ps.length->bindArgs fd ⟨us,[]⟩=pure (ps.zip us)):Binds K fd ps []:=fun s us _ hl=>by
 rw[List.append_nil]at hl⊢;exact .of_eq (h us hl)
def jK (CX:CXT)(X:Cx)(E:XK):Prop:=∀(pins:List (Addr×Obj)) (σ:St) (H:Hp) (s:Shared) (e:Value) (s':Shared),Inv X pins σ H s->CX X.stack H s E e s'->X.xe e s'
section
variable {X:Cx}{CX:CXT}{k:Nat}{f C:Addr}{fd:FuncData}{ps:List Str}{sp:Sp}{dvs:List V}{ds:List Value}{E:XK}{x m:Str}{p pos apos:Pos}{e o:Expr}{es:List Expr}{ta:TE}{t:TA}
theorem run_fn {pins:List (Addr×Obj)}{σ:St}{H:Hp}{s:Shared}{Q:VK}{us:List Value}{vs:List V}(F:FnOk X.prog X.w X.K X.mg X.base CX k f fd ps sp)(hr:Room k X.A)(hb:Binds X.K fd ps ds)(hd:Vals dvs ds)(hx:jK CX X E)(I:Inv X pins σ H s)(r:Vals vs us)(h:sp (vs++dvs) H Q E):wpAny (model X.prog X.w) X.A (call (.ref f) us) (EP X pins σ Q) X.xe s:=by
 have r2:Vals (vs++dvs) (us++ds):=r.append hd;have hl:(us++ds).length=ps.length:=by rw[←r2.length];exact F.len _ _ _ _ h
 refine wpAny_call (codeAny_mono (F.run X.A X.stack s H ⟨us,[]⟩ (us++ds) (vs++dvs) Q E hr I.env0 (hb s us I.kIn hl) r2 h) fun r s' hq=>?_);cases r with
 | error e=>exact hx pins σ H s e s' I hq
 | ok fl =>
  cases fl with
  | ret u=>exact I.after hq
  | next=>exact False.elim hq
  | brk=>exact False.elim hq
  | cont=>exact False.elim hq
theorem am (F:FnOk X.prog X.w X.K X.mg X.base CX k f fd ps sp)(hr:Room k X.A)(hg:Gl X x)(hm:X.mg x=some (.ref f))(hk:PySem.W.keepIn X.K (.ref f)=true)(hb:Binds X.K fd ps ds)(hd:Vals dvs ds)(hx:jK CX X E)(ha:PA X (e::es) t)(hdb:(x == ("__debug__" : Str))=false:=by decide)(he:starEach (e::es) X.env=(false,eval e X.env)::starEach es X.env:=by rfl)(hpl:(backTo pos (starEach es X.env)).any (·.1)=false:=by rfl) :
 PE X (.Call (.Name x p) (e::es) [] pos) (tCall sp dvs E t):=by
 intro pins s σ H Q I h;refine wpAny_Call_Name_kw (k9 I hg hm ?_ hdb);refine PySem.W.callWith_K (h₀:=X.base) I.ok.mod.kin hk (thn (ha pos pins s σ H _ I h) fun us s1 ⟨vs,H1,I1,r,q⟩=>⟨I1.kIn,?_⟩) he hpl;exact run_fn F hr hb hd hx I1 r q
end
section
variable {X:Cx}{CX:CXT}{k:Nat}{f C:Addr}{fd:FuncData}{ps ks:List Str}{sp:Sp}{E:XK}{x m:Str}{p pos apos kpos:Pos}{e o:Expr}{es:List Expr}{kws:List Keyword}{te ta:TE}{t tk:TA}{nm:Option Str}
variable {g:List Value->List Value->List Value}{gV:List V->List V->List V}
end
structure FnScope (N P:List Str) (sc:Scope):Prop where
 kind:sc.kind = .function
 co:sc.isCoroutine=false
 gen:sc.isGenerator=false
 nd:N.Nodup
 pre:N.take P.length=P
 par:∀x∈P,sc.names.lookup x=some .local∨sc.names.lookup x=some .cell
 nofree:∀y∈sc.names,y.2≠.free
theorem i7 {kindOf:Str->Option NameKind}{x:Str}:∀{binds:List (Str×Value)} {m:Str->Option Value},(∀v,(x,v)∉binds)->bindL kindOf binds m x=m x
 | [],_,_=>rfl
 | (n,v)::r,m,h=>by
  unfold bindL;rw[i7 fun w hw=>h w (List.mem_cons_of_mem _ hw)]
  split
  . have:x≠n:=by rintro rfl;exact h v List.mem_cons_self
    simp[this]
  . rfl
theorem i9 {kindOf:Str->Option NameKind}{x:Str}:∀{binds:List (Str×Value)} {m:Str->Option Value},(∀v,(x,v)∉binds)->bindC kindOf binds m x=m x
 | [],_,_=>rfl
 | (n,v)::r,m,h=>by
  unfold bindC;rw[i9 fun w hw=>h w (List.mem_cons_of_mem _ hw)]
  split
  . rfl
  . have:x≠n:=by rintro rfl;exact h v List.mem_cons_self
    simp[this]
theorem i8 {kindOf:Str->Option NameKind}{x:Str}{v:Value}:∀{P:List Str} {vs:List Value} {i:Nat} {m:Str->Option Value},P.Nodup->P[i]? = some x->vs[i]? = some v->kindOf x=some .local →
 bindL kindOf (P.zip vs) m x=some v
 | [],_,_,_,_,h,_,_=>by simp at h
 | _::_,[],_,_,_,_,h,_=>by simp at h
 | p::P,w::vs,0,m,nd,h1,h2,hk=>by
  simp at h1 h2;subst h1;subst h2;show bindL kindOf ((p,w)::P.zip vs) m p=_;unfold bindL;rw[i7 fun v hv=>(List.nodup_cons.mp nd).1 (List.of_mem_zip hv).1,if_pos hk];simp
 | p::P,w::vs,i+1,m,nd,h1,h2,hk=>by
  show bindL kindOf ((p,w)::P.zip vs) m x=_;unfold bindL;exact i8 (i:=i) (List.nodup_cons.mp nd).2 (by simpa using h1) (by simpa using h2) hk
theorem ie {kindOf:Str->Option NameKind}{x:Str}{v:Value}:∀{P:List Str} {vs:List Value} {i:Nat} {m:Str->Option Value},P.Nodup->P[i]? = some x->vs[i]? = some v->kindOf x≠some .local →
 bindC kindOf (P.zip vs) m x=some v
 | [],_,_,_,_,h,_,_=>by simp at h
 | _::_,[],_,_,_,_,h,_=>by simp at h
 | p::P,w::vs,0,m,nd,h1,h2,hk=>by
  simp at h1 h2;subst h1;subst h2;show bindC kindOf ((p,w)::P.zip vs) m p=_;unfold bindC;rw[i9 fun v hv=>(List.nodup_cons.mp nd).1 (List.of_mem_zip hv).1,if_neg hk];simp
 | p::P,w::vs,i+1,m,nd,h1,h2,hk=>by
  show bindC kindOf ((p,w)::P.zip vs) m x=_;unfold bindC;exact ie (i:=i) (List.nodup_cons.mp nd).2 (by simpa using h1) (by simpa using h2) hk
def start (N:List Str)(vs:List V):St:=vs.map some++List.replicate (N.length - vs.length) none
def cxOf (CX:CXT)(P:Program)(w:World)(K:PySem.W.Frag)(mg:Str->Option Value)(base:Heap)(N:List Str)(qual:Str)(scope:Scope)(f:Addr)(cd:Value)(A:Around)(outer:List Env)(s:Shared)(H:Hp)(E:XK):Cx where
 prog:=P
 w:=w
 K:=K
 mg:=mg
 base:=base
 A:=A.deeper (envOfC qual scope s.heap.objs.size f cd)
 N:=N
 s₀:=s
 H₀:=H
 env:=envOfC qual scope s.heap.objs.size f cd
 outer:=outer
 stack:=envOfC qual scope s.heap.objs.size f cd::outer
 ex:=[]
 calm:=true
 fn:=fun _=>true
 pn:=[]
 xe:=fun e s'=>wpAny (model P w) (A.deeper (envOfC qual scope s.heap.objs.size f cd)) (leaving (envOfC qual scope s.heap.objs.size f cd) e) (fun _ s''=>CX outer H s E e s'') (fun e' s''=>CX outer H s E e' s'') s'
theorem ju {sc:Scope}{n:Nat}{x:Str}(h:sc.names.lookup x=some .cell):∃c,(cellsFrom n sc.names []).lookup x=some c:=by
 have q:=PySem.W.cellsFrom_some sc.names n [] (.inl h);exact Option.isSome_iff_exists.mp q
theorem inv_start {CX:CXT}{P:Program}{w:World}{K:PySem.W.Frag}{mg:Str->Option Value}{base:Heap}{N ps:List Str}{qual:Str}{scope:Scope}{f:Addr}{cd:Value}{A:Around}{outer:List Env}{s s1:Shared}{H:Hp}{E:XK}{us:List Value}{vs:List V}(S:FnScope N ps scope)(hd:A.handled=none)(e0:Env0 P w K mg base A outer s H)(hl:vs.length=ps.length)(r:Vals vs us)(x:InCallC s s.heap.objs.size (bindL (envOfC qual scope s.heap.objs.size f cd).kindOf (ps.zip us) fun _=>none) (cellsFrom (s.heap.objs.size+1) scope.names []) (bindC (envOfC qual scope s.heap.objs.size f cd).kindOf (ps.zip us) fun _=>none) s1):Inv (cxOf CX P w K mg base N qual scope f cd A outer s H E) [] (start N vs) H s1:=by
 have hpl:ps.length≤N.length:=by have:=congrArg List.length S.pre;rw[List.length_take]at this;omega
 obtain⟨h1,tk,rfl,hk⟩:=x.done;have noA:∀b:Addr,b∉(cxOf CX P w K mg base N qual scope f cd A outer s H E).ex:=fun b z=>absurd (show b∈([]:List Addr)from z) (by simp)
 refine⟨⟨e0.mod,S.kind,rfl,rfl,Nat.le_refl _,fun y z c h1 h2=>?_,fun y hy=>?_,fun y c _ h=>?_,fun _=>hd,Around.frames_deeper e0.frames,.inr ⟨rfl,rfl⟩,fun b z=>absurd z (noA b),e0.bs,e0.bsz,fun b _ _=>noA b,fun b z=>absurd z (noA b),e0.funs,e0.frf⟩,
  rfl,e0.bare,Un.kept hk,⟨_,x.toInCall.ns,fun i y v h1 h2 h3=>?_⟩,fun y c h=>⟨_,x.cell y c h⟩,e0.hok.fresh (Nat.le_refl _),fun y c h=>?_,fun p hp=>absurd (show p∈([]:List (Addr×Obj))from hp) (by simp),e0.hok.kept hk,?_⟩
 . exact name_of_addr x.apart (PySem.mem_of_lookup h1) (PySem.mem_of_lookup h2)
 . have hy:scope.names.lookup y=some .cell∨scope.names.lookup y=some .free:=hy;rcases hy with hy | hy
   . exact ju hy
   . exact absurd rfl (S.nofree _ (PySem.mem_of_lookup hy))
 . exact Nat.le_of_lt (x.above y c (PySem.mem_of_lookup h))
 . have hi:i < vs.length:=by
    unfold start at h2;by_cases hi:i < vs.length
    . exact hi
    . rw[List.getElem?_append_right (by simpa using hi)]at h2
      rw[List.getElem?_replicate]at h2
      split at h2<;>cases h2
   have ha:vs[i]? = some v:=by
    unfold start at h2;rw[List.getElem?_append_left (by simpa using hi),List.getElem?_map]at h2
    cases e:vs[i]? with
    | none=>rw[e]at h2;cases h2
    | some a=>rw[e]at h2;cases h2;rfl
   obtain⟨u,hu,rv⟩:=r.get ha;have hp:ps[i]? = some y:=by
    rw[←S.pre,List.getElem?_take_of_lt (by omega)];exact h1
   have ndP:ps.Nodup:=by rw[←S.pre];exact S.nd.sublist (List.take_sublist _ _)
   refine⟨u,rv,?_⟩;rcases S.par y (List.mem_of_getElem? hp)with k | k
   . exact .inl ⟨k,i8 ndP hp hu k⟩
   . obtain⟨c,e⟩:=ju (n:=s.heap.objs.size+1) k;refine .inr ⟨.inl k,c,e,?_⟩;have q:=x.cell y c e;rw[ie ndP hp hu (by show scope.names.lookup y≠_;rw[k];decide)]at q
     exact q
 . exact e0.hok.fresh (Nat.le_of_lt (x.above y c (PySem.mem_of_lookup h)))
 . unfold start;show _=N.length;rw[List.length_append,List.length_map,List.length_replicate];omega
theorem lV {CX:CXT}{P:Program}{w:World}{K:PySem.W.Frag}{mg:Str->Option Value}{base:Heap}{k:Nat}{f:Addr}{name qual:Str}{params:Arguments}{body:List Stmt}{scope:Scope}{dV kV doc pm cdv ct oc:Value}{an od:Option Addr}{osl:Array (Option Value)}{N ps:List Str}{sp:Sp}(lk:K.lookup f=some ⟨oc,od,.func (PySem.W.fnOf name qual params body scope dV kV doc pm an cdv ct),osl⟩)(hcd:PySem.W.codeIn K cdv qual=true)(S:FnScope N ps scope)(len:∀vs H Q E,sp vs H Q E->vs.length=ps.length)(hbody:∀(A:Around) (outer:List Env) (s:Shared) (H:Hp) (vs:List V) (Q:VK) (E:XK),Room k (A.deeper (envOfC qual scope s.heap.objs.size f cdv))->sp vs H Q E->∃t,PSs (cxOf CX P w K mg base N qual scope f cdv A outer s H E) body t/\t { nx:=fun _ H'=>Q .non H',rt:=Q } (start N vs) H) :
 FnOk P w K mg base CX (k+1) f (PySem.W.fnOf name qual params body scope dV kV doc pm an cdv ct) ps sp:=by
 refine⟨len,fun A outer s H args us vs Q E hr e0 hb r hsp=>?_⟩;have hl:=len _ _ _ _ hsp;have KX:K.In s.heap:=e0.mod.kin.keeps fun b o e=>(e0.bs b o e).1;have lim:s.heap.NoLimit:=e0.mod.nolimit.keeps fun b o e=>(e0.bs b o e).1;have hkind:∀y∈ps.zip us,scope.names.lookup y.1=some .local∨(scope.names.lookup y.1=some .cell/\((cellsFrom (s.heap.objs.size+1) scope.names []).lookup y.1).isSome=true):=fun⟨n,v⟩ hy=>by
  rcases S.par n (List.of_mem_zip hy).1 with q | q
  . exact .inl q
  . exact .inr ⟨q,PySem.W.cellsFrom_some _ _ _ (.inl q)⟩
 refine codeAny_call_function hr.depth (KX _ _ lk) rfl S.co S.gen rfl (PySem.W.codeRec_of KX hcd) (hb _ _ _ _ ?_);refine wpAny_newFunctionEnv_cells S.kind hkind fun env he s1 x=>?_;subst he;refine⟨lim.keeps x.toInCall.keep,codeAny_func ?_⟩;obtain⟨t,ht,hq⟩:=hbody A outer s H vs Q E (hr.deeper _) hsp;have I:Inv (cxOf CX P w K mg base N qual scope f cdv A outer s H E) [] (start N vs) H s1:=inv_start S hr.hd e0 hl r x;refine wpAny_mono (ht [] s1 (start N vs) H _ I hq) (fun fl s' hs=>?_) fun e s' hs=>hs;have fin:∀{σ':St} {H':Hp} {v:V} {u:Value},Inv (cxOf CX P w K mg base N qual scope f cdv A outer s H E) [] σ' H' s'->RelV v u->Q v H'->CE outer P w H s Q u s':=
  fun{σ' H' v u} J rv q=>⟨v,H',J.os,J.bare,J.base,J.hok,rv,q⟩
 cases fl with
 | ret u =>
  obtain⟨v,σ',H',J,rv,q⟩:=hs;exact fin J rv q
 | next =>
  obtain⟨σ',H',J,q⟩:=hs;exact fin (v:=V.non) (u:=Value.none) J rfl q
 | brk =>
  obtain⟨_,_,_,q⟩:=hs;exact False.elim q
 | cont =>
  obtain⟨_,_,_,q⟩:=hs;exact False.elim q
end L2
namespace L2
open PySem PySem.Spec PyProof.Rows
section
variable {X:Cx}{x:Str}{p pos:Pos}{e:Expr}{es:List Expr}{t:TA}{id T:String}{r:List V->Hp->VK->Prop}
def tCB (r:List V->Hp->VK->Prop)(t:TA):TE:=fun σ H Q=>t σ H fun vs H1=>r vs H1 Q
theorem aD (hc:cr X (.builtin id) r)(hg:Gl X x)(hm:X.mg x=none)(hv:bootBuiltins x=some (.builtin id))(ha:PA X (e::es) t)(hn:x ≠ "__name__":=by decide)(hdb:(x == ("__debug__" : Str))=false:=by decide)
 (he:starEach (e::es) X.env=(false,eval e X.env)::starEach es X.env:=by rfl) (hpl:(backTo pos (starEach es X.env)).any (·.1)=false:=by rfl):PE X (.Call (.Name x p) (e::es) [] pos) (tCB r t):=by
 intro pins s σ H Q I h;refine wpAny_Call_Name_kw (bY I hg hm hv ?_ hn hdb);exact PyProof.Rows.callWith_builtin1 (thn (ha pos pins s σ H _ I h) fun us s1 ⟨vs,H1,I1,r1,q1⟩=>hc pins s1 σ H1 vs us Q I1 r1 q1) he hpl
theorem f7 (hc:cr X (.type T) r)(hg:Gl X x)(hm:X.mg x=none)(hv:bootBuiltins x=some (.type T))(ha:PA X (e::es) t)(hn:x ≠ "__name__":=by decide)(hdb:(x == ("__debug__" : Str))=false:=by decide)
 (he:starEach (e::es) X.env=(false,eval e X.env)::starEach es X.env:=by rfl) (hpl:(backTo pos (starEach es X.env)).any (·.1)=false:=by rfl):PE X (.Call (.Name x p) (e::es) [] pos) (tCB r t):=by
 intro pins s σ H Q I h;refine wpAny_Call_Name_kw (bY I hg hm hv ?_ hn hdb);exact PyProof.Rows.callWith_type1 (thn (ha pos pins s σ H _ I h) fun us s1 ⟨vs,H1,I1,r1,q1⟩=>hc pins s1 σ H1 vs us Q I1 r1 q1) he hpl
end
end L2
namespace HT
open PySem PyProof.Rows
section
open PySem.SeqAt
open PySem.AutoSeq1 (wpAny_loadPart')
open PySem.MeetsSeq PySem.MeetsSeq2 PySem.MeetsSeq3
end
section
variable {prog:Program}{w:World}{A:Around}{E:Value->Shared->Prop}{s:Shared}
def sIx (n d:Nat):Option Int->Nat
 | none=>d
 | some v=>if v < 0 then (v+(n:Int)).toNat else min v.toNat n
theorem sIx_none (n d:Nat):sIx n d none=d:=rfl
theorem sIx_nat (n d k:Nat):sIx n d (some (k:Int))=min k n:=by
 show(if (k:Int) < 0 then ((k:Int)+(n:Int)).toNat else min (k:Int).toNat n)=min k n
 rw[if_neg (by omega),Int.toNat_natCast]
end
end HT
namespace L2
open PySem PySem.Spec PyProof.Rows
abbrev TO:=St->Hp->(Option Int->Hp->Prop)->Prop
def PO (X:Cx)(e:Option Expr)(t:TO):Prop:=
 ∀(pins:List (Addr×Obj)) (s:Shared) (σ:St) (H:Hp) (Q:Option Int->Hp->Prop),Inv X pins σ H s->t σ H Q →
  wpAny (model X.prog X.w) X.A (evalPart e X.env) (fun u s'=>∃o H',Inv X pins σ H' s'/\IsPart u o/\Q o H') X.xe s
def tNoPart:TO:=fun _ H Q=>Q none H
def tPart (t:TE):TO:=fun σ H Q=>t σ H fun x H1=>∃i,x = .int i/\Q (some i) H1
theorem e6 {ns:List Int}:∀{us:List Value},Vals (ns.map V.int) us->IntsAre us ns:=by
 induction ns with
 | nil=>intro us r;rw[List.map_nil]at r;cases r;exact .nil
 | cons n ns ih =>
  intro us r;rw[List.map_cons]at r;cases r with
  | cons r1 r2 =>
   obtain⟨t,e⟩:=r1;subst e;exact .cons n t (ih r2)
section
variable {X:Cx}{e:Expr}{te:TE}{lo hi:Option Expr}{tl th:TO}{pos p2:Pos}
theorem dH:PO X none tNoPart:=by
 intro pins s σ H Q I h;rw[evalPart_none];exact wpAny_pure ⟨none,H,I,.none,h⟩
theorem cB (h:PE X e te):PO X (some e) (tPart te):=by
 intro pins s σ H Q I hw;rw[evalPart_some];refine thn (h pins s σ H _ I hw) fun u s1 ⟨x,H1,I1,r1,q1⟩=>?_;obtain⟨i,rfl,q⟩:=q1;obtain⟨t,rfl⟩:=r1;exact⟨some i,H1,I1,.int i t,q⟩
def SlR (X:Cx)(r:V->Option Int->Option Int->Hp->VK->Prop):Prop:=
 ∀(pins:List (Addr×Obj)) (s:Shared) (σ:St) (H:Hp) (x:V) (v vl vu:Value) (lo hi:Option Int) (sl:Addr) (Q:VK),Inv X pins σ H s->RelV x v->s.heap.IsSliceOf sl vl vu .none->IsPart vl lo->IsPart vu hi->r x lo hi H Q →
  ∃T id,typeLookup (.type T) "__getitem__" = pure (some (.builtin id))/\s.TypeIs v T/\wpAny (model X.prog X.w) X.A (getItem v (.ref sl)) (EP X pins σ Q) X.xe s
def tSl (r:V->Option Int->Option Int->Hp->VK->Prop)(te:TE)(tl th:TO):TE:=fun σ H Q=>te σ H fun x H1=>tl σ H1 fun l H2=>th σ H2 fun u H3=>r x l u H3 Q
theorem cj {r:V->Option Int->Option Int->Hp->VK->Prop}(hr:SlR X r)(he:PE X e te)(hl:PO X lo tl)(hu:PO X hi th):PE X (.Subscript e (.Slice lo hi none p2) pos) (tSl r te tl th):=by
 intro pins s σ H Q I h;refine Subscript_ (thn (he pins s σ H _ I h) fun v s1 ⟨x,H1,I1,r1,q1⟩=>?_);refine wpAny_Slice (thn (hl pins s1 σ H1 _ I1 q1) fun vl s2 ⟨l,H2,I2,pl,q2⟩=>thn (hu pins s2 σ H2 _ I2 q2) fun vu s3 ⟨u,H3,I3,pu,q3⟩=>?_);rw[evalPart_none];refine wpAny_pure ?_;have I4:Inv X pins σ H3 { s3 with heap:=s3.heap.push { cls:=.type "slice",data:=.fields #[vl,vu,.none] } }:=I3.kept (t':=s3.toks) fun b ob q=>Heap.get?_push_of_some _ q
 obtain⟨T,id,hT,ht,hg⟩:=hr pins { s3 with heap:=s3.heap.push { cls:=.type "slice",data:=.fields #[vl,vu,.none] } } σ H3 x v vl vu l u s3.heap.objs.size Q I4 r1 (Heap.IsSliceOf.new ..) pl pu q3
 show wpAny (model X.prog X.w) X.A (subscriptTail e (.Slice lo hi none p2) v (.ref s3.heap.objs.size)) (EP X pins σ Q) X.xe { s3 with heap:=s3.heap.push { cls:=.type "slice",data:=.fields #[vl,vu,.none] } }
 exact tail_any (ops:=[.ref s3.heap.objs.size,v]) ht hT hg (by with_unfolding_all rfl)
def cutV (xs:List V)(lo hi:Option Int):List V:=(xs.drop (HT.sIx xs.length 0 lo)).take (HT.sIx xs.length xs.length hi - HT.sIx xs.length 0 lo)
theorem fH (xs:List V)(lo hi:Option Int):(cutV xs lo hi).length≤xs.length:=by
 unfold cutV;rw[List.length_take,List.length_drop];omega
end
end L2
namespace L2
open PySem PySem.Spec PyProof.Rows
def ixN (n:Nat)(i:Int):Option Nat:=if 0≤i then (if i < n then some i.toNat else none)else if -(n:Int)≤i then some (i+n).toNat else none
def atI {α:Type}(xs:List α)(i:Int):Option α:=(ixN xs.length i).bind fun j=>xs[j]?
theorem ke {n:Nat}{i:Int}{j:Nat}(h:ixN n i=some j):seqIndex? i n=some j/\j < n/\-(n:Int)≤i/\i < n:=by
 unfold ixN at h;by_cases h0:0≤i
 . rw[if_pos h0]at h;by_cases h1:i < n
   . rw[if_pos h1]at h;have e:i.toNat=j:=Option.some.inj h;exact⟨by rw[seqIndex_of h0 h1,e],by omega,by omega,h1⟩
   . rw[if_neg h1]at h;cases h
 . rw[if_neg h0]at h;by_cases h1:-(n:Int)≤i
   . rw[if_pos h1]at h;have e:(i+n).toNat=j:=Option.some.inj h;exact⟨by rw[seqIndex_neg (by omega) h1,e],by omega,h1,by omega⟩
   . rw[if_neg h1]at h;cases h
theorem atI_get {α:Type}{xs:List α}{i:Int}{v:α}(h:atI xs i=some v):∃j,seqIndex? i xs.length=some j/\xs[j]? = some v/\j < xs.length/\-(xs.length:Int)≤i/\i < xs.length:=by
 unfold atI at h;cases e:ixN xs.length i with
 | none=>rw[e]at h;cases h
 | some j =>
  rw[e]at h;obtain⟨h1,h2,h3,h4⟩:=ke e;exact⟨j,h1,h,h2,h3,h4⟩
theorem dO {α:Type}{xs:List α}{j:Nat}{v:α}(h:xs[j]? = some v):atI xs (j:Int)=some v:=by
 have hj:j < xs.length:=(List.getElem?_eq_some_iff.mp h).1;have e:ixN xs.length (j:Int)=some j:=by
  unfold ixN;rw[if_pos (by omega),if_pos (by omega)];simp
 unfold atI;rw[e];exact h
def PlainIx (b:Expr):Prop:=∀o i,subscripted b false o i=operate [o,i] (getItem o i)
def IxR (X:Cx)(r:R2):Prop:=
 ∀(value slice:Expr) (pins:List (Addr×Obj)) (s:Shared) (σ:St) (H:Hp) (x y:V) (v u:Value) (Q:VK),Inv X pins σ H s->RelV x v->RelV y u->r x y H Q →
  subscripted slice false v u=operate [v,u] (getItem v u)->wpAny (model X.prog X.w) X.A (subscriptTail value slice v u) (EP X pins σ Q) X.xe s
def MtR (X:Cx)(id:String)(r:V->List V->Hp->VK->Prop):Prop:=
 ∀(pins:List (Addr×Obj)) (s:Shared) (σ:St) (H:Hp) (x:V) (xs:List V) (v:Value) (us:List Value) (Q:VK),Inv X pins σ H s->RelV x v->Vals xs us->r x xs H Q →
  wpAny (model X.prog X.w) X.A (call (.builtin id) (v::us)) (EP X pins σ Q) X.xe s
section
variable {X:Cx}{a b:Expr}{ta tb:TE}{pos:Pos}
theorem av {r:R2}(hr:IxR X r)(ha:PE X a ta)(hb:PE X b tb)(hs:PlainIx b):PE X (.Subscript a b pos) (tOp r ta tb):=by
 intro pins s σ H Q I h;exact Subscript_ (binT ha hb I h fun v u s2 x y H2 I2 rx ry q=>hr a b pins s2 σ H2 x y v u Q I2 rx ry q (hs _ _))
def rIxL (K:PySem.W.Frag):R2:=fun x y H Q=>∃p xs i v,x = .ref p/\y = .int i/\SqL K H p xs/\atI xs i=some v/\Q v H
theorem bd:IxR X (rIxL X.K):=by
 intro value slice pins s σ H x y v u Q I rx ry h hs;obtain⟨p,xs,i,z,rfl,rfl,hq,he,q⟩:=h;cases rx;obtain⟨t,rfl⟩:=ry;obtain⟨its,r,pl,hz⟩:=I.list hq;obtain⟨j,h1,h2,h3,h4,h5⟩:=atI_get he;obtain⟨w,ew,rw'⟩:=r.get h2;have hl:=r.length;have hn:=iE;have fin:EP X pins σ Q w s:=⟨z,H,I,rw',q⟩;by_cases h0:0≤i
 . have hj:i.toNat=j:=by
    rw[seqIndex_of h0 h5]at h1;exact Option.some.inj h1
   exact item_listR pl.isList h0 (by omega) (by rw[hj];simpa using ew) fin hs
 . have hj:(i+(its.toArray.size:Int)).toNat=j:=by
    rw[seqIndex_neg (by omega) h4]at h1
    rw[List.size_toArray,←hl];exact Option.some.inj h1
   exact subscriptTail_builtinR (x:=w) pl.isList.typeIs slot_list_getitem.lookup
    (wpAny_getItem_list_neg (Q:=fun r s'=>r=w/\EP X pins σ Q r s') pl.isList (by omega) (by rw[List.size_toArray]<;>omega) (by omega) (by rw[hj];simpa using ew) ⟨rfl,fin⟩) hs
theorem mapSeq_set (its:List Value)(n j:Nat)(u:Value):Obj.mapSeq (·.setIfInBounds j u) { cls:=.type "list",data:=.seq its.toArray n }={ cls:=.type "list",data:=.seq (its.set j u).toArray n }:=by
 simp[Obj.mapSeq]
theorem Inv.lst {pins:List (Addr×Obj)}{σ:St}{H:Hp}{s:Shared}{p:Addr}{xs:List V}(I:Inv X pins σ H s)(h:H p=some (.lst xs)):∃(its:List Value) (n:Nat),Vals xs its/\s.heap.get? p=some { cls:=.type "list",data:=.seq its.toArray n }/\xs.length≤sizeLine:=by
 obtain⟨z,its,n,r,e⟩:=I.hok p _ h;exact⟨its,n,r,e,z⟩
theorem Inv.lstUpd {pins:List (Addr×Obj)}{σ:St}{H:Hp}{s:Shared}{p:Addr}{xs ys:List V}{its its':List Value}{n n':Nat}{f:Obj->Obj}(I:Inv X pins σ H s)(h:H p=some (.lst xs))(ho:s.heap.get? p=some { cls:=.type "list",data:=.seq its.toArray n })(hf:f { cls:=.type "list",data:=.seq its.toArray n }={ cls:=.type "list",data:=.seq its'.toArray n' })(r:Vals ys its')(hz:ys.length≤sizeLine)(t:Nat) :
 Inv X pins σ (upd H p (.lst ys)) { s with heap:=s.heap.update p f,toks:=t }:=by
 have e:(s.heap.update p f).get? p=some { cls:=.type "list",data:=.seq its'.toArray n' }:=by
  rw[Heap.get?_update_self f ho (by rw[hf]<;>rfl),hf]
 refine I.write (x:=p) (e:=p) (by rw[h];trivial) (.inl rfl) (fun b u hb q=>(Heap.get?_update_other _ _ (Ne.symm hb)).trans q) ⟨_,e⟩ ?_
 exact⟨hz,its',n',r,e⟩
def rSetL:V->V->V->Hp->(Hp->Prop)->Prop:=fun o i v H Q=>∃p xs k j,o = .ref p/\i = .int k/\H p=some (.lst xs)/\ixN xs.length k=some j/\Q (upd H p (.lst (xs.set j v)))
theorem eC:PSet X rSetL:=by
 intro pins s σ H o i v ov iv u Q I ro ri rv h;obtain⟨p,xs,k,j,rfl,rfl,hp,hj,q⟩:=h;cases ro;obtain⟨t,rfl⟩:=ri;obtain⟨its,n,r,ho,hz⟩:=I.lst hp;obtain⟨h1,h2,h3,h4⟩:=ke hj;have hl:=r.length;have hn:=iE;have I':Inv X pins σ (upd H p (.lst (xs.set j v))) { s with heap:=s.heap.update p (Obj.mapSeq (·.setIfInBounds j u)) }:=
  I.lstUpd hp ho (mapSeq_set its n j u) (r.set rv j) (by rw[List.length_set];exact hz) s.toks
 by_cases h0:0≤k
 . have hk:k.toNat=j:=by
    rw[seqIndex_of h0 h4]at h1;exact Option.some.inj h1
   exact PySem.W.ki_setAt ho h0 (by omega) (by rw[List.size_toArray,←hl];exact h4) (by rw[hk];exact⟨_,I',q⟩)
 . have hk:(k+(its.toArray.size:Int)).toNat=j:=by
    rw[seqIndex_neg (by omega) h3]at h1
    rw[List.size_toArray,←hl];exact Option.some.inj h1
   exact PySem.W.ki_setBack ho (by omega) (by rw[List.size_toArray,←hl];exact h3) (by omega) (by rw[hk];exact⟨_,I',q⟩)
theorem slice_bounds (lo hi:Option Int)(n:Nat):(sliceBounds lo hi none n).1=((HT.sIx n 0 lo:Nat):Int)/\(sliceBounds lo hi none n).2.1=((HT.sIx n n hi:Nat):Int)/\(sliceBounds lo hi none n).2.2=1:=by
 refine⟨?_,?_,rfl⟩
 . cases lo with
   | none=>simp[sliceBounds,HT.sIx]
   | some i =>
    simp only[sliceBounds,HT.sIx,Option.getD_none,show(1:Int) > 0 by decide,if_true]
    by_cases h:i < 0
    . simp only[h,if_true]<;>omega
    . simp only[h,if_false]<;>omega
 . cases hi with
   | none=>simp[sliceBounds,HT.sIx]
   | some i =>
    simp only[sliceBounds,HT.sIx,Option.getD_none,show(1:Int) > 0 by decide,if_true]
    by_cases h:i < 0
    . simp only[h,if_true]<;>omega
    . simp only[h,if_false]<;>omega
theorem slicePick_cut (its:List Value)(lo hi:Option Int):slicePick its.toArray lo hi none=((its.drop (HT.sIx its.length 0 lo)).take (HT.sIx its.length its.length hi - HT.sIx its.length 0 lo)).toArray:=by
 obtain⟨h1,h2,h3⟩:=slice_bounds lo hi its.toArray.size;unfold slicePick;rw[h1,h2,h3];simp only[sliceRange_one,pick_run,List.size_toArray]<;>rfl
def rSlL (K:PySem.W.Frag):V->Option Int->Option Int->Hp->VK->Prop:=fun x lo hi H Q=>∃a xs,x = .ref a/\SqL K H a xs/\∀p,H p=none->Q (.ref p) (upd H p (.lst (cutV xs lo hi)))
theorem sl_list:SlR X (rSlL X.K):=by
 intro pins s σ H x v vl vu lo hi sl Q I rx hs pl pu h;obtain⟨a,xs,rfl,hx,q⟩:=h;cases rx;obtain⟨its,r,ht,hz⟩:=I.list hx;have hlen:=r.length;refine⟨"list",_,slot_list_getitem.lookup,ht.isList.typeIs,?_⟩;refine wpAny_getItem_list_slice ht.isList hs pl pu .none (by simp) ?_ (by rw[List.size_toArray]<;>omega)
 rw[slicePick_cut,←hlen];refine⟨.ref s.heap.objs.size,_,I.laid (t':=s.toks) (o:=.lst (cutV xs lo hi)) (fun b ob q=>Heap.get?_push_of_some _ q) (Nat.le_refl _) ?_,rfl,q _ (I.hok.fresh (Nat.le_refl _))⟩;exact⟨Nat.le_trans (fH xs lo hi) hz,_,0,(r.drop (HT.sIx xs.length 0 lo)).take (HT.sIx xs.length xs.length hi - HT.sIx xs.length 0 lo),Heap.get?_push_size _ rfl⟩
def bR:V->Bool
 | .non=>true
 | .bl _=>true
 | .int _=>true
 | .str _=>true
 | _=>false
def eqV:V->V->Bool
 | .non,.non=>true
 | .bl a,.bl b=>a == b
 | .bl a,.int b=>(if a then 1 else 0) == b
 | .int a,.bl b=>a == (if b then 1 else 0)
 | .int a,.int b=>a == b
 | .str a,.str b=>a == b
 | _,_=>false
theorem fg {A:Around}{s:Shared}{y x:V}{u v:Value}(ry:RelV y u)(rx:RelV x v)(fy:bR y=true)(fx:bR x=true):SeqAt.EqAt A s u v (eqV y x):=by
 cases y with
 | non =>
  cases ry;cases x with
  | non=>cases rx;exact SeqAt.EqAt.same _
  | bl b=>cases rx;exact SeqAt.EqAt.none_bool b
  | int b=>obtain⟨t,rfl⟩:=rx;exact SeqAt.EqAt.none_int b t
  | str b=>obtain⟨t,rfl⟩:=rx;exact SeqAt.EqAt.none_str b t
  | _=>exact absurd (show false=true from fx) Bool.false_ne_true
 | bl a =>
  cases ry;cases x with
  | non=>cases rx;exact SeqAt.EqAt.bool_none a
  | bl b=>cases rx;exact SeqAt.EqAt.bool_bool a b
  | int b=>obtain⟨t,rfl⟩:=rx;exact SeqAt.EqAt.bool_int a b t
  | str b=>obtain⟨t,rfl⟩:=rx;exact SeqAt.EqAt.bool_str a b t
  | _=>exact absurd (show false=true from fx) Bool.false_ne_true
 | int a =>
  obtain⟨t',rfl⟩:=ry;cases x with
  | non=>cases rx;exact SeqAt.EqAt.int_none a t'
  | bl b=>cases rx;exact SeqAt.EqAt.int_bool a t' b
  | int b=>obtain⟨t,rfl⟩:=rx;exact SeqAt.EqAt.int_int a t' b t
  | str b=>obtain⟨t,rfl⟩:=rx;exact SeqAt.EqAt.int_str a t' b t
  | _=>exact absurd (show false=true from fx) Bool.false_ne_true
 | str a =>
  obtain⟨t',rfl⟩:=ry;cases x with
  | non=>cases rx;exact SeqAt.EqAt.str_none a t'
  | bl b=>cases rx;exact SeqAt.EqAt.str_bool a t' b
  | int b=>obtain⟨t,rfl⟩:=rx;exact SeqAt.EqAt.str_int a t' b t
  | str b=>obtain⟨t,rfl⟩:=rx;exact SeqAt.EqAt.str_str a t' b t
  | _=>exact absurd (show false=true from fx) Bool.false_ne_true
 | _=>exact absurd (show false=true from fy) Bool.false_ne_true
def eqU (x:V)(u:Value):Bool:=match u with
 | .none=>eqV .non x
 | .bool b=>eqV (.bl b) x
 | .int i _=>eqV (.int i) x
 | .str z _=>eqV (.str z) x
 | _=>false
theorem lv {x y:V}{u:Value}(r:RelV y u)(f:bR y=true):eqU x u=eqV y x:=by
 cases y with
 | non=>cases r;rfl
 | bl b=>cases r;rfl
 | int i=>obtain⟨t,rfl⟩:=r;rfl
 | str z=>obtain⟨t,rfl⟩:=r;rfl
 | _=>exact absurd (show false=true from f) Bool.false_ne_true
theorem eV {x:V}:∀{xs:List V} {us:List Value},Vals xs us->xs.all bR=true->us.any (eqU x)=xs.any fun y=>eqV y x
 | _,_,.nil,_=>rfl
 | y::xs,u::us,.cons r t,f=>by
  rw[List.all_cons,Bool.and_eq_true]at f;rw[List.any_cons,List.any_cons,lv r f.1,eV t f.2]
theorem dn {A:Around}{s:Shared}{x:V}{v:Value}(rx:RelV x v)(fx:bR x=true):∀{xs:List V} {us:List Value},Vals xs us->xs.all bR=true->∀u∈us,SeqAt.EqAt A s u v (eqU x u)
 | _,_,.nil,_=>fun u hu=>by cases hu
 | y::xs,u::us,.cons r t,f=>fun u' hu=>by
  rw[List.all_cons,Bool.and_eq_true]at f;rcases List.mem_cons.mp hu with rfl | hu
  . rw[lv r f.1];exact fg r rx f.1 fx
  . exact dn rx fx t f.2 u' hu
def inV (x:V)(xs:List V):Bool:=xs.any fun y=>eqV y x
def rIn (K:PySem.W.Frag)(neg:Bool):R2:=fun x y H Q=>∃p xs,y = .ref p/\(SqL K H p xs∨SqT K H p xs)/\bR x=true/\xs.all bR=true/\Q (.bl (if neg then !inV x xs else inV x xs)) H
theorem op_in_seq:OpR X (compareOp .In) (rIn X.K false):=by
 intro pins s σ H x y v u Q I rx ry h;obtain⟨p,xs,rfl,hq,fx,fs,q⟩:=h;cases ry;rcases hq with hq | hq
 . obtain⟨its,r,pl,hz⟩:=I.list hq;refine SeqAt.in_listAt (eqU x) pl.isList (fun w hw=>dn rx fx r fs w (by simpa using hw)) ⟨.bl _,H,I,rfl,?_⟩
   rw[show its.toArray.any (eqU x)=its.any (eqU x) by simp,eV r fs]
   exact q
 . obtain⟨its,r,pl,hz⟩:=I.tuple hq;refine SeqAt.in_tupleAt (eqU x) pl (fun w hw=>dn rx fx r fs w (by simpa using hw)) ⟨.bl _,H,I,rfl,?_⟩
   rw[show its.toArray.any (eqU x)=its.any (eqU x) by simp,eV r fs]
   exact q
theorem op_notIn_seq:OpR X (compareOp .NotIn) (rIn X.K true):=by
 intro pins s σ H x y v u Q I rx ry h;obtain⟨p,xs,rfl,hq,fx,fs,q⟩:=h;cases ry;rcases hq with hq | hq
 . obtain⟨its,r,pl,hz⟩:=I.list hq;refine SeqAt.notIn_listAt (eqU x) pl.isList (fun w hw=>dn rx fx r fs w (by simpa using hw)) ⟨.bl _,H,I,rfl,?_⟩
   rw[show its.toArray.any (eqU x)=its.any (eqU x) by simp,eV r fs]
   exact q
 . obtain⟨its,r,pl,hz⟩:=I.tuple hq;refine SeqAt.notIn_tupleAt (eqU x) pl (fun w hw=>dn rx fx r fs w (by simpa using hw)) ⟨.bl _,H,I,rfl,?_⟩
   rw[show its.toArray.any (eqU x)=its.any (eqU x) by simp,eV r fs]
   exact q
theorem bS:cr X (.builtin "len") (fun xs H Q=>∃p ys,xs=[.ref p]/\(SqL X.K H p ys∨SqT X.K H p ys)/\Q (.int ys.length) H):=by
 intro pins s σ H xs us Q I r h;obtain⟨p,ys,rfl,hq,q⟩:=h;obtain⟨u,rfl,rx⟩:=fi r;cases rx;have hn:=iE;rcases hq with hq | hq
 . obtain⟨its,r',pl,hz⟩:=I.list hq;have hlen:=r'.length;exact Calls.call_len_list pl.isList (by simp only[List.size_toArray]<;>omega) ⟨.int ys.length,H,I.tok _,⟨s.toks+1,by rw[List.size_toArray,hlen]⟩,q⟩
 . obtain⟨its,r',pl,hz⟩:=I.tuple hq;have hlen:=r'.length;exact len_tuple pl (by simp only[List.size_toArray]<;>omega) ⟨.int ys.length,H,I.tok _,⟨s.toks+1,by rw[List.size_toArray,hlen]⟩,q⟩
theorem call_list_of:cr X (.type "list") (fun xs H Q=>∃p ys,xs=[.ref p]/\(SqL X.K H p ys∨SqT X.K H p ys)/\∀l,H l=none->Q (.ref l) (upd H l (.lst ys))):=by
 intro pins s σ H xs us Q I r h;obtain⟨p,ys,rfl,hq,q⟩:=h;obtain⟨u,rfl,rx⟩:=fi r;cases rx;have fin:∀(its:List Value),Vals ys its->ys.length≤sizeLine->∀(h':Heap) (c':Nat),(∀b o',s.heap.get? b=some o'->h'.get? b=some o') →
  h'.get? s.heap.objs.size=some { cls:=.type "list",dict:=none,data:=.seq its.toArray c',slots:=#[] }->EP X pins σ Q (.ref s.heap.objs.size) { s with heap:=h' }:=fun its r' hz h' c' kp e =>
  ⟨.ref s.heap.objs.size,_,I.laid (t':=s.toks) kp (Nat.le_refl _) (show ObjOk X.prog X.w _ h' _ (.lst ys)from⟨hz,its,c',r',e⟩),rfl,q _ (I.hok.fresh (Nat.le_refl _))⟩
 rcases hq with hq | hq
 . obtain⟨its,r',pl,hz⟩:=I.list hq;have hlen:=r'.length;obtain⟨o,ho,hc,n,hd⟩:=pl.isList;exact call_list_seq p (.inl rfl) ho hc hd (fun h' c' kp e=>fin its r' hz h' c' kp e) (by simp only[List.size_toArray]<;>omega)
 . obtain⟨its,r',pl,hz⟩:=I.tuple hq;have hlen:=r'.length;obtain⟨o,ho,hc,n,hd⟩:=pl;exact call_list_seq p (.inr rfl) ho hc hd (fun h' c' kp e=>fin its r' hz h' c' kp e) (by simp only[List.size_toArray]<;>omega)
def tyV (K:PySem.W.Frag)(T:String)(x:V)(H:Hp):Prop:=match x with
 | .str _=>T = "str"
 | .int _=>T = "int"
 | .ref p=>(T = "list"/\∃xs,SqL K H p xs)∨(T = "tuple"/\∃o,K.lookup p=some o/\o.cls = .type "tuple"/\o.dict=none) ∨
  (T = "dict"/\((∃kvs,H p=some (.dK kvs))∨∃kvs,H p=some (.dT kvs)))∨(T = "set"/\∃S n,H p=some (.set S n))
 | _=>False
theorem tyV_is {pins:List (Addr×Obj)}{σ:St}{H:Hp}{s:Shared}{T:String}{x:V}{v:Value}(I:Inv X pins σ H s)(r:RelV x v)(ty:tyV X.K T x H):s.TypeIs v T/\∀a,v = .ref a->∃ob,s.heap.get? a=some ob/\ob.dict=none:=by
 cases x with
 | str z =>
  obtain⟨t,rfl⟩:=r;cases(show T = "str" from ty)
  exact⟨typeIs_str s z t,fun _ e=>nomatch e⟩
 | int i =>
  obtain⟨t,rfl⟩:=r;cases(show T = "int" from ty)
  exact⟨typeIs_int s i t,fun _ e=>nomatch e⟩
 | ref p =>
  cases r;rcases ty with⟨rfl,xs,hq⟩ | ⟨rfl,o,hk,hc,hd⟩ | ⟨rfl,hk⟩ | ⟨rfl,S,n,hk⟩
  . obtain⟨its,_,pl,_⟩:=I.list hq;refine⟨pl.isList.typeIs,fun a e=>?_⟩;cases e;obtain⟨o,n,e,c,hd,_⟩:=pl;exact⟨o,e,hd⟩
  . refine⟨⟨o,I.kIn p o hk,hc⟩,fun a e=>?_⟩;cases e;exact⟨o,I.kIn _ o hk,hd⟩
  . have z:∃o,s.heap.get? p=some o/\o.ExactDict:=by
     rcases hk with⟨kvs,hk⟩ | ⟨kvs,hk⟩
     . obtain⟨_,_,_,_,o,_,_,e,ex,_⟩:=I.hok p _ hk;exact⟨o,e,ex⟩
     . obtain⟨_,_,_,_,o,_,_,e,ex,_⟩:=I.hok p _ hk;exact⟨o,e,ex⟩
    obtain⟨o,e,ex⟩:=z;refine⟨⟨o,e,ex.1⟩,fun a e2=>?_⟩;cases e2;exact⟨o,e,ex.2.1⟩
  . obtain⟨o,_,_,_,e,ex,_⟩:=I.hok p _ hk;refine⟨⟨o,e,ex.1⟩,fun a e2=>?_⟩;cases e2;exact⟨o,e,ex.2.1⟩
 | _=>exact False.elim ty
def tBM (K:PySem.W.Frag)(T:String)(r:V->List V->Hp->VK->Prop)(to:TE)(t:TA):TE:=fun σ H Q=>to σ H fun x H1=>tyV K T x H1/\t σ H1 fun xs H2=>r x xs H2 Q
variable {o e:Expr}{es:List Expr}{to:TE}{t:TA}{name:Str}{apos cpos:Pos}{T id:String}{r:V->List V->Hp->VK->Prop}
theorem dQ (pa:PlainAttrs T)(slot:Slot T name id)(hty:typeOf (.builtin id)=pure (.type "method_descriptor"))(hm:MtR X id r)(ho:PE X o to)(ha:PA X (e::es) t)(hbase:attributeBase o name X.env (eval o X.env)=eval o X.env:=by rfl)
 (hfew:((backTo cpos (starEach (e::es) X.env)).all (fun x=>!x.1)&&(backToKw cpos (keywordEach [] X.env)).all (fun x=>x.1.isSome)
   && decide ((e::es).length+([]:List Keyword).length+(if ([]:List Keyword).isEmpty then 0 else 1) < 30))=true:=by rfl)
 (hline:(apos.endLine == cpos.line)=true:=by rfl) (hs:starEach (e::es) X.env=(false,eval e X.env)::starEach es X.env:=by rfl) (hplain:(backTo cpos (starEach es X.env)).any (·.1)=false:=by rfl) :
 PE X (.Call (.Attribute o name apos) (e::es) [] cpos) (tBM X.K T r to t):=by
 intro pins s σ H Q I h;refine wpAny_Call_method_late hbase hfew hline rfl (thn (ho pins s σ H _ I h) fun v s1 ⟨x,H1,I1,r1,ty,q1⟩=>?_);obtain⟨h1,h2⟩:=tyV_is I1 r1 ty;refine⟨T,id,pa,slot,hty,h1,h2,?_⟩;have hA:=ha cpos pins s1 σ H1 _ I1 q1;rw[hs]at hA⊢;refine Calls.callWith_builtin (by show(false||(backTo cpos (starEach es X.env)).any (·.1))=false;rw[hplain]<;>rfl) (Calls.evalArgs_plain ?_)
 exact thn hA fun us s2 ⟨vs,H2,I2,r2,q2⟩=>hm pins s2 σ H2 x vs v us Q I2 r1 r2 q2
end
end L2
namespace L2
open PySem PySem.Spec PyProof.Rows
def MtM (X:Cx)(id:String)(r:V->List V->Hp->VK->Prop):Prop:=
 ∀(pins:List (Addr×Obj)) (s:Shared) (σ:St) (H:Hp) (x:V) (xs:List V) (v:Value) (us:List Value) (Q:VK),Inv X pins σ H s->RelV x v->Vals xs us->r x xs H Q →
  wpAny (model X.prog X.w) X.A (call (.builtin id) (v::us)) (EP X pins σ Q) X.xe s
theorem Vals.one:∀{x:V} {us:List Value},Vals [x] us->∃u,us=[u]/\RelV x u
 | _,_,.cons r .nil=>⟨_,rfl,r⟩
theorem Vals.two:∀{x y:V} {us:List Value},Vals [x,y] us->∃u v,us=[u,v]/\RelV x u/\RelV y v
 | _,_,_,.cons r (.cons q .nil)=>⟨_,_,rfl,r,q⟩
section
variable {X:Cx}{pins:List (Addr×Obj)}{σ:St}{H:Hp}{s:Shared}{l b:Addr}{xs ys zs:List V}
theorem Inv.lset {its its':List Value}{n:Nat}{f:Array Value->Array Value}{t':Nat}(I:Inv X pins σ H s)(hH:H l=some (.lst xs))(e:s.heap.get? l=some { cls:=.type "list",data:=.seq its.toArray n })(hf:f its.toArray=its'.toArray)(hv:Vals ys its')(hz:ys.length≤sizeLine) :
 Inv X pins σ (upd H l (.lst ys)) { s with heap:=s.heap.update l (Obj.mapSeq f),toks:=t' }:=by
 have q:=PySem.IsL.update e f;rw[hf]at q;refine I.write (x:=l) (e:=l) (by rw[hH];exact trivial) (.inl rfl) (fun b' u hb hu=>(Heap.get?_update_other s.heap (Obj.mapSeq f) (Ne.symm hb)).trans hu) ⟨_,q⟩ ?_
 exact⟨hz,its',_,hv,q⟩
theorem Inv.lnew {its:List Value}{t':Nat}(I:Inv X pins σ H s)(hv:Vals ys its)(hz:ys.length≤sizeLine):Inv X pins σ (upd H s.heap.objs.size (.lst ys)) { s with heap:=s.heap.push { cls:=.type "list",data:=.seq its.toArray },toks:=t' }:=
 I.laid (fun _ _ q=>Heap.get?_push_of_some _ q) (Nat.le_refl _) ⟨hz,its,0,hv,Heap.get?_push_size _ rfl⟩
theorem Inv.fresh (I:Inv X pins σ H s):H s.heap.objs.size=none:=I.hok.fresh (Nat.le_refl _)
theorem Inv.lstM (I:Inv X pins σ H s)(hH:H l=some (.lst xs)):xs.length≤sizeLine/\∃(its:List Value) (n:Nat),Vals xs its/\xs.length=its.length/\s.heap.get? l=some { cls:=.type "list",data:=.seq its.toArray n }:=by
 obtain⟨z,its,n,r,e⟩:=I.hok l _ hH;exact⟨z,its,n,r,r.length,e⟩
theorem notLongL {n:Nat}(h:n≤sizeLine):Builtin.List.listTooLong n=false:=by
 unfold Builtin.List.listTooLong;exact decide_eq_false (by omega)
end
section
variable {X:Cx}
def jU:V->List V->Hp->VK->Prop:=fun x vs H Q=>∃l xs y,x = .ref l/\vs=[y]/\H l=some (.lst xs)/\xs.length < sizeLine/\Q .non (upd H l (.lst (xs++[y])))
theorem bN:MtM X "list.append" jU:=by
 intro pins s σ H x vs v us Q I rx rv h;obtain⟨l,xs,y,rfl,rfl,hH,hz,q⟩:=h;cases rx;obtain⟨u,rfl,ru⟩:=rv.one;obtain⟨z,its,n,r,hl,e⟩:=I.lstM hH;refine call_meets F.slot_list_append ⟨_,e,rfl⟩ F.entry_list_append (F.args_list_append_2 _ _) (PySem.list_append l its.toArray n u (by rw[List.size_toArray];omega)) ⟨e,?_⟩
 refine⟨.non,_,I.lset (its':=its++[u]) hH e (by simp) (r.append (.cons ru .nil)) ?_,rfl,q⟩
 rw[List.length_append,List.length_singleton];omega
def rExtend:V->List V->Hp->VK->Prop:=fun x vs H Q=>∃l b xs zs,x = .ref l/\vs=[.ref b]/\H l=some (.lst xs)/\H b=some (.lst zs)/\xs.length+zs.length≤sizeLine/\Q .non (upd H l (.lst (xs++zs)))
theorem mt_extend:MtM X "list.extend" rExtend:=by
 intro pins s σ H x vs v us Q I rx rv h;obtain⟨l,b,xs,zs,rfl,rfl,hH,hB,hz,q⟩:=h;cases rx;obtain⟨u,rfl,ru⟩:=rv.one;cases ru;obtain⟨z,its,n,r,hl,e⟩:=I.lstM hH;obtain⟨z2,its2,n2,r2,hl2,e2⟩:=I.lstM hB;have hsz:its.toArray.size+its2.toArray.size≤sizeLine:=by rw[List.size_toArray,List.size_toArray];omega
 have hlong:¬(!its.toArray.isEmpty&&Builtin.List.listTooLong (its.toArray.size+its2.toArray.size))=true:=by
  rw[notLongL hsz,Bool.and_false];exact Bool.false_ne_true
 refine call_meets F.slot_list_extend ⟨_,e,rfl⟩ F.entry_list_extend (F.args_list_extend_2 _ _)
  (AutoSeq1.list_extend_list_list_0 l its.toArray n b its2.toArray n2 hlong (by rw[List.size_toArray];omega) (by omega)) ⟨e,e2,?_⟩
 refine⟨.non,_,I.lset (its':=its++its2) hH e (by simp) (r.append r2) ?_,rfl,q⟩
 rw[List.length_append];omega
def rCat:R2:=fun x y H Q=>∃l b xs zs,x = .ref l/\y = .ref b/\H l=some (.lst xs)/\H b=some (.lst zs)/\xs.length+zs.length≤sizeLine/\∀p,H p=none->Q (.ref p) (upd H p (.lst (xs++zs)))
theorem iB:OpR X (binaryOp .Add) rCat:=by
 intro pins s σ H x y v u Q I rx ry h;obtain⟨l,b,xs,zs,rfl,rfl,hH,hB,hz,q⟩:=h;cases rx;cases ry;obtain⟨z,its,n,r,hl,e⟩:=I.lstM hH;obtain⟨z2,its2,n2,r2,hl2,e2⟩:=I.lstM hB;refine PySem.P.add_list e e2 ?_ (by rw[List.size_toArray,List.size_toArray];omega)
 have ea:its.toArray++its2.toArray=(its++its2).toArray:=by simp
 rw[ea];exact⟨.ref _,_,I.lnew (t':=s.toks) (r.append r2) (by rw[List.length_append];omega),rfl,q _ I.fresh⟩
end
section
variable {prog:Program}{w:World}{A:Around}{E:Value->Shared->Prop}{s:Shared}
end
section
variable {X:Cx}
end
end L2
namespace L2
open PySem PySem.Spec PyProof.Rows
section
variable {κ:Type}[DecidableEq κ]
def valV (kvs:List (κ×V))(k:κ):Option V:=(kvs.find? fun kv=>decide (kv.1=k)).map (·.2)
def putK (kvs:List (κ×V))(k:κ)(v:V):List (κ×V):=
 if (kvs.any fun kv=>decide (kv.1=k))=true then kvs.map (fun kv=>if kv.1=k then (kv.1,v)else kv)else kvs++[(k,v)]
theorem de {p:κ×V}{r:List (κ×V)}{k:κ}(e:p.1=k):valV (p::r) k=some p.2:=by simp[valV,List.find?_cons,e]
theorem df {p:κ×V}{r:List (κ×V)}{k:κ}(e:¬p.1=k):valV (p::r) k=valV r k:=by simp[valV,List.find?_cons,e]
theorem g4 (k:κ):∀kvs:List (κ×V),(kvs.any fun kv=>decide (kv.1=k))=(valV kvs k).isSome
 | []=>rfl
 | p::r=>by
  rw[List.any_cons];by_cases e:p.1=k
  . simp only[de e,decide_eq_true e,Bool.true_or,Option.isSome_some]
  . rw[df e,decide_eq_false e,Bool.false_or];exact g4 k r
theorem dt (kvs:List (κ×V))(k:κ)(v:V):(putK kvs k v).length≤kvs.length+1:=by
 unfold putK
 split
 . rw[List.length_map];omega
 . rw[List.length_append,List.length_cons,List.length_nil];omega
theorem RelO.isSome_eq {o:Option V}{u:Option Value}(r:RelO o u):o.isSome=u.isSome:=by
 cases o with
 | none=>cases u with
  | none=>rfl
  | some _=>exact(show False from r).elim
 | some _=>cases u with
  | none=>exact(show False from r).elim
  | some _=>rfl
theorem KV.val {kvs:List (κ×V)}{vs:List (κ×Value)}(r:KV kvs vs)(k:κ):RelO (valV kvs k) (valueAt vs k):=by
 unfold KV at r
 induction r with
 | nil=>exact True.intro
 | @cons p q ps qs h t ih =>
  obtain⟨h1,h2⟩:=h;by_cases e:p.1=k
  . have e':q.1=k:=h1.symm.trans e;have b:valueAt (q::qs) k=some q.2:=by simp[valueAt,List.find?_cons,e']
    rw[de e,b];exact h2
  . have e':¬q.1=k:=fun z=>e (h1.trans z);have b:valueAt (q::qs) k=valueAt qs k:=by simp[valueAt,List.find?_cons,e']
    rw[df e,b];exact ih
theorem KV.any {kvs:List (κ×V)}{vs:List (κ×Value)}(r:KV kvs vs)(k:κ):(kvs.any fun kv=>decide (kv.1=k))=vs.any fun kv=>decide (kv.1=k):=by
 unfold KV at r
 induction r with
 | nil=>rfl
 | cons h t ih=>rw[List.any_cons,List.any_cons,ih,h.1]
theorem KV.repl {kvs:List (κ×V)}{vs:List (κ×Value)}(r:KV kvs vs)(k:κ){y:V}{u:Value}(ry:RelV y u):KV (kvs.map fun kv=>if kv.1=k then (kv.1,y)else kv) (vs.map fun kv=>if kv.1=k then (kv.1,u)else kv):=by
 unfold KV at r⊢
 induction r with
 | nil=>exact .nil
 | @cons p q ps qs h t ih =>
  rw[List.map_cons,List.map_cons];refine .cons ?_ ih;obtain⟨h1,h2⟩:=h;by_cases e:p.1=k
  . rw[if_pos e,if_pos (h1.symm.trans e)];exact⟨h1,ry⟩
  . rw[if_neg e,if_neg (fun z=>e (h1.trans z))];exact⟨h1,h2⟩
theorem KV.put {kvs:List (κ×V)}{vs:List (κ×Value)}(r:KV kvs vs)(k:κ){y:V}{u:Value}(ry:RelV y u):KV (putK kvs k y) (stored vs k u):=by
 unfold putK stored;rw[r.any k];by_cases e:(vs.any fun kv=>decide (kv.1=k))=true
 . rw[if_pos e,if_pos e];exact r.repl k ry
 . rw[if_neg e,if_neg e];exact Paired.snoc r ⟨rfl,ry⟩
theorem KV.length {kvs:List (κ×V)}{vs:List (κ×Value)}(r:KV kvs vs):kvs.length=vs.length:=Paired.length r
end
theorem hE {P:Program}{w:World}{k:Key}{u:Value}(r:RelV (kV k) u):(aR P w).is k u=true:=by
 cases k with
 | inl i=>obtain⟨t,e⟩:=(show ∃t,u=Value.int i t from r);subst e;exact mixKind_int P w i t
 | inr x=>obtain⟨t,e⟩:=(show ∃t,u=Value.str x t from r);subst e;exact mixKind_str P w x t
theorem hG {P:Program}{w:World}:∀{ks:List Key} {us:List Value},Vals (ks.map kV) us->ItemsAre (aR P w) ks us
 | [],_,r=>by rw[List.map_nil]at r;cases r;exact .nil
 | k::ks,_,r=>by
  rw[List.map_cons]at r;cases r with
  | cons h t=>exact .cons (hE h) (hG t)
abbrev KT (H:Hp):List (List Key×V)->List (List Key×Addr×Value)->Prop:=Paired fun p q=>p.1=q.1/\H q.2.1=some (.tup (p.1.map kV))/\RelV p.2 q.2.2
theorem KT.val {H:Hp}{kvs:List (List Key×V)}{xs:List (List Key×Addr×Value)}(r:KT H kvs xs)(k:List Key):RelO (valV kvs k) ((atKey xs k).map (·.2)):=by
 induction r with
 | nil=>exact True.intro
 | @cons p q ps qs h t ih =>
  obtain⟨h1,_,h2⟩:=h;by_cases e:p.1=k
  . have e':q.1=k:=h1.symm.trans e;have b:atKey (q::qs) k=some q.2:=by simp[atKey,List.find?_cons,e']
    rw[de e,b];exact h2
  . have e':¬q.1=k:=fun z=>e (h1.trans z);have b:atKey (q::qs) k=atKey qs k:=by simp[atKey,List.find?_cons,e']
    rw[df e,b];exact ih
theorem KT.repl {H:Hp}{kvs:List (List Key×V)}{xs:List (List Key×Addr×Value)}(r:KT H kvs xs)(k:List Key){y:V}{u:Value}(ry:RelV y u):KT H (kvs.map fun kv=>if kv.1=k then (kv.1,y)else kv) (xs.map (putAt k u)):=by
 induction r with
 | nil=>exact .nil
 | @cons p q ps qs h t ih =>
  rw[List.map_cons,List.map_cons];refine .cons ?_ ih;obtain⟨h1,h2,h3⟩:=h;unfold putAt;by_cases e:p.1=k
  . rw[if_pos e,if_pos (h1.symm.trans e)];exact⟨h1,h2,ry⟩
  . rw[if_neg e,if_neg (fun z=>e (h1.trans z))];exact⟨h1,h2,h3⟩
theorem KT.put {H:Hp}{kvs:List (List Key×V)}{xs:List (List Key×Addr×Value)}(r:KT H kvs xs)(k:List Key){b:Addr}{y:V}{u:Value}(hb:H b=some (.tup (k.map kV)))(ry:RelV y u):KT H (putK kvs k y) (storedH xs k b u):=by
 have e:(kvs.any fun kv=>decide (kv.1=k))=(atKey xs k).isSome:=by
  rw[g4,(r.val k).isSome_eq,Option.isSome_map]
 unfold putK storedH;rw[e];by_cases q:(atKey xs k).isSome=true
 . rw[if_pos q,if_pos q];exact r.repl k ry
 . rw[if_neg q,if_neg q];exact Paired.snoc r ⟨rfl,hb,ry⟩
theorem KT.keeps {H H':Hp}{kvs:List (List Key×V)}{xs:List (List Key×Addr×Value)}(r:KT H kvs xs)(ht:∀b ys,H b=some (.tup ys)->H' b=some (.tup ys)):KT H' kvs xs:=
 Paired.mapP r fun _ _ z=>⟨z.1,ht _ _ z.2.1,z.2.2⟩
section
variable {P:Program}{w:World}{H:Hp}{h:Heap}{a:Addr}
theorem lJ {u:HO}(ok:HOk P w H h)(e:Rd H a u):ObjOk P w H h a u:=e.ok ok
theorem hX {kvs:List (Key×V)}(ok:HOk P w H h)(e:Rd H a (.dK kvs)):kvs.length≤sizeLine/\(a == sysModules)=false/\∃vs,KV kvs vs/\h.DictOf (aR P w) a vs:=
 show ObjOk P w H h a (.dK kvs)from lJ ok e
theorem lZ {kvs:List (Key×V)}(ok:HOk P w H h)(e:H a=some (.dK kvs)):kvs.length≤sizeLine/\(a == sysModules)=false/\∃vs,KV kvs vs/\h.DictOf (aR P w) a vs:=hX ok (.inl e)
theorem gD {ks:List Key}(ok:HOk P w H h)(e:H a=some (.tup (ks.map kV))):(tupleKind (aR P w)).is h ks a:=by
 obtain⟨_,its,r,o,h1,h2,n,h3⟩:=(show ObjOk P w H h a (.tup (ks.map kV))from ok a _ e)
 exact⟨o,its.toArray,n,h1,h2,h3,by simpa using hG r⟩
theorem jm {kvs:List (List Key×V)}(ok:HOk P w H h)(e:Rd H a (.dT kvs)):kvs.length≤sizeLine/\(a == sysModules)=false/\∃xs,KT H kvs xs/\h.DictOfH (tupleKind (aR P w)) a xs:=by
 obtain⟨z,y,xs,r,o,es,ep,h1,h2,h3,h4,h5⟩:=(show ObjOk P w H h a (.dT kvs)from lJ ok e)
 refine⟨z,y,xs,r,o,es,ep,h1,h2,h3,h4,fun x hx=>?_,h5⟩;have all:∀{l:List (List Key×V)} {m:List (List Key×Addr×Value)},KT H l m->∀x∈m,(tupleKind (aR P w)).is h x.1 x.2.1:=by
  intro l m q
  induction q with
  | nil=>intro x hx;exact nomatch hx
  | @cons p q ps qs hq t ih =>
   intro x hx;rcases List.mem_cons.mp hx with e | hx
   . subst e;exact gD ok (by rw[←hq.1];exact hq.2.1)
   . exact ih x hx
 exact all r x hx
theorem dt_of {kvs:List (List Key×V)}(ok:HOk P w H h)(e:H a=some (.dT kvs)):kvs.length≤sizeLine/\(a == sysModules)=false/\∃xs,KT H kvs xs/\h.DictOfH (tupleKind (aR P w)) a xs:=jm ok (.inl e)
end
def DGet (H:Hp)(a:Addr)(y:V)(r:Option V):Prop:=
 (∃kvs k,Rd H a (.dK kvs)/\y=kV k/\r=valV kvs k)∨∃kvs k b,Rd H a (.dT kvs)/\y = .ref b/\H b=some (.tup (k.map kV))/\r=valV kvs k
def DPut (H:Hp)(a:Addr)(y v:V)(H':Hp):Prop:=
 (∃kvs k,H a=some (.dK kvs)/\y=kV k/\kvs.length < sizeLine/\H'=upd H a (.dK (putK kvs k v))) ∨
 ∃kvs k b,H a=some (.dT kvs)/\y = .ref b/\H b=some (.tup (k.map kV))/\kvs.length < sizeLine/\H'=upd H a (.dT (putK kvs k v))
theorem DGet.k {H:Hp}{a:Addr}{kvs:List (Key×V)}{k:Key}(e:H a=some (.dK kvs)):DGet H a (kV k) (valV kvs k):=.inl ⟨kvs,k,.inl e,rfl,rfl⟩
theorem DPut.k {H:Hp}{a:Addr}{kvs:List (Key×V)}{k:Key}{v:V}(e:H a=some (.dK kvs))(hl:kvs.length < sizeLine):DPut H a (kV k) v (upd H a (.dK (putK kvs k v))):=.inl ⟨kvs,k,e,rfl,hl,rfl⟩
section
variable {X:Cx}{pins:List (Addr×Obj)}{σ:St}{H:Hp}{s:Shared}{a:Addr}{y v:V}{u r:Value}{o:Option V}{A:Around}{E:Value->Shared->Prop}
theorem Inv.big (I:Inv X pins σ H s):sysModules < s.heap.objs.size:=by
 have h:mainGlobals < s.heap.objs.size:=(I.mod.glob.keeps I.bk).lt;exact Nat.lt_trans (by decide) h
theorem d_getItem {Q:Value->Shared->Prop}(hu:A.units+1 < cLine)(I:Inv X pins σ H s)(g:DGet H a y (some v))(ry:RelV y u)(h:∀w' s',Inv X pins σ H s'->RelV v w'->Q w' s'):wpAny (model X.prog X.w) A (getItem (.ref a) u) Q E s:=by
 rcases g with⟨kvs,k,e,ey,l⟩ | ⟨kvs,k,b,e,ey,eb,l⟩
 . subst ey;obtain⟨z,hd,vs,rel,dd⟩:=hX I.hok e;obtain⟨w',hw,rw'⟩:=RelO.some_of (v:=v) (o:=valueAt vs k) (by rw[l];exact rel.val k)
   exact wpAny_getItem_of (hE ry) dd.mapOf hw (h w' _ (I.tok _) rw')
 . subst ey;cases(show u=Value.ref b from ry)
   obtain⟨z,hd,xs,rel,dd⟩:=jm I.hok e;obtain⟨w',hw,rw'⟩:=RelO.some_of (v:=v) (o:=(atKey xs k).map (·.2)) (by rw[l];exact rel.val k)
   obtain⟨p,hp,hp2⟩:=Option.map_eq_some_iff.mp hw;refine wpAny_getItem_heap (tupleKind_room_in1 hu) (gD I.hok eb) dd hp ?_;rw[hp2];exact h w' _ (I.tok _) rw'
theorem d_in {Q:Value->Shared->Prop}(hu:A.units+1 < cLine)(I:Inv X pins σ H s)(g:DGet H a y o)(ry:RelV y u)(h:∀s',Inv X pins σ H s'->Q (.bool o.isSome) s'):wpAny (model X.prog X.w) A (compareOp .In u (.ref a)) Q E s:=by
 rcases g with⟨kvs,k,e,ey,l⟩ | ⟨kvs,k,b,e,ey,eb,l⟩
 . subst ey;obtain⟨z,hd,vs,rel,dd⟩:=hX I.hok e;refine wpAny_in_of (hE ry) hd dd.mapOf ?_;rw[←(rel.val k).isSome_eq,←l];exact h _ (I.tok _)
 . subst ey;cases(show u=Value.ref b from ry)
   obtain⟨z,hd,xs,rel,dd⟩:=jm I.hok e;refine wpAny_in_heap (tupleKind_room_in1 hu) (gD I.hok eb) hd dd ?_;have q:=(rel.val k).isSome_eq;rw[Option.isSome_map]at q;rw[←q,←l];exact h _ (I.tok _)
theorem d_notIn {Q:Value->Shared->Prop}(hu:A.units+1 < cLine)(I:Inv X pins σ H s)(g:DGet H a y o)(ry:RelV y u)(h:∀s',Inv X pins σ H s'->Q (.bool (!o.isSome)) s'):wpAny (model X.prog X.w) A (compareOp .NotIn u (.ref a)) Q E s:=by
 rcases g with⟨kvs,k,e,ey,l⟩ | ⟨kvs,k,b,e,ey,eb,l⟩
 . subst ey;obtain⟨z,hd,vs,rel,dd⟩:=hX I.hok e;refine wpAny_notIn_of (hE ry) hd dd.mapOf ?_;rw[←(rel.val k).isSome_eq,←l];exact h _ (I.tok _)
 . subst ey;cases(show u=Value.ref b from ry)
   obtain⟨z,hd,xs,rel,dd⟩:=jm I.hok e;refine wpAny_notIn_heap (tupleKind_room_in1 hu) (gD I.hok eb) hd dd ?_;have q:=(rel.val k).isSome_eq;rw[Option.isSome_map]at q;rw[←q,←l];exact h _ (I.tok _)
theorem iJ {h':Heap}{t':Nat}{ob:HO}(I:Inv X pins σ H s)(mu:Mut (H a))(hs:Heap.SameBut a s.heap h')(he:∃q,h'.get? a=some q)(new:ObjOk X.prog X.w (upd H a ob) h' a ob):Inv X pins σ (upd H a ob) { s with heap:=h',toks:=t' }:=
 I.write (x:=a) (e:=a) mu (.inl rfl) (fun b q hb z=>(hs.2 b hb).trans z) he new
theorem lw {P:Program}{w:World}{H':Hp}{h':Heap}{kvs:List (Key×V)}{vs:List (Key×Value)}(z:kvs.length≤sizeLine)(hd:(a == sysModules)=false)(rel:KV kvs vs)(dd:h'.DictOf (aR P w) a vs):ObjOk P w H' h' a (.dK kvs):=⟨z,hd,vs,rel,dd⟩
theorem d_setItem {H':Hp}{Q:Unit->Shared->Prop}(hu:A.units+1 < cLine)(I:Inv X pins σ H s)(g:DPut H a y v H')(ry:RelV y u)(rv:RelV v r)(h:∀s',Inv X pins σ H' s'->Q () s'):wpAny (model X.prog X.w) A (setItem (.ref a) u r) Q E s:=by
 rcases g with⟨kvs,k,e,ey,l,eH⟩ | ⟨kvs,k,b,e,ey,eb,l,eH⟩
 . subst ey eH;obtain⟨z,hd,vs,rel,dd⟩:=lZ I.hok e;have hz:vs.length≤sizeLine:=by rw[←rel.length];exact z
   have hl:(putK kvs k v).length≤sizeLine:=by have:=dt kvs k v;omega
   refine wpAny_setItem_pairs (hsz:=hz) (hE ry) dd fun h' dd' hs=>h _ ?_;have he:∃q,h'.get? a=some q:=let ⟨q,_,_,hq,_⟩:=dd';⟨q,hq⟩
   exact iJ I (by rw[e];exact True.intro) hs he (lw hl hd (rel.put k rv) dd')
 . subst ey eH;cases(show u=Value.ref b from ry)
   obtain⟨z,hd,xs,rel,dd⟩:=dt_of I.hok e;have hz:xs.length≤sizeLine:=by rw[←Paired.length rel];exact z
   have hl:(putK kvs k v).length≤sizeLine:=by have:=dt kvs k v;omega
   refine wpAny_setItem_heap (hsz:=hz) (tupleKind_room_in1 hu) (gD I.hok eb) dd fun h' dd' hs=>h _ ?_;obtain⟨q,es,ep,hq,h2,h3,h4,_,h5⟩:=dd';refine iJ I (by rw[e];exact True.intro) hs ⟨q,hq⟩ ⟨hl,hd,_,(rel.put k eb rv).keeps fun c ys ec=>?_,q,es,ep,hq,h2,h3,h4,h5⟩
   rw[ac (l7 ec e (fun z=>nomatch z))];exact ec
end
section
variable {X:Cx}{pins:List (Addr×Obj)}{σ:St}{H:Hp}{s:Shared}{a:Addr}{kvs:List (Key×V)}{k:Key}{u:Value}{A:Around}{E:Value->Shared->Prop}
theorem d_len {Q:Value->Shared->Prop}(I:Inv X pins σ H s)(e:Rd H a (.dK kvs))(h:∀t s',Inv X pins σ H s'->Q (.int kvs.length t) s'):wpAny (model X.prog X.w) A (call (.builtin "len") [.ref a]) Q E s:=by
 obtain⟨z,hd,vs,rel,dd⟩:=hX I.hok e;refine call_len_dict hd dd (by rw[←rel.length];rw[sizeLine_eq]at z;omega) ?_
 rw[←rel.length];exact h _ _ (I.tok _)
end
def NoSl (i:Expr):Prop:=∀ov iv,subscripted i false ov iv=operate [ov,iv] (getItem ov iv)
theorem subD_of {prog:Program}{w:World}{A:Around}{E:Value->Shared->Prop}{s:Shared}{env:Env}{value slice:Expr}{pos:Pos}{T id:String}{Q:Value->Shared->Prop}(hl:typeLookup (.type T) "__getitem__" = pure (some (.builtin id)))(hs:NoSl slice)(h:wpAny (model prog w) A (eval value env) (fun o s₁=>wpAny (model prog w) A (eval slice env) (fun i s₂=>s₂.TypeIs o T/\wpAny (model prog w) A (getItem o i) Q E s₂) E s₁) E s):wpAny (model prog w) A (eval (.Subscript value slice pos) env) Q E s:=by
 refine Subscript_ (wpAny_mono h (fun o s₁ h₁=>wpAny_mono h₁ (fun i s₂ h₂=>?_) fun _ _ x=>x) fun _ _ x=>x);obtain⟨hT,h₂⟩:=h₂;unfold subscriptTail;refine wpAny_bind ?_;rw[getitemInPython_of_ne hT.not_modules];refine wpAny_bind (wpAny_specialOf hT hl ?_);have fin:wpAny (model prog w) A (subscripted slice false o i) (fun r s₃=>wpAny (model prog w) A (letTemporaryGo value o r >>= fun _=>pure r) Q E s₃) E s₂:=by
  rw[hs o i];exact wpAny_operating (wpAny_mono h₂ (fun r s₃ h₃=>wpAny_bind (wpAny_letTemporaryGo (wpAny_pure h₃))) fun _ _ x=>x)
 first
  | exact wpAny_pure (wpAny_bind fin)
  | exact wpAny_bind (wpAny_pure (wpAny_bind fin))
  | exact wpAny_bind fin
theorem dict_typeIs {X:Cx}{pins:List (Addr×Obj)}{σ:St}{H:Hp}{s:Shared}{a:Addr}{y:V}{o:Option V}(I:Inv X pins σ H s)(g:DGet H a y o):s.TypeIs (.ref a) "dict":=by
 rcases g with⟨kvs,k,e,_,_⟩ | ⟨kvs,k,b,e,_,_,_⟩
 . obtain⟨_,_,vs,_,dd⟩:=hX I.hok e;exact dd.typeIs
 . obtain⟨_,_,xs,_,dd⟩:=jm I.hok e;exact dd.typeIs
def tDGet (td ty:TE):TE:=fun σ H Q=>td σ H fun x H1=>ty σ H1 fun y H2=>∃a v,x = .ref a/\DGet H2 a y (some v)/\Q v H2
def tDIn (ty td:TE):TE:=fun σ H Q=>ty σ H fun y H1=>td σ H1 fun x H2=>∃a o,x = .ref a/\DGet H2 a y o/\Q (.bl o.isSome) H2
def tDNotIn (ty td:TE):TE:=fun σ H Q=>ty σ H fun y H1=>td σ H1 fun x H2=>∃a o,x = .ref a/\DGet H2 a y o/\Q (.bl (!o.isSome)) H2
def sDPut (td ty tv:TE):TS:=fun D σ H=>tv σ H fun v H1=>td σ H1 fun x H2=>ty σ H2 fun y H3=>∃a H4,x = .ref a/\DPut H3 a y v H4/\D.nx σ H4
section
variable {X:Cx}{o i e value:Expr}{pos pos' tpos:Pos}{td ty tv:TE}
theorem c7 (hu:X.A.units+1 < cLine)(ho:PE X o td)(hi:PE X i ty)(hs:NoSl i):PE X (.Subscript o i pos) (tDGet td ty):=by
 intro pins s σ H Q I h;refine subD_of PySem.F.slot_dict_getitem.lookup hs (thn (ho pins s σ H _ I h) fun u s1 ⟨x,H1,I1,rx,q1⟩=>thn (hi pins s1 σ H1 _ I1 q1) fun iv s2 ⟨y,H2,I2,ry,a,v,ex,g,q2⟩=>?_);subst ex;obtain rfl:u=Value.ref a:=rx;exact⟨dict_typeIs I2 g,d_getItem hu I2 g ry fun w' s3 I3 rw'=>⟨v,H2,I3,rw',q2⟩⟩
theorem l5 (hu:X.A.units+1 < cLine)(hi:PE X i ty)(ho:PE X o td):PC X .In i o (tDIn ty td):=by
 intro pins s σ H Q I h;refine thn (hi pins s σ H _ I h) fun iv s1 ⟨y,H1,I1,ry,q1⟩=>thn (ho pins s1 σ H1 _ I1 q1) fun u s2 ⟨x,H2,I2,rx,a,ov,ex,g,q2⟩=>?_;subst ex;obtain rfl:u=Value.ref a:=rx;exact d_in hu I2 g ry fun s3 I3=>⟨.bl ov.isSome,H2,I3,rfl,q2⟩
theorem dI (hu:X.A.units+1 < cLine)(hi:PE X i ty)(ho:PE X o td):PC X .NotIn i o (tDNotIn ty td):=by
 intro pins s σ H Q I h;refine thn (hi pins s σ H _ I h) fun iv s1 ⟨y,H1,I1,ry,q1⟩=>thn (ho pins s1 σ H1 _ I1 q1) fun u s2 ⟨x,H2,I2,rx,a,ov,ex,g,q2⟩=>?_;subst ex;obtain rfl:u=Value.ref a:=rx;exact d_notIn hu I2 g ry fun s3 I3=>⟨.bl (!ov.isSome),H2,I3,rfl,q2⟩
theorem dG (hu:X.A.units+1 < cLine)(ho:PE X o td)(hi:PE X i ty)(hv:PE X value tv)(hs:swapsWith value (some (.Subscript o i pos')) pos.line X.env=pure false):PS X (.Assign [.Subscript o i pos'] value pos) (sDPut td ty tv):=by
 intro pins s σ H D I h;refine wpAny_Assign_Subscript (thn (hv pins s σ H _ I h) fun r s1 ⟨v,H1,I1,rv,q1⟩=>thn (ho pins s1 σ H1 _ I1 q1) fun u s2 ⟨x,H2,I2,rx,q2⟩=>thn (hi pins s2 σ H2 _ I2 q2) fun iv s3 ⟨y,H3,I3,ry,a,H4,ex,g,q3⟩=>?_) hs;subst ex;obtain rfl:u=Value.ref a:=rx;exact d_setItem hu I3 g ry rv fun s4 I4=>⟨σ,H4,I4,q3⟩
end
theorem jp {P:Program}{w:World}{H:Hp}(h:Heap)(hb:sysModules < h.objs.size):ObjOk P w H (h.push { cls:=.type "dict",data:=.dict #[] }) h.objs.size (.dK []):=
 ⟨Nat.zero_le _,beq_eq_false_iff_ne.mpr (Ne.symm (Nat.ne_of_lt hb)),[],.nil,Heap.DictOf.new h⟩
def tDNewK:TE:=fun _ H Q=>∀p,H p=none->Q (.ref p) (upd H p (.dK []))
section
variable {X:Cx}{pos:Pos}
theorem j8:PE X (.Dict [] [] pos) tDNewK:=fun pins s σ H Q I h =>
 wpAny_Dict_empty ⟨.ref s.heap.objs.size,_,I.laid (a:=s.heap.objs.size) (o:=.dK []) (t':=s.toks) (fun _ _ q=>Heap.get?_push_of_some _ q) (Nat.le_refl _) (jp s.heap I.big),rfl,h _ (I.hok.fresh (Nat.le_refl _))⟩
end
def jA:List (TE×TE)->St->Hp->(List (V×V)->Hp->Prop)->Prop
 | [],_,H,Q=>Q [] H
 | (tk,tv)::r,σ,H,Q=>tk σ H fun x H1=>tv σ H1 fun y H2=>jA r σ H2 fun ps H3=>Q ((x,y)::ps) H3
abbrev VV:List (V×V)->List (Value×Value)->Prop:=Paired fun p q=>RelV p.1 q.1/\RelV p.2 q.2
def PPs (X:Cx)(pos:Pos)(keys:List (Option Expr))(values:List Expr)(trs:List (TE×TE)):Prop:=
 ∀(pins:List (Addr×Obj)) (s:Shared) (σ:St) (H:Hp) (Q:List (V×V)->Hp->Prop),Inv X pins σ H s->jA trs σ H Q →
  wpAny (model X.prog X.w) X.A (evalPairs (pairTrees keys values X.env pos)) (fun vs s'=>∃ps H',Inv X pins σ H' s'/\VV ps vs/\Q ps H') X.xe s
theorem jX {X:Cx}{pos:Pos}:PPs X pos [] [] []:=fun pins s σ H Q I h=>pairTrees_nil_walk ⟨[],H,I,.nil,h⟩
theorem iZ {X:Cx}{pos:Pos}{k v:Expr}{ks:List (Option Expr)}{vs:List Expr}{tk tv:TE}{trs:List (TE×TE)}(hk:PE X k tk)(hv:PE X v tv)(hr:PPs X pos ks vs trs):PPs X pos (some k::ks) (v::vs) ((tk,tv)::trs):=fun pins s σ H Q I h =>
 pairTrees_cons_walk (thn (hk pins s σ H _ I h) fun u s1 ⟨x,H1,I1,rx,q1⟩=>thn (hv pins s1 σ H1 _ I1 q1) fun w2 s2 ⟨y,H2,I2,ry,q2⟩ =>
  thn (hr pins s2 σ H2 _ I2 q2) fun ws s3 ⟨ps,H3,I3,rel,q3⟩=>⟨(x,y)::ps,H3,I3,.cons ⟨rx,ry⟩ rel,q3⟩)
def dY (kvs more:List (Key×V)):List (Key×V):=more.foldl (fun acc kv=>putK acc kv.1 kv.2) kvs
theorem KV.merge:∀{more:List (Key×V)} {rs:List (Key×Value)} {kvs:List (Key×V)} {vs:List (Key×Value)},KV more rs->KV kvs vs->KV (dY kvs more) (merged vs rs):=by
 intro more rs kvs vs r;unfold KV at r
 induction r generalizing kvs vs with
 | nil=>intro q;exact q
 | @cons p q ps qs h t ih =>
  intro r0;have e:KV (putK kvs p.1 p.2) (stored vs q.1 q.2):=by
   have:=r0.put p.1 h.2;rw[←h.1];exact this
  exact ih e
theorem dS:∀(more kvs:List (Key×V)),(dY kvs more).length≤kvs.length+more.length
 | [],kvs=>by show kvs.length≤kvs.length+0;omega
 | p::r,kvs=>by
  have h1:=dS r (putK kvs p.1 p.2);have h2:=dt kvs p.1 p.2;show(dY (putK kvs p.1 p.2) r).length≤_;rw[List.length_cons];omega
theorem gH {P:Program}{w:World}:∀{kvs:List (Key×V)} {ws:List (Value×Value)},VV (kvs.map fun kv=>(kV kv.1,kv.2)) ws->∃rs,Carries (aR P w) ws rs/\KV kvs rs
 | [],_,r=>by rw[List.map_nil]at r;cases r;exact⟨[],True.intro,.nil⟩
 | p::kvs,_,r=>by
  rw[List.map_cons]at r;cases r with
  | @cons a b as bs h t =>
   obtain⟨rs,c,q⟩:=gH (P:=P) (w:=w) t;obtain⟨b1,b2⟩:=b;exact⟨(p.1,b2)::rs,⟨hE h.1,rfl,c⟩,.cons ⟨rfl,h.2⟩ q⟩
def tDisp (trs:List (TE×TE)):TE:=fun σ H Q=>∀p,H p=none->jA trs σ (upd H p (.dK [])) fun ps H2=>H2 p=some (.dK [])/\∃kvs:List (Key×V),ps=kvs.map (fun kv=>(kV kv.1,kv.2))/\kvs.length≤15/\Q (.ref p) (upd H2 p (.dK (dY [] kvs)))
theorem k4 {X:Cx}{pos:Pos}{keys:List (Option Expr)}{values:List Expr}{trs:List (TE×TE)}(h:PPs X pos keys values trs)(hall:keys.all (·.isSome)=true)(hl:keys.length=values.length)(h0:keys≠[])(h15:keys.length≤15):PE X (.Dict keys values pos) (tDisp trs):=by
 intro pins s σ H Q I q;have hn:=I.hok.fresh (Nat.le_refl s.heap.objs.size);have I1:=I.laid (a:=s.heap.objs.size) (o:=.dK []) (h':=s.heap.push { cls:=.type "dict",data:=.dict #[] }) (t':=s.toks) (fun _ _ q=>Heap.get?_push_of_some _ q) (Nat.le_refl _) (jp s.heap I.big);refine wpAny_Dict_walk (knd:=aR X.prog X.w) hall hl h0 h15 (thn (h pins _ σ _ _ I1 (q _ hn)) fun ws s2 ⟨ps,H2,I2,rel,e,kvs,ep,lk,q2⟩=>?_);subst ep;obtain⟨rs,c,rk⟩:=gH (P:=X.prog) (w:=X.w) rel;obtain⟨z,hd,vs0,r0,dd⟩:=lZ I2.hok e;cases r0;refine⟨rs,c,dd,fun h' dd' hs=>⟨.ref s.heap.objs.size,_,?_,rfl,q2⟩⟩;have hz:(dY [] kvs).length≤sizeLine:=by
  have h1:=dS kvs [];rw[List.length_nil]at h1;rw[sizeLine_eq];omega
 have he:∃q,h'.get? s.heap.objs.size=some q:=let ⟨q,_,_,hq,_⟩:=dd';⟨q,hq⟩
 exact iJ I2 (by rw[e];exact True.intro) hs he (lw hz hd (rk.merge .nil) dd')
section
variable {X:Cx}{pins:List (Addr×Obj)}{σ:St}{H:Hp}{s:Shared}{a:Addr}{y d:V}{u r:Value}{o:Option V}{A:Around}{E:Value->Shared->Prop}
end
section
variable {X:Cx}{o e f:Expr}{apos cpos:Pos}{td ty tx:TE}
end
section
variable {X:Cx}{pins:List (Addr×Obj)}{σ:St}{H:Hp}{s:Shared}{a:Addr}{kvs:List (Key×V)}{A:Around}{E:Value->Shared->Prop}
end
section
variable {X:Cx}{pins:List (Addr×Obj)}{σ:St}{H:Hp}{s:Shared}{a:Addr}{y:V}{u:Value}{A:Around}{E:Value->Shared->Prop}
end
end L2
namespace Att
open PySem PySem.W PySem.Calls PyProof.Rows
theorem ints_of_wellAll {P:Params}{h:Heap}:∀(ns:List Int) (vs:List Value),WellAll P h vs (ns.map WData.int)->IntsAre vs ns:=by
 intro ns
 induction ns with
 | nil =>
  intro vs w;rw[List.map_nil]at w;cases w;exact .nil
 | cons n ns ih =>
  intro vs w;rw[List.map_cons]at w;cases w with
  | cons a b =>
   cases a;exact .cons _ _ (ih _ b)
theorem script_of {l:OpenLaw}{n:Nat}(hn:l.most=some n){P:Params}{h:Heap}{args:List WData}{vals:List Value}(hpre:l.row.toRowW.claim.pre args=true)(hwl:WellAll P h vals args):∃a vs ns,vals=[Value.ref a]/\args=[WData.list (ns.map WData.int)]/\h.get? a=some { cls:=.type "list",data:=.seq vs.toArray }/\IntsAre vs ns/\ns.length≤n:=by
 have hsh:WShape.hasAll [] args [.list .int]=true:=(pre_splitW hpre).1;have hc:l.pre.holds [] { args:=args }=true:=(pre_splitW hpre).2;obtain⟨d,r,rfl,h1,h2⟩:=hasAllW_cons hsh;obtain rfl:=hasAllW_nil h2;obtain⟨xs,rfl,h3⟩:=hasW_list h1;obtain⟨ns,rfl⟩:=items_int h3;have hlen:ns.length≤n:=by
  unfold OpenLaw.pre at hc;have h4:(WTm.not (.lt (.lit (.int (n:Int))) (.len (.arg 0)))).holds [] { args:=[.list (ns.map .int)] }=true:=by
   have h4:=(holds_andW hc).1;rw[hn]at h4;exact h4
  have h5:=condW_of h4 (w_not (w_lt w_lit (w_len_list (w_arg rfl))));rw[List.length_map]at h5;refine Nat.le_of_not_lt fun q=>?_;have q':(n:Int) < ((ns.length:Nat):Int):=by omega
  first
   | (rw[decide_eq_true q']at h5;exact absurd h5 (by decide))
   | (simp at h5;omega)
 cases hwl with
 | cons w1 w2 =>
  cases w2;cases w1 with
  | list ho hall=>exact⟨_,_,ns,rfl,rfl,ho,ints_of_wellAll ns _ hall,hlen⟩
theorem post_true (l:OpenLaw)(args:List WData):l.row.toRowW.claim.post args (.bool true) args=true:=
 postW_of (r:=l.row.toRowW) (X:=(true == true))
  (show WShape.has [] (.bool true) .bool=true by first | rfl | decide | simp[WShape.has,WShape.arms,WShape.armsAll])
  (show(WTm.eq .res (.lit (.bool true))).value [] { args:=args,res:=some (.bool true),after:=args }=some (.bool (true == true))from w_eq_bool (w_res rfl) w_lit) rfl
section
variable {prog:Program}{w:World}{A:Around}{E:Value->Shared->Prop}{s:Shared}{K:Frag}
end
end Att
namespace L2
open PySem PySem.Spec PyProof.Rows
theorem dB:∀{vs:List Value} {ns:List Int},IntsAre vs ns->Vals (ns.map V.int) vs
 | _,_,.nil=>.nil
 | _,_,.cons n t h=>.cons ⟨t,rfl⟩ (dB h)
end L2
namespace L2
open PySem PySem.Spec PyProof.Rows
end L2
namespace L2
open PySem PySem.Spec PyProof.Rows
def aw (s:Stmt):Arguments:=match s with
 | .FunctionDef _ a _ _ _ _ _ _ _ _=>a
 | _=>{ posonlyargs:=[],args:=[],vararg:=none,kwonlyargs:=[],kw_defaults:=[],kwarg:=none,defaults:=[] }
def aq (s:Stmt):List Stmt:=match s with
 | .FunctionDef _ _ b _ _ _ _ _ _ _=>b
 | _=>[]
def ae (s:Stmt):Scope:=match s with
 | .FunctionDef _ _ _ _ _ _ sc _ _ _=>sc
 | _=>{ kind:=.function,names:=[],isGenerator:=false,isCoroutine:=false }
abbrev CX0:CXT:=fun _ _ _ _ _ _=>False
abbrev E0:XK:=fun _ _ _=>False
theorem aF {X:Cx}:jK CX0 X E0:=fun _ _ _ _ _ _ _ h=>h.elim
structure Fun (K:PySem.W.Frag) (x qual:Str) (st:Stmt) (f:Addr) (fd:FuncData):Prop where
 ex:∃(oc:Value) (od:Option Addr) (kV doc pm:Value) (an:Option Addr) (cdv ct:Value) (osl:Array (Option Value)),
  fd=PySem.W.fnOf x qual (aw st) (aq st) (ae st) .none kV doc pm an cdv ct/\K.lookup f=some ⟨oc,od,.func fd,osl⟩/\PySem.W.codeIn K cdv qual=true
 kp:PySem.W.keepIn K (.ref f)=true
section
variable {P:Program}{w:World}{K:PySem.W.Frag}{mg:Str->Option Value}{base:Heap}
theorem Fun.ok {x qual:Str}{st:Stmt}{f:Addr}{fd:FuncData}{N ps:List Str}{k:Nat}{sp:Sp}(F:Fun K x qual st f fd)(S:FnScope N ps (ae st))(len:∀vs H Q E,sp vs H Q E->vs.length=ps.length)(hbody:∀(cdv:Value) (A:Around) (outer:List Env) (s:Shared) (H:Hp) (vs:List V) (Q:VK) (E:XK),Room k (A.deeper (envOfC qual (ae st) s.heap.objs.size f cdv))->sp vs H Q E->∃t,PSs (cxOf CX0 P w K mg base N qual (ae st) f cdv A outer s H E).nox (aq st) t/\t { nx:=fun _ H'=>Q .non H',rt:=Q } (start N vs) H):FnOk P w K mg base CX0 (k+1) f fd ps sp:=by
 obtain⟨oc,od,kV,doc,pm,an,cdv,ct,osl,rfl,lk,hcd⟩:=F.ex;refine lV lk hcd S len fun A outer s H vs Q E hr hsp=>?_;obtain⟨t,h,q⟩:=hbody cdv A outer s H vs Q E hr hsp;exact⟨t,h.nox,q⟩
theorem Fun.binds {x qual:Str}{st:Stmt}{f:Addr}{fd:FuncData}{ps:List Str}(F:Fun K x qual st f fd)(h:∀(kV doc pm:Value) (an:Option Addr) (cdv ct:Value) (us:List Value),us.length=ps.length->bindArgs (PySem.W.fnOf x qual (aw st) (aq st) (ae st) .none kV doc pm an cdv ct) ⟨us,[]⟩=pure (ps.zip us)):Binds K fd ps []:=by
 obtain⟨oc,od,kV,doc,pm,an,cdv,ct,osl,rfl,lk,hcd⟩:=F.ex;exact .all (h kV doc pm an cdv ct)
theorem lu {x qual:Str}{st:Stmt}{f:Addr}{oc:Value}{od an:Option Addr}{osl:Array (Option Value)}{kV doc pm cdv ct:Value}(l:K.lookup f=some ⟨oc,od,.func (PySem.W.fnOf x qual (aw st) (aq st) (ae st) .none kV doc pm an cdv ct),osl⟩)(c:PySem.W.codeIn K cdv qual=true)(k:PySem.W.keepIn K (.ref f)=true):Fun K x qual st f (PySem.W.fnOf x qual (aw st) (aq st) (ae st) .none kV doc pm an cdv ct):=⟨⟨oc,od,kV,doc,pm,an,cdv,ct,osl,rfl,l,c⟩,k⟩
end
theorem dy {A:Around}{k:Nat}(hr:Room k A):A.units+1 < cLine:=Nat.lt_of_le_of_lt (Nat.add_le_add_left (by decide:1≤64) _) hr.units
theorem au {n:Nat}(h:n≤1000):n < sizeLine:=Nat.lt_of_le_of_lt h (by decide)
section
variable {X:Cx}
theorem pv (i:Nat){x:Str}{pos:Pos}(hN:X.N[i]? = some x:=by rfl)(hv:Vis X.env.scope x:=by first | exact Or.inl rfl | exact Or.inr (Or.inl rfl) | exact Or.inr (Or.inr rfl))(hd:(x == ("__debug__" : Str))=false:=by decide)
 (hcd:(x == ("__classdict__" : Str))=false:=by decide):PE X (.Name x pos) (tVar i):=pe_var hN hv hd hcd
theorem call_lenD:cr X (.builtin "len") (fun xs H Q=>∃a kvs,xs=[V.ref a]/\H a=some (.dK kvs)/\Q (.int kvs.length) H):=by
 intro pins s σ H xs us Q I r h;obtain⟨a,kvs,rfl,ha,q⟩:=h;obtain⟨u,rfl,ru⟩:=fi r;cases ru;exact d_len I (.inl ha) fun t s' I'=>⟨.int kvs.length,H,I',⟨t,rfl⟩,q⟩
end
theorem iteF {A B:Prop}(h:B):if false=true then A else B:=by
 rw[if_neg Bool.false_ne_true];exact h
theorem iteT {A B:Prop}(h:A):if true=true then A else B:=by
 rw[if_pos rfl];exact h
def Same (H H':Hp):Prop:=∀b o,H b=some o->H' b=some o
theorem Same.refl (H:Hp):Same H H:=fun _ _ h=>h
theorem Same.trans {H H1 H2:Hp}(a:Same H H1)(b:Same H1 H2):Same H H2:=fun c o h=>b c o (a c o h)
theorem Same.free {H H':Hp}(e:Same H H'){l:Addr}(h:H' l=Option.none):H l=Option.none:=by
 cases q:H l with
 | none=>rfl
 | some o =>
  rw[e l o q]at h;cases h
theorem Same.seq {K:PySem.W.Frag}{H H':Hp}{a:Addr}{xs:List V}(e:Same H H')(h:SqL K H a xs):SqL K H' a xs:=by
 rcases h with(h | ⟨o,h⟩) | h
 . exact .inl (.inl (e _ _ h))
 . exact .inl (.inr ⟨o,e _ _ h⟩)
 . exact .inr h
section
variable {κ:Type}[DecidableEq κ]
end
end L2
namespace L2
open PySem PySem.Spec PyProof.Rows
def oldB (N M:List Str)(sc:Scope):Bool:=(List.range N.length).all fun i=>match M[i]? with
 | some y=>(sc.names.lookup y != some .local)&&(sc.names.lookup y != some .cell)&&((sc.names.lookup y != some .free)||(N[i]? == some y))
 | none=>true
structure CompS (scN:List (Str×NameKind)) (N M:List Str) (x:Str) (sc:Scope):Prop where
 kind:sc.kind = .function
 keys:(sc.names.map (·.1)).Nodup
 fr:∀p∈sc.names,p.2 = .free->scN.lookup p.1=some .cell∨scN.lookup p.1=some .free
 nd:M.Nodup
 len:M.length=N.length+1
 last:M[N.length]? = some x
 own:sc.names.lookup x=some .local∨sc.names.lookup x=some .cell
 old:oldB N M sc=true
theorem oldB_at {N M:List Str}{sc:Scope}(h:oldB N M sc=true){i:Nat}{y:Str}(hi:i < N.length)(e:M[i]? = some y):sc.names.lookup y≠some .local/\sc.names.lookup y≠some .cell/\(sc.names.lookup y=some .free->N[i]? = some y):=by
 have q:=List.all_eq_true.mp h i (List.mem_range.mpr hi);rw[e]at q;simp only[Bool.and_eq_true,Bool.or_eq_true,bne_iff_ne,beq_iff_eq,ne_eq]at q;obtain⟨⟨q1,q2⟩,q3⟩:=q;exact⟨q1,q2,fun z=>q3.elim (fun w=>absurd z w) id⟩
theorem cK {l:List (Str×NameKind)}(nd:(l.map (·.1)).Nodup){p:Str×NameKind}(h:p∈l):l.lookup p.1=some p.2:=by
 induction l with
 | nil=>cases h
 | cons q r ih =>
  obtain⟨h1,h2⟩:=List.nodup_cons.mp (show(q.1::r.map (·.1)).Nodup from nd)
  rw[List.lookup_cons];rcases List.mem_cons.mp h with e | h
  . subst e;rw[beq_self_eq_true]
  . have ne:(p.1 == q.1)=false:=by
     rw[beq_eq_false_iff_ne];intro e;exact h1 (e▸List.mem_map.mpr ⟨p,h,rfl⟩)
    rw[ne];exact ih h2 h
theorem closure_ok {scope:Scope}{env:Env}(h:∀p∈scope.names,p.2 = .free->∃c,env.cells.lookup p.1=some c):∃cl,closureFor scope env=pure cl/\(∀y c,(y,c)∈cl->env.cells.lookup y=some c/\(y,NameKind.free)∈scope.names)/\∀p∈scope.names,p.2 = .free->∃c,cl.lookup p.1=some c:=by
 have gen:∀(l:List (Str×NameKind)) (acc:List (Str×Addr)),(∀p∈l,p.2 = .free->∃c,env.cells.lookup p.1=some c) →
  ∃cl,(forIn l acc fun(p:Str×NameKind) (cs:List (Str×Addr))=>if p.2 == .free then (do let a ←cellOf env p.1;pure (ForInStep.yield ((p.1,a)::cs)))else (pure (ForInStep.yield cs):Sem (ForInStep (List (Str×Addr)))))=pure cl ∧
   (∀y c,(y,c)∈cl->(y,c)∈acc∨(env.cells.lookup y=some c/\(y,NameKind.free)∈l))/\(∀y c,acc.lookup y=some c->∃c',cl.lookup y=some c')/\∀p∈l,p.2 = .free->∃c,cl.lookup p.1=some c:=by
  intro l
  induction l with
  | nil=>intro acc _;exact⟨acc,rfl,fun y c e=>.inl e,fun y c e=>⟨c,e⟩,fun p hp=>nomatch hp⟩
  | cons q r ih =>
   intro acc hq;obtain⟨n,k⟩:=q;rw[List.forIn_cons];by_cases hk:k = .free
   . subst hk;obtain⟨c,hc⟩:=hq (n,.free) List.mem_cons_self rfl;have hc':env.cells.lookup n=some c:=hc;have e1:cellOf env n=pure c:=by unfold cellOf;rw[hc']
     obtain⟨cl,e,h1,h2,h3⟩:=ih ((n,c)::acc) fun p hp=>hq p (List.mem_cons_of_mem _ hp);refine⟨cl,?_,?_,?_,?_⟩
     . simp only[beq_self_eq_true,if_true,e1,pure_bind];exact e
     . intro y d hy;rcases h1 y d hy with z | ⟨z1,z2⟩
       . rcases List.mem_cons.mp z with z | z
         . cases z;exact .inr ⟨hc',List.mem_cons_self⟩
         . exact .inl z
       . exact .inr ⟨z1,List.mem_cons_of_mem _ z2⟩
     . intro y d hy;by_cases e':y=n
       . subst e';exact h2 y c (by rw[List.lookup_cons,beq_self_eq_true])
       . exact h2 y d (by rw[List.lookup_cons,beq_eq_false_iff_ne.mpr e'];exact hy)
     . intro p hp hf;rcases List.mem_cons.mp hp with z | z
       . subst z;exact h2 n c (by rw[List.lookup_cons,beq_self_eq_true])
       . exact h3 p z hf
   . have hkb:(k == NameKind.free)=false:=beq_eq_false_iff_ne.mpr hk;obtain⟨cl,e,h1,h2,h3⟩:=ih acc fun p hp=>hq p (List.mem_cons_of_mem _ hp);refine⟨cl,?_,?_,h2,?_⟩
     . simp only[hkb,Bool.false_eq_true,if_false,pure_bind];exact e
     . intro y d hy;rcases h1 y d hy with z | ⟨z1,z2⟩
       . exact .inl z
       . exact .inr ⟨z1,List.mem_cons_of_mem _ z2⟩
     . intro p hp hf;rcases List.mem_cons.mp hp with z | z
       . subst z;exact absurd hf hk
       . exact h3 p z hf
 obtain⟨cl,e,h1,_,h3⟩:=gen scope.names [] h;refine⟨cl,?_,fun y c hy=>(h1 y c hy).elim (fun z=>nomatch z) id,h3⟩;unfold closureFor;have e':(forIn scope.names ([]:List (Str×Addr)) fun(p:Str×NameKind) (cs:List (Str×Addr))=>if p.2 == .free then (do let a ←cellOf env p.1;pure (ForInStep.yield ((p.1,a)::cs)))else (pure (ForInStep.yield cs):Sem (ForInStep (List (Str×Addr)))))=pure cl:=e
 first
  | (simp only[bind_pure_comp,Functor.map_map]at e'⊢;simpa using e')
  | (show(forIn scope.names ([]:List (Str×Addr)) _ >>= fun cs=>pure cs)=pure cl
     rw[bind_pure];exact e')
theorem cQ:∀(names:List (Str×NameKind)) (n:Nat) (acc:List (Str×Addr)) {y:Str},(∀p∈names,p.2 = .cell->p.1≠y)->(cellsFrom n names acc).lookup y=acc.lookup y
 | [],_,_,_,_=>rfl
 | (m,k)::r,n,acc,y,h=>by
  unfold cellsFrom
  split
  . rename_i hk;have hk':k = .cell:=by simpa using hk
    rw[cQ r (n+1) _ fun p hp=>h p (List.mem_cons_of_mem _ hp),List.lookup_cons];have:(y == m)=false:=by rw[beq_eq_false_iff_ne];exact fun e=>h (m,k) List.mem_cons_self hk' e.symm
    rw[this]
  . exact cQ r n acc fun p hp=>h p (List.mem_cons_of_mem _ hp)
theorem bc:∀(names:List (Str×NameKind)) (n:Nat) (acc:List (Str×Addr)) {y:Str} {c:Addr},acc.lookup y=some c->∃d,(cellsFrom n names acc).lookup y=some d
 | [],_,_,_,c,h=>⟨c,h⟩
 | (m,k)::r,n,acc,y,c,h=>by
  unfold cellsFrom
  split
  . by_cases e:y=m
    . exact bc r (n+1) _ (c:=n) (by rw[List.lookup_cons,beq_iff_eq.mpr e])
    . exact bc r (n+1) _ (c:=c) (by rw[List.lookup_cons,beq_eq_false_iff_ne.mpr e];exact h)
  . exact bc r n acc h
theorem cL:∀(names:List (Str×NameKind)) (n:Nat) (acc:List (Str×Addr)) {y:Str},(y,NameKind.cell)∈names->∃c,(cellsFrom n names acc).lookup y=some c
 | (m,k)::r,n,acc,y,h=>by
  unfold cellsFrom;rcases List.mem_cons.mp h with e | h
  . cases e;rw[if_pos (show(NameKind.cell == NameKind.cell)=true from rfl)]
    exact bc r (n+1) _ (c:=n) (by rw[List.lookup_cons,beq_self_eq_true])
  . split
    . exact cL r _ _ h
    . exact cL r _ _ h
theorem cJ:∀(names:List (Str×NameKind)) (h:Heap) (acc:List (Str×Addr)) {y:Str} {c:Addr},(y,c)∈cellsFrom h.objs.size names acc->(y,c)∈acc∨(h.objs.size≤c/\(y,NameKind.cell)∈names/\(pushCells h names).IsCell c none)
 | [],_,_,_,_,e=>.inl e
 | (m,k)::r,h,acc,y,c,e=>by
  unfold cellsFrom at e;unfold pushCells
  split at e
  . rename_i hk;have hk':k = .cell:=by simpa using hk
    rw[if_pos hk];have sz:(h.push { cls:=.type "cell",data:=.cell none }).objs.size=h.objs.size+1:=Heap.size_push ..;have e':(y,c)∈cellsFrom (h.push { cls:=.type "cell",data:=.cell none }).objs.size r ((m,h.objs.size)::acc):=by rw[sz];exact e
    rcases cJ r _ _ e' with z | ⟨z1,z2,z3⟩
    . rcases List.mem_cons.mp z with z | z
      . cases z;exact .inr ⟨Nat.le_refl _,by rw[hk'];exact List.mem_cons_self,⟨_,pushCells_keeps r _ _ _ (Heap.get?_push_size _ rfl),rfl⟩⟩
      . exact .inl z
    . exact .inr ⟨by rw[sz]at z1;omega,List.mem_cons_of_mem _ z2,z3⟩
  . rename_i hk;rw[if_neg hk];rcases cJ r h acc e with z | ⟨z1,z2,z3⟩
    . exact .inl z
    . exact .inr ⟨z1,List.mem_cons_of_mem _ z2,z3⟩
theorem cO:∀(names:List (Str×NameKind)) (n:Nat) (acc:List (Str×Addr)),(∀y c,(y,c)∈acc->c < n)->(∀y z c,(y,c)∈acc->(z,c)∈acc->y=z) →
 ∀y z c,(y,c)∈cellsFrom n names acc->(z,c)∈cellsFrom n names acc->y=z
 | [],_,_,_,h2,y,z,c,e1,e2=>h2 y z c e1 e2
 | (m,k)::r,n,acc,h1,h2,y,z,c,e1,e2=>by
  unfold cellsFrom at e1 e2
  split at e1
  . rename_i hk;rw[if_pos hk]at e2;refine cO r (n+1) ((m,n)::acc) ?_ ?_ y z c e1 e2
    . intro y c h;rcases List.mem_cons.mp h with h | h
      . cases h;exact Nat.lt_succ_self _
      . exact Nat.lt_succ_of_lt (h1 y c h)
    . intro y z c hy hz;rcases List.mem_cons.mp hy with a | a<;>rcases List.mem_cons.mp hz with b | b
      . cases a;cases b;rfl
      . cases a;exact absurd (h1 z n b) (Nat.lt_irrefl _)
      . cases b;exact absurd (h1 y n a) (Nat.lt_irrefl _)
      . exact h2 y z c a b
  . rename_i hk;rw[if_neg hk]at e2;exact cO r n acc h1 h2 y z c e1 e2
theorem newEnv_comp {M:Model}{A:Around}{E:Value->Shared->Prop}{s:Shared}{scope:Scope}{cl:List (Str×Addr)}{env:Env}{Q:Env->Shared->Prop}(hQ:∀h4:Heap,h4.Ns s.heap.objs.size (fun _=>none)->(∀b o,s.heap.get? b=some o->h4.get? b=some o)->(∀y c,(y,c)∈cellsFrom (s.heap.objs.size+1) scope.names cl->(y,c)∈cl∨(s.heap.objs.size+1≤c/\(y,NameKind.cell)∈scope.names/\h4.IsCell c none))->∀cenv:Env,{ cenv with scope:=relabel scope env }=compEnvC scope (cellsFrom (s.heap.objs.size+1) scope.names cl) s.heap.objs.size env->cenv.locals=s.heap.objs.size->Q cenv { s with heap:=h4 }) :
 wpAny M A (newFunctionEnv scope env.globals cl [] env.qual none .none (some env)) Q E s:=by
 simp only[newFunctionEnv,Option.isSome_some,if_true];refine wpAny_bind (wpAny_alloc ?_);refine wpAny_bind (wpAny_layCells _ (fun name kind cells=>by cases hkc:kind == NameKind.cell<;>simp[hkc]) _ _ _ _ ?_)
 have sz:(s.heap.push { cls:=.type "dict",data:=.dict #[] }).objs.size=s.heap.objs.size+1:=Heap.size_push ..;rw[show({ s with heap:=s.heap.push { cls:=.type "dict",data:=.dict #[] } }:Shared).heap.objs.size=s.heap.objs.size+1 from Heap.size_push ..]
 rw[List.forIn_nil];refine wpAny_bind (wpAny_pure (wpAny_pure ?_));refine hQ _ ((Heap.Ns.new s.heap (.type "dict")).keeps (pushCells_keeps _ _)) (fun b o e=>pushCells_keeps _ _ b o (Heap.get?_push_of_some _ e)) (fun y c h=>?_) _ rfl rfl;rw[←sz]at h⊢;exact cJ _ _ _ h
theorem compLoop_any {prog:Program}{w:World}{A:Around}{R:Result->Shared->Prop}{s:Shared}{elt target iter:Expr}{ifs:List Expr}{scope:Scope}{pos:Pos}{it acc:Value}{env:Env}(I:Nat->Shared->Prop)
 (turn:∀n s,I n s->wpAny (model prog w) A (pyNext it) (fun r s₁=>match r with
   | none=>R (.ok .next) s₁
   | some v=>wpAny (model prog w) A (letOwnedTupleGo target it v) (fun _ s₀=>wpAny (model prog w) A (assign target env v) (fun _ s₂ =>
    wpAny (model prog w) A (forIn ifs true fun c r=>if r=true then do let ok ←isTrue c env (eval c env);pure (ForInStep.yield ok)else pure (ForInStep.yield r)) (fun ok s₃ =>
     if ok=true then wpAny (model prog w) A (eval elt env) (fun x s₄ =>
      wpAny (model prog w) A (call (.builtin "list.append") [acc,x]) (fun _ s₅=>∃m,m < n/\I m s₅) (fun _ _=>False) s₄) (fun _ _=>False) s₃
     else ∃m,m < n/\I m s₃) (fun _ _=>False) s₂) (fun _ _=>False) s₀) (fun _ _=>False) s₁) (fun _ _=>False) s)
 (n:Nat) (h:I n s) :
 codeAny (model prog w) A (.compLoop (.ListComp elt [⟨target,iter,ifs,0⟩] scope pos) 0 it acc env) R s:=by
 refine codeAny_loop rfl I (fun n s hI=>?_) n h;show wpAny _ A ((compTurn (.ListComp elt [⟨target,iter,ifs,0⟩] scope pos) 0 it acc env).onRaise (fun x=>do noteFrame x env;theTreesLotGoes x)) _ _ s
 refine wpAny_noted ?_;rw[compTurn_list];refine wpAny_bind (wpAny_standAt (wpAny_bind (wpAny_mono (turn n s hI) (fun r s₁ h₁=>?_) fun _ _ h'=>h'.elim)));cases r with
 | none=>exact wpAny_pure h₁
 | some v =>
  refine wpAny_bind (wpAny_mono h₁ (fun _ s₀ h₀=>?_) fun _ _ h'=>h'.elim);refine wpAny_bind (wpAny_mono h₀ (fun _ s₂ h₂=>wpAny_bind (wpAny_mono h₂ (fun ok s₃ h₃=>?_) fun _ _ h'=>h'.elim)) fun _ _ h'=>h'.elim);cases ok with
  | false=>exact wpAny_pure ⟨rfl,h₃⟩
  | true =>
   exact wpAny_bind (wpAny_bind (wpAny_mono h₃ (fun x s₄ h₄=>wpAny_bind (wpAny_mono h₄ (fun _ s₅ h₅=>wpAny_pure (wpAny_pure ⟨rfl,h₅⟩)) fun _ _ h'=>h'.elim)) fun _ _ h'=>h'.elim))
end L2
namespace L2
open PySem PySem.Spec PyProof.Rows
def bJ (X:Cx)(scope:Scope)(cl:List (Str×Addr))(M:List Str)(s:Shared)(H:Hp)(fp:List Addr):Cx where
 prog:=X.prog
 w:=X.w
 K:=X.K
 mg:=X.mg
 base:=X.base
 A:=X.A
 N:=M
 s₀:=s
 H₀:=H
 env:=compEnvC scope (cellsFrom (s.heap.objs.size+1) scope.names cl) s.heap.objs.size X.env
 outer:=X.stack
 stack:=X.stack
 ex:=fp
 fn:=fun y=>scope.names.lookup y == some .cell
 calm:=X.calm
 pn:=X.pn
 xe:=fun _ _=>False
theorem bq {env:Env}:∀{names:List (Str×NameKind)} {x:Str} {k:NameKind},(names.map fun(n,k)=>if (k == NameKind.free&&env.scope.kind == .function&&env.kindOf n == some .cell)then (n,NameKind.cell)else (n,k)).lookup x=some k →
 names.lookup x=some k∨(names.lookup x=some .free/\k = .cell)
 | [],_,_,h=>by simp at h
 | (n,j)::r,x,k,h=>by
  have ih:=@bq env r x k;rw[List.map_cons]at h;dsimp only at h;by_cases hc:(j == NameKind.free&&env.scope.kind == .function&&env.kindOf n == some .cell)=true
  . rw[if_pos hc,List.lookup_cons]at h;rw[List.lookup_cons];cases hx:x == n with
    | true =>
     rw[hx]at h;have hj:j = .free:=by
      simp only[Bool.and_eq_true]at hc;simpa using hc.1.1
     exact .inr ⟨by rw[hj],(Option.some.inj h).symm⟩
    | false=>rw[hx]at h;exact ih h
  . rw[if_neg hc,List.lookup_cons]at h;rw[List.lookup_cons];cases hx:x == n with
    | true=>rw[hx]at h;exact .inl h
    | false=>rw[hx]at h;exact ih h
theorem cG {env:Env}:∀{names:List (Str×NameKind)} {x:Str},names.lookup x=some .free →
 (names.map fun(n,k)=>if (k == NameKind.free&&env.scope.kind == .function&&env.kindOf n == some .cell)then (n,NameKind.cell)else (n,k)).lookup x=some .cell ∨
 (names.map fun(n,k)=>if (k == NameKind.free&&env.scope.kind == .function&&env.kindOf n == some .cell)then (n,NameKind.cell)else (n,k)).lookup x=some .free
 | [],_,h=>by simp at h
 | (n,j)::r,x,h=>by
  have ih:=@cG env r x;rw[List.map_cons];dsimp only;rw[List.lookup_cons]at h;by_cases hc:(j == NameKind.free&&env.scope.kind == .function&&env.kindOf n == some .cell)=true
  . rw[if_pos hc,List.lookup_cons];cases hx:x == n with
    | true=>exact .inl rfl
    | false=>rw[hx]at h;exact ih h
  . rw[if_neg hc,List.lookup_cons];cases hx:x == n with
    | true=>rw[hx]at h;exact .inr h
    | false=>rw[hx]at h;exact ih h
theorem bZ {env:Env}:∀{names:List (Str×NameKind)} {x:Str},names.lookup x=some .cell →
 (names.map fun(n,k)=>if (k == NameKind.free&&env.scope.kind == .function&&env.kindOf n == some .cell)then (n,NameKind.cell)else (n,k)).lookup x=some .cell
 | [],_,h=>by simp at h
 | (n,j)::r,x,h=>by
  have ih:=@bZ env r x;rw[List.map_cons];dsimp only;rw[List.lookup_cons]at h;by_cases hc:(j == NameKind.free&&env.scope.kind == .function&&env.kindOf n == some .cell)=true
  . rw[if_pos hc,List.lookup_cons];cases hx:x == n with
    | true=>rfl
    | false=>rw[hx]at h;exact ih h
  . rw[if_neg hc,List.lookup_cons];cases hx:x == n with
    | true=>rw[hx]at h;exact h
    | false=>rw[hx]at h;exact ih h
section
variable {X:Cx}{pins:List (Addr×Obj)}{σ:St}{H:Hp}{s:Shared}{scope:Scope}{cl:List (Str×Addr)}{M:List Str}{x:Str}{fp:List Addr}{scN:List (Str×NameKind)}
theorem comp_start {h4:Heap}(I:Inv X pins σ H s)(S:CompS scN X.N M x scope)(hsc:X.env.scope.names=scN)(hcl1:∀y c,(y,c)∈cl->X.env.cells.lookup y=some c/\(y,NameKind.free)∈scope.names)(hcl2:∀p∈scope.names,p.2 = .free->∃c,cl.lookup p.1=some c)(hfp:∀b∈fp,FpOk X pins H b)(hlt:∀b∈fp,b < s.heap.objs.size){m:Str->Option Value}(hns:h4.Ns s.heap.objs.size m)(hk:∀b o,s.heap.get? b=some o->h4.get? b=some o)(hcell:∀y c,(y,c)∈cellsFrom (s.heap.objs.size+1) scope.names cl->(y,c)∈cl∨(s.heap.objs.size+1≤c/\(y,NameKind.cell)∈scope.names/\h4.IsCell c none)):Inv (bJ X scope cl M s H fp) pins (σ++[none]) H { s with heap:=h4 }:=by
 have clt:∀y c,(y,c)∈cl->c < s.heap.objs.size:=fun y c h=>let ⟨v,z⟩:=I.cell y c (hcl1 y c h).1;z.lt
 have kin:∀y:Str,(bJ X scope cl M s H fp).env.kindOf y=(scope.names.map fun(n,k)=>if (k == NameKind.free&&X.env.scope.kind == .function&&X.env.kindOf n == some .cell)then (n,NameKind.cell)else (n,k)).lookup y:=fun y=>rfl
 have frcell:∀y,scope.names.lookup y=some .free->(∀p∈scope.names,p.2 = .cell->p.1≠y):=fun y hy p hp hc e=>by
  have q:=cK S.keys hp;rw[e,hy,hc]at q;cases q
 refine⟨⟨I.ok.mod,S.kind,I.ok.glob,I.ok.blt,Nat.le_refl _,fun y z c h1 h2=>?_,fun y hy=>?_,fun y c h1 h2=>?_,I.ok.hd,I.ok.frames,.inl rfl,fun b hb=>⟨Nat.ne_of_lt (hlt b hb),fun y c hc e=>?_⟩,I.bs,Nat.le_trans I.ok.bsz I.sz,fun b o e hb=>?_,fun b hb hf=>?_,I.stack,I.stkFree⟩,
  rfl,I.bare,Un.kept hk,⟨m,hns,fun i y v h1 h2 h3=>?_⟩,fun y c h=>?_,I.hok.fresh (Nat.le_refl _),fun y c h=>?_,fun p hp=>?_,I.hok.kept hk,?_⟩
 . exact cO scope.names _ cl (fun y c h=>Nat.lt_succ_of_lt (clt y c h)) (fun y z c a b=>I.ok.inj y z c (hcl1 y c a).1 (hcl1 z c b).1) y z c (PySem.mem_of_lookup h1) (PySem.mem_of_lookup h2)
 . rw[kin y]at hy;have key:scope.names.lookup y=some .cell∨scope.names.lookup y=some .free:=by
    rcases hy with hy | hy
    . rcases bq hy with z | ⟨z,_⟩
      . exact .inl z
      . exact .inr z
    . rcases bq hy with z | ⟨z,_⟩
      . exact .inr z
      . exact .inr z
   rcases key with z | z
   . exact cL scope.names _ cl (PySem.mem_of_lookup z)
   . obtain⟨c,hc⟩:=hcl2 (y,.free) (PySem.mem_of_lookup z) rfl;exact bc scope.names _ cl hc
 . have hy:scope.names.lookup y=some .cell:=by
    have:(scope.names.lookup y == some NameKind.cell)=true:=h1;simpa using this
   rcases hcell y c (PySem.mem_of_lookup h2)with z | ⟨z,_⟩
   . have q:=cK S.keys (hcl1 y c z).2;rw[hy]at q;cases q
   . exact Nat.le_of_succ_le z
 . subst e;rcases hcell y c (PySem.mem_of_lookup hc)with z | ⟨z,_⟩
   . exact(hfp c hb).2.2.2.2.1 y c (hcl1 y c z).1 rfl
   . exact absurd (Nat.lt_of_lt_of_le (hlt c hb) (Nat.le_of_succ_le z)) (Nat.lt_irrefl _)
 . rcases(hfp b hb).2.2.2.1 with z | z
   . exact I.ok.noex b o e z
   . exact absurd (Nat.lt_of_lt_of_le (Heap.lt_size e) (Nat.le_trans I.ok.bsz z)) (Nat.lt_irrefl _)
 . obtain⟨_,f1,f2,_⟩:=hfp b hb;rcases List.mem_cons.mp (I.stkSub b hf)with z | z
   . exact f1 z
   . exact f2 z
 . have hMi:i < M.length:=(List.getElem?_eq_some_iff.mp h1).1;by_cases hi:i < X.N.length
   . obtain⟨o1,o2,o3⟩:=oldB_at S.old hi h1;have hσ:σ[i]? = some (some v):=by
      rw[List.getElem?_append_left (by rw[I.len];exact hi)]at h2;exact h2
     have hfr:scope.names.lookup y=some .free:=by
      have h3':(bJ X scope cl M s H fp).env.kindOf y=some .local∨(bJ X scope cl M s H fp).env.kindOf y=some .cell∨(bJ X scope cl M s H fp).env.kindOf y=some .free:=h3;rw[kin y]at h3';rcases h3' with z | z | z
      . rcases bq z with q | ⟨q,_⟩
        . exact absurd q o1
        . exact q
      . rcases bq z with q | ⟨q,_⟩
        . exact absurd q o2
        . exact q
      . rcases bq z with q | ⟨q,_⟩
        . exact q
        . exact q
     have hNi:=o3 hfr;have hout:=S.fr (y,.free) (PySem.mem_of_lookup hfr) rfl;rw[←hsc]at hout;obtain⟨m0,_,hl⟩:=I.loc;obtain⟨u,r,l⟩:=hl i y v hNi hσ (.inr hout);refine⟨u,r,.inr ⟨?_,?_⟩⟩
     . rw[kin y];exact cG hfr
     . obtain⟨c,hc⟩:=hcl2 (y,.free) (PySem.mem_of_lookup hfr) rfl;have hXc:=(hcl1 y c (PySem.mem_of_lookup hc)).1;refine⟨c,(cQ scope.names _ cl (frcell y hfr)).trans hc,?_⟩;rcases l with⟨kl,_⟩ | ⟨_,c',hc',z⟩
       . have kl':X.env.scope.names.lookup y=some .local:=kl;rw[kl']at hout;rcases hout with q | q<;>cases q
       . rw[hXc]at hc';cases hc';exact z.keeps hk
   . have e:i=X.N.length:=by have:=S.len;omega
     subst e;rw[List.getElem?_append_right (by rw[I.len];exact Nat.le_refl _),I.len,Nat.sub_self]at h2
     cases h2
 . rcases hcell y c (PySem.mem_of_lookup h)with z | ⟨_,_,z⟩
   . obtain⟨v,q⟩:=I.cell y c (hcl1 y c z).1;exact⟨v,q.keeps hk⟩
   . exact⟨_,z⟩
 . rcases hcell y c (PySem.mem_of_lookup h)with z | ⟨z,_,_⟩
   . exact I.freeC y c (hcl1 y c z).1
   . exact I.hok.fresh (Nat.le_of_succ_le z)
 . obtain⟨e,n,ne,nf,d⟩:=I.pin p hp;refine⟨hk _ _ e,n,Nat.ne_of_lt (Heap.lt_size e),fun hf=>?_,d⟩;rcases List.mem_cons.mp (I.stkSub p.1 hf)with z | z
   . exact ne z
   . exact nf z
 . rw[List.length_append,I.len];exact S.len.symm
theorem i6 {H':Hp}{s':Shared}{pl:List (Addr×Obj)}{τ:St}(I:Inv X pins σ H s)(hfp:∀b∈fp,FpOk X pins H b)(J:Inv (bJ X scope cl M s H fp) pl τ H' s'):Inv X pins σ H' s':=
 I.call' (ch:=fp) J.os J.base J.hok J.bare fun b hb=>let ⟨_,f1,_,f3,f4,f5⟩:=hfp b hb;⟨f3,f1,f4,f5⟩
theorem i4 {H':Hp}{s':Shared}{h':Heap}{τ:St}(I:Inv X pins σ H s)(J:Inv X pins τ H' s')(hC:H' s.heap.objs.size=none)(hs:Heap.SameBut s.heap.objs.size s'.heap h'):Inv X pins τ H' { s' with heap:=h' }:=by
 refine J.turned (it:=s.heap.objs.size) (t':=s'.toks) (fun b o hb e=>(hs.2 b hb).trans e) hC (Nat.ne_of_gt I.lt) (.inr I.sz) (fun y c e z=>?_) (fun p hp z=>?_)
 . obtain⟨v,q⟩:=I.cell y c e;exact absurd q.lt (by rw[z];exact Nat.lt_irrefl _)
 . exact absurd (Heap.lt_size (I.pin p hp).1) (by rw[z];exact Nat.lt_irrefl _)
end
def PF (X:Cx)(ifs:List Expr)(t:TT):Prop:=
 ∀(pins:List (Addr×Obj)) (s:Shared) (σ:St) (H:Hp) (Q:Bool->Hp->Prop),Inv X pins σ H s->t σ H Q →
  wpAny (model X.prog X.w) X.A (forIn ifs true fun c r=>if r=true then do let ok ←isTrue c X.env (eval c X.env);pure (ForInStep.yield ok)else pure (ForInStep.yield r)) (TP X pins σ Q) X.xe s
def tYes:TT:=fun _ H Q=>Q true H
theorem bL {X:Cx}:PF X [] tYes:=fun pins s σ H Q I h=>wpAny_tests_nil ⟨H,I,h⟩
def kF (wi:TI)(tf:TT)(te:TE):TE:=fun σ H Q=>wi σ H fun J H1=>∀D,H1 D=none->∃W:Nat->Nat->List V->Hp->Prop,(∃m,W 0 m [] (upd H1 D (.lst [])))/\∀i m ys H2,W i m ys H2 →
 H2 D=some (.lst ys)/\((J.stop i H2/\Q (.ref D) H2)∨(J.go i H2/\∃N:List V->Hp->Prop,(∀ys' H',N ys' H'->∃m',m' < m/\W (i+1) m' ys' H')/\∀y H3,J.yld i H2 y H3 →
  tf (σ++[some y]) H3 fun c H4=>if c=true then te (σ++[some y]) H4 fun z H5=>H5 D=some (.lst ys)/\ys.length < sizeLine/\N (ys++[z]) (upd H5 D (.lst (ys++[z])))else N ys H4))
section
variable {X:Cx}{elt iter:Expr}{ifs:List Expr}{scope:Scope}{pos px:Pos}{x:Str}{wi:TI}{tf:TT}{te:TE}
theorem comp_turns {Y:Cx}{pins:List (Addr×Obj)}{σ:St}{H2:Hp}{s:Shared}{it D:Addr}{fp:List Addr}{tn:Nat->Heap->Prop}{J:It}{R:Result->Shared->Prop}{Q:Hp->Prop}{n:Nat}(hc:Y.calm=true)(hxe:Y.xe=fun _ _=>False)(hN:Y.N.Nodup)(hσ:σ.length=n)(hx:Y.N[n]? = some x)(hl:Loc Y.env.scope x)(hf:Y.fn x=true∨Y.env.scope.names.lookup x=some .local)(T:Turn Y.prog Y.w Y.K (.Name x px) J fp it tn)(f2:∀b∈fp,FpOk Y pins H2 b)(st2:tn 0 s.heap)(I2:Inv Y pins (σ++[none]) H2 s)(hif:PF Y ifs tf)(hel:PE Y elt te)(W:Nat->Nat->List V->Hp->Prop)(w0:∃m,W 0 m [] H2)(turn:∀i m ys H2,W i m ys H2->H2 D=some (.lst ys)/\((J.stop i H2/\Q H2)∨(J.go i H2/\∃N:List V->Hp->Prop,(∀ys' H',N ys' H'->∃m',m' < m/\W (i+1) m' ys' H')/\∀y H3,J.yld i H2 y H3->tf (σ++[some y]) H3 fun c H4=>if c=true then te (σ++[some y]) H4 fun z H5=>H5 D=some (.lst ys)/\ys.length < sizeLine/\N (ys++[z]) (upd H5 D (.lst (ys++[z])))else N ys H4)))(hR:∀H' s',Inv Y pins (σ++[none]) H' s'->Q H'->R (.ok .next) s'):codeAny (model Y.prog Y.w) Y.A (.compLoop (.ListComp elt [⟨.Name x px,iter,ifs,0⟩] scope pos) 0 (.ref it) (.ref D) Y.env) R s:=by
 have stat:∀{H':Hp},(∀b∈fp,H' b=none)->∀b∈fp,FpOk Y pins H' b:=fun hn b hb=>⟨hn b hb,(f2 b hb).2⟩;obtain⟨m0,w0⟩:=w0;refine compLoop_any (fun k s'=>∃i ys H',Inv Y pins (σ++[none]) H' s'/\tn i s'.heap/\(∀b∈fp,H' b=none)/\W i k ys H') ?_ m0 ⟨0,[],H2,I2,st2,fun b hb=>(f2 b hb).1,w0⟩;rintro k s3 ⟨i,ys,H3,I3,st3,fr3,w3⟩;obtain⟨hD,hcase⟩:=turn i k ys H3 w3;rcases hcase with⟨stop,q⟩ | ⟨go,N,hN',step⟩
 . refine thn (T.done Y rfl rfl rfl hc i pins s3 _ H3 _ I3 (stat fr3) st3 stop) fun r s4 ⟨hr,I4⟩=>?_;subst hr;exact hR H3 s4 I4 q
 . refine thn (T.item Y rfl rfl rfl hc i pins s3 _ H3 _ I3 (stat fr3) st3 go) fun r s4 ⟨u,hr,h4⟩=>?_;subst hr;refine thn h4 fun _ s5 ⟨y,H5,I5,r5,y5,st5,fr5⟩=>?_;have I5':=I5.pinned (stat fr5) (T.obj _ _ st5);have hset:(σ++[none]).set n (some y)=σ++[some y]:=by
    rw[List.set_append_right _ _ (by omega)]
    rw[hσ,Nat.sub_self];rfl
   refine wpAny_assign_Name (ee I5' hN hx hl r5 (fun s6 I6=>?_) hf);rw[hset]at I6;have noX:∀(e:Value) (s:Shared),Y.xe e s->False:=fun e s h=>by rw[hxe]at h;exact h
   refine wpAny_mono (hif _ s6 _ H5 _ I6 (step y H5 y5)) (fun c s7 ⟨H7,I7,q7⟩=>?_) fun e s h=>noX e s h;have back:∀{s':Shared} {ys':List V} {H':Hp},Inv Y (pins++gn fp s5.heap) (σ++[some y]) H' s'->N ys' H'->∃m,m < k/\∃i ys H',Inv Y pins (σ++[none]) H' s'/\tn i s'.heap/\(∀b∈fp,H' b=none)/\W i m ys H':=fun{s' ys' H'} I' n'=>by
    obtain⟨m',hm,w'⟩:=hN' ys' H' n';refine⟨m',hm,i+1,ys',H',I'.unpinned.weak (by simp) (fun j v e=>?_),T.keep _ _ _ st5 fun b hb o e=>(I'.pin (b,o) (List.mem_append_right _ (List.mem_append_right _ (d9 hb e)))).1,fun b hb=>?_,w'⟩
    . by_cases hj:j < σ.length
      . rw[List.getElem?_append_left hj]at e⊢;exact e
      . rw[List.getElem?_append_right (by omega)]at e
        cases hjj:j - σ.length with
        | zero=>rw[hjj]at e;cases e
        | succ t=>rw[hjj]at e;simp at e
    . obtain⟨o,e,d⟩:=T.obj _ _ st5 b hb;exact(I'.pin (b,o) (List.mem_append_right _ (List.mem_append_right _ (d9 hb e)))).2.1
   cases c with
   | false =>
    rw[if_neg Bool.false_ne_true]at q7⊢;exact back I7 q7
   | true =>
    rw[if_pos rfl]at q7⊢;refine wpAny_mono (hel _ s7 _ H7 _ I7 q7) (fun v s8 ⟨z,H8,I8,r8,hD8,hl8,n8⟩=>?_) fun e s h=>noX e s h;have mt:MtM Y "list.append" jU:=bN;refine wpAny_mono (mt _ s8 _ H8 (.ref D) [z] (.ref D) [v] (fun _ H'=>N (ys++[z]) H') I8 rfl (.cons r8 .nil) ⟨D,ys,z,rfl,rfl,hD8,hl8,n8⟩) (fun _ s9 ⟨_,H9,I9,_,n9⟩=>back I9 n9) fun e s h=>noX e s h
theorem i5 {M:List Str}{scN:List (Str×NameKind)}{pins:List (Addr×Obj)}{s:Shared}{σ:St}{H:Hp}{use:Option (Value->Sem Unit)}{Z:Value->Shared->Prop}{G:VK}{pos2:Pos}(S:CompS scN X.N M x scope)(hsc:X.env.scope.names=scN)(hc:X.calm=true)(hi:PI X (.Name x px) iter wi)(hif:∀cl s H fp,PF (bJ X scope cl M s H fp) ifs tf)(hel:∀cl s H fp,PE (bJ X scope cl M s H fp) elt te)(hs:∀v,foldedSetIterable iter X.env v=pure v)(I:Inv X pins σ H s)(h:kF wi tf te σ H G)(fin:∀(s3:Shared) (H3:Hp) (fp:List Addr) (cl:List (Str×Addr)) (D:Addr) (H':Hp) (s':Shared),Inv X pins σ H3 s3->(∀b∈fp,FpOk X pins H3 b)->Inv (bJ X scope cl M s3 H3 fp) pins (σ++[none]) H' s'->G (.ref D) H'->compPost (model X.prog X.w) X.A X.xe use Z (.ref D) s3.heap.objs.size (.ok .next) s'):wpAny (model X.prog X.w) X.A (comprehension (.ListComp elt [⟨.Name x px,iter,ifs,0⟩] scope pos) scope X.env pos2 (newList []) false (eval iter X.env) use) Z X.xe s:=by
 obtain⟨cl,hclo,hcl1,hcl2⟩:=closure_ok (scope:=scope) (env:=X.env) fun p hp hf=>I.ok.has p.1 (by have q:=S.fr p hp hf;rw[←hsc]at q;exact q)
 refine wpAny_comprehension_free rfl hs hclo S.kind (fun y hy hl=>by rw[cK S.keys hy,hl]) (thn (hi pins s σ H _ I h) fun v s1 h1=>thn h1 fun itv s2 h2=>?_)
 obtain⟨it,fp,tn,J,H2,e,I2,T,st2,f2,q⟩:=h2;subst e;refine wpAny_newObj_type ?_;have fr:H2 s2.heap.objs.size=none:=I2.hok.fresh (Nat.le_refl _);have I3:Inv X pins σ (upd H2 s2.heap.objs.size (.lst [])) { s2 with heap:=s2.heap.push { cls:=.type "list",dict:=none,data:=.seq ([]:List Value).toArray } }:=
  I2.laid (t':=s2.toks) (fun b u e=>Heap.get?_push_of_some _ e) (Nat.le_refl _) ⟨Nat.zero_le _,[],0,.nil,Heap.get?_push_size _ rfl⟩
 obtain⟨W,w0,turn⟩:=q s2.heap.objs.size fr;have hlt2:∀b∈fp,b < s2.heap.objs.size:=fun b hb=>let ⟨o,e,_⟩:=T.obj 0 _ st2 b hb;Heap.lt_size e
 have f3:∀b∈fp,FpOk X pins (upd H2 s2.heap.objs.size (.lst [])) b:=fun b hb=>⟨by rw[ac (Nat.ne_of_lt (hlt2 b hb))];exact(f2 b hb).1,(f2 b hb).2⟩
 refine newEnv_comp fun h4 hns hk hcell cenv hcenv hloc=>?_;rw[hcenv,hloc];have hlt3:∀b∈fp,b < ({ s2 with heap:=s2.heap.push { cls:=.type "list",dict:=none,data:=.seq ([]:List Value).toArray } }:Shared).heap.objs.size:=fun b hb=>by
  show b < (s2.heap.push _).objs.size;rw[Heap.size_push];exact Nat.lt_succ_of_lt (hlt2 b hb)
 have J4:=comp_start I3 S hsc hcl1 hcl2 f3 hlt3 hns hk hcell;have st4:tn 0 h4:=T.keep 0 _ _ st2 fun b hb o e=>hk b o (Heap.get?_push_of_some _ e);have f4:∀b∈fp,FpOk (bJ X scope cl M { s2 with heap:=s2.heap.push { cls:=.type "list",dict:=none,data:=.seq ([]:List Value).toArray } } (upd H2 s2.heap.objs.size (.lst [])) fp) pins (upd H2 s2.heap.objs.size (.lst [])) b:=fun b hb =>
  ⟨(f3 b hb).1,(J4.ok.exf b hb).1,J4.ok.exfs b hb,.inl hb,(J4.ok.exf b hb).2,(f3 b hb).2.2.2.2.2⟩
 have loc:Loc (relabel scope X.env) x/\((bJ X scope cl M { s2 with heap:=s2.heap.push { cls:=.type "list",dict:=none,data:=.seq ([]:List Value).toArray } } (upd H2 s2.heap.objs.size (.lst [])) fp).fn x=true∨(relabel scope X.env).names.lookup x=some .local):=by
  rcases S.own with z | z
  . have q:=lookup_relabel_local (env:=X.env) z;exact⟨.inl q,.inr q⟩
  . refine⟨.inr ?_,.inl ?_⟩
    . exact bZ z
    . show(scope.names.lookup x == some NameKind.cell)=true;rw[z];rfl
 have loop:∀s5:Shared,s5={ ({ s2 with heap:=s2.heap.push { cls:=.type "list",dict:=none,data:=.seq ([]:List Value).toArray } }:Shared)with heap:=h4 } →
  codeAny (model X.prog X.w) X.A (.compLoop (.ListComp elt [⟨.Name x px,iter,ifs,0⟩] scope pos) 0 (.ref it) (.ref s2.heap.objs.size) (compEnvC scope (cellsFrom (({ s2 with heap:=s2.heap.push { cls:=.type "list",dict:=none,data:=.seq ([]:List Value).toArray } }:Shared).heap.objs.size+1) scope.names cl) ({ s2 with heap:=s2.heap.push { cls:=.type "list",dict:=none,data:=.seq ([]:List Value).toArray } }:Shared).heap.objs.size X.env))
   (compPost (model X.prog X.w) X.A X.xe use Z (.ref s2.heap.objs.size) ({ s2 with heap:=s2.heap.push { cls:=.type "list",dict:=none,data:=.seq ([]:List Value).toArray } }:Shared).heap.objs.size) s5:=by
  rintro s5 rfl;exact comp_turns (Y:=bJ X scope cl M { s2 with heap:=s2.heap.push { cls:=.type "list",dict:=none,data:=.seq ([]:List Value).toArray } } (upd H2 s2.heap.objs.size (.lst [])) fp)
   (Q:=fun H'=>G (.ref s2.heap.objs.size) H') hc rfl S.nd I.len S.last loc.1 loc.2 T f4 st4 J4 (hif _ _ _ _) (hel _ _ _ _) W w0 turn fun H' s' J' g=>fin _ _ fp cl _ H' s' I3 f3 J' g
 exact codeAny_compStart_list (loop _ rfl) (T.self _ 0 _ _ _ st4 (loop _ rfl))
theorem bK (scN:List (Str×NameKind))(N M:List Str)(hi:PI X (.Name x px) iter wi)(hif:∀cl s H fp,PF (bJ X scope cl M s H fp) ifs tf)(hel:∀cl s H fp,PE (bJ X scope cl M s H fp) elt te)(S:CompS scN N M x scope:=by first | exact⟨rfl,by decide +kernel,by decide +kernel,by decide +kernel,rfl,rfl,.inl rfl,by decide +kernel⟩ | exact⟨rfl,by decide +kernel,by decide +kernel,by decide +kernel,rfl,rfl,.inr rfl,by decide +kernel⟩)
 (hN:X.N=N:=by rfl) (hsc:X.env.scope.names=scN:=by rfl) (hc:X.calm=true:=by rfl) (hs:∀v,foldedSetIterable iter X.env v=pure v:=by intro _;rfl):PE X (.ListComp elt [⟨.Name x px,iter,ifs,0⟩] scope pos) (kF wi tf te):=by
 intro pins s σ H Q I h;subst hN;rw[eval_ListComp];refine i5 (use:=none) S hsc hc hi hif hel hs I h fun s3 H3 fp cl D H' s' I3 f3 J' g=>?_;obtain⟨m,hn,_⟩:=J'.loc;exact⟨m,hn,fun h' hs'=>⟨.ref D,H',i4 I3 (i6 I3 f3 J') J'.free hs',rfl,g⟩⟩
def tSetC (j:Nat)(te:TE):TS:=fun D σ H=>te σ H fun v H'=>D.nx (σ.set j (some v)) H'
theorem ix (scN:List (Str×NameKind))(N M:List Str)(j:Nat){y:Str}{py spos:Pos}(hn:X.N.Nodup)(hj:X.N[j]? = some y)(hy:Loc X.env.scope y)(hi:PI X (.Name x px) iter wi)(hif:∀cl s H fp,PF (bJ X scope cl M s H fp) ifs tf)(hel:∀cl s H fp,PE (bJ X scope cl M s H fp) elt te)(S:CompS scN N M x scope:=by first | exact⟨rfl,by decide +kernel,by decide +kernel,by decide +kernel,rfl,rfl,.inl rfl,by decide +kernel⟩ | exact⟨rfl,by decide +kernel,by decide +kernel,by decide +kernel,rfl,rfl,.inr rfl,by decide +kernel⟩)
 (hN:X.N=N:=by rfl) (hsc:X.env.scope.names=scN:=by rfl) (hc:X.calm=true:=by rfl)
 (hsw:swapsWith (.ListComp elt [⟨.Name x px,iter,ifs,0⟩] scope pos) (some (.Name y py)) spos.line X.env=pure true:=by rfl) (hs:∀v,foldedSetIterable iter X.env v=pure v:=by intro _;rfl)
 (hf:X.fn y=true∨X.env.scope.names.lookup y=some .local:=by first | exact .inl rfl | exact .inr rfl | assumption) :
 PS X (.Assign [.Name y py] (.ListComp elt [⟨.Name x px,iter,ifs,0⟩] scope pos) spos) (tSetC j (kF wi tf te)):=by
 intro pins s σ H D I h;subst hN;rw[exec_Assign_Name_used _ _ _ _ hsw];refine wpAny_bind (wpAny_standAt (wpAny_bind ?_));show wpAny _ _ (do let _ ←comprehension (.ListComp elt [⟨.Name x px,iter,ifs,0⟩] scope pos) scope X.env _ (newList []) false (eval iter X.env) (some (assign (.Name y py) X.env))) _ _ s
 refine wpAny_bind (wpAny_mono (i5 (use:=some (assign (.Name y py) X.env)) (Z:=fun _ s'=>SP X pins D .next s') S hsc hc hi hif hel hs I h fun s3 H3 fp cl A H' s' I3 f3 J' g=>?_) (fun _ s' hq=>wpAny_pure (wpAny_pure hq)) fun _ _ e=>e);obtain⟨m,hns,_⟩:=J'.loc;show wpAny _ _ (assign (.Name y py) X.env (.ref A)) _ _ _;refine wpAny_assign_Name (gP (i6 I3 f3 J') hn hj hy (v:=.ref A) rfl (fun s'' J'' hch=>?_) hf);obtain⟨a,sb,ha⟩:=hch;have hne:s3.heap.objs.size≠a:=by
  rcases ha with z | z
  . rw[z];exact Nat.ne_of_gt I3.lt
  . obtain⟨v,q⟩:=I3.cell y a z;exact Nat.ne_of_gt q.lt
 exact⟨m,hns.sameBut sb hne,fun h' hs'=>⟨_,H',i4 I3 J'' J'.free hs',g⟩⟩
end
end L2
namespace L2
open PySem PySem.Spec PyProof.Rows
section
variable {X:Cx}{pins:List (Addr×Obj)}{σ:St}{H:Hp}{s:Shared}{scope:Scope}{cl:List (Str×Addr)}{M:List Str}{kn:Nat}{fp:List Addr}{scN:List (Str×NameKind)}
end
section
variable {X:Cx}{elt iter:Expr}{ifs:List Expr}{scope:Scope}{pos:Pos}{tg:Expr}{kn:Nat}{g:TG}{wi:TI}{tf:TT}{te:TE}
end
end L2
namespace L2
open PySem PySem.Spec PyProof.Rows
section
variable {X:Cx}{pins:List (Addr×Obj)}{σ:St}{H:Hp}{s:Shared}{a:Addr}{kvs:List (Key×V)}{o:Obj}
theorem Inv.freeze (I:Inv X pins σ H s)(e:H a=some (.dK kvs))(ho:s.heap.get? a=some o):Inv X pins σ (upd H a (.frz o (.dK kvs))) s:=by
 have nn:∀b,H b=none->b≠a:=fun b n z=>by rw[z,e]at n;cases n
 have nk:∀b u,H b=some u->u≠.dK kvs->b≠a:=fun b u q d z=>by rw[z,e]at q;exact d (Option.some.inj q).symm
 have un:Un X.fs [] H (upd H a (.frz o (.dK kvs))) s.heap s.heap:=
  ⟨fun b ob q _ _ _=>q,fun b ob q _ _ _=>⟨ob.slots,q⟩,fun b ob _ n _=>by rw[ac (nn b n)];exact n,fun b ob q _=>⟨ob,q⟩,
   fun b xs q=>by rw[ac (nk b _ q (fun z=>nomatch z))];exact q,fun b ob u q=>by rw[ac (nk b _ q (fun z=>nomatch z))];exact q,fun b ps q=>⟨#[],by rw[ac (nk b _ q (fun z=>nomatch z)),q];simp⟩⟩
 have ok:HOk X.prog X.w (upd H a (.frz o (.dK kvs))) s.heap:=fun b u q=>by
  have stay:∀{v:HO},ObjOk X.prog X.w H s.heap b v->ObjOk X.prog X.w (upd H a (.frz o (.dK kvs))) s.heap b v:=fun{v} x =>
   x.stay (fun _ _ _ z=>z) (fun c z=>by rw[ac (nk c _ z (fun z=>nomatch z))];exact z) fun c u pu z=>by rw[ac (nk c _ z (fun e=>by rw[e]at pu;exact pu))];exact z
  by_cases hb:b=a
  . subst hb;rw[a9]at q;cases q;exact⟨ho,stay (I.hok b _ e)⟩
  . rw[ac hb]at q;exact stay (I.hok b u q)
 exact I.un (h':=s.heap) (t':=s.toks) un ok
theorem Inv.thaw {u:HO}(I:Inv X pins σ H s)(e:H a=some (.frz o u))(hu:(∀xs,u≠.tup xs)/\(∀ps,u≠.tbl ps))(h0:∀o' u',X.H₀ a≠some (.frz o' u')):Inv X pins σ (upd H a u) s:=by
 have nn:∀b,H b=none->b≠a:=fun b n z=>by rw[z,e]at n;cases n
 have nk:∀b v,H b=some v->v≠.frz o u->b≠a:=fun b v q d z=>by rw[z,e]at q;exact d (Option.some.inj q).symm
 have ok:HOk X.prog X.w (upd H a u) s.heap:=fun b v q=>by
  have stay:∀{v:HO},ObjOk X.prog X.w H s.heap b v->ObjOk X.prog X.w (upd H a u) s.heap b v:=fun{v} x =>
   x.stay (fun _ _ _ z=>z) (fun c z=>by rw[ac (nk c _ z (fun z=>nomatch z))];exact z) fun c u pu z=>by rw[ac (nk c _ z (fun e=>by rw[e]at pu;exact pu))];exact z
  by_cases hb:b=a
  . subst hb;rw[a9]at q;cases q;exact stay (show ObjOk X.prog X.w H s.heap b (.frz o u)from I.hok b _ e).2
  . rw[ac hb]at q;exact stay (I.hok b v q)
 refine⟨I.ok,I.os,I.bare,⟨I.base.keep,I.base.slot,fun b ob q n hx=>?_,I.base.there,fun b xs q=>?_,fun b ob v q=>?_,fun b ps q=>?_⟩,I.loc,I.cell,?_,fun y c h=>?_,fun p hp=>?_,ok,I.len⟩
 . have z:=I.base.free b ob q n hx;rw[ac (nn b z)];exact z
 . have z:=I.base.tups b xs q;rw[ac (nk b _ z (fun z=>nomatch z))];exact z
 . have z:=I.base.frzs b ob v q;have hb:b≠a:=fun hb=>h0 ob v (hb▸q);rw[ac hb];exact z
 . obtain⟨more,z⟩:=I.base.tbls b ps q;exact⟨more,by rw[ac (nk b _ z (fun z=>nomatch z))];exact z⟩
 . rw[ac (nn _ I.free)];exact I.free
 . rw[ac (nn _ (I.freeC y c h))];exact I.freeC y c h
 . obtain⟨h1,h2,h3⟩:=I.pin p hp;exact⟨h1,by rw[ac (nn _ h2)];exact h2,h3⟩
end
def Itd (a:Addr)(o:Obj)(kvs:List (Key×V)):It:=
 ⟨fun i H=>H a=some (.frz o (.dK kvs))/\i < kvs.length,fun i H x H'=>H'=H/\∃kv,kvs[i]? = some kv/\x=kV kv.1,fun i H=>H a=some (.frz o (.dK kvs))/\kvs.length≤i⟩
theorem relV_key {P:Program}{w:World}{k:Key}{u:Value}(h:(aR P w).is k u=true):RelV (kV k) u:=by
 rcases aZ (show fz k u=true from h)with⟨i,t,rfl,rfl⟩ | ⟨x,t,rfl,rfl⟩
 . exact⟨t,rfl⟩
 . exact⟨t,rfl⟩
theorem KV.len {kvs:List (Key×V)}{vs:List (Key×Value)}(r:KV kvs vs):kvs.length=vs.length:=Paired.length r
theorem KV.at {kvs:List (Key×V)}{vs:List (Key×Value)}(r:KV kvs vs):∀{i:Nat} {p:Key×V},kvs[i]? = some p->∃q,vs[i]? = some q/\p.1=q.1:=by
 induction r with
 | nil=>intro i p e;simp at e
 | cons h t ih =>
  intro i p e;cases i with
  | zero=>simp at e;subst e;exact⟨_,rfl,h.1⟩
  | succ i=>exact ih (by simpa using e)
theorem turn_dict {P:Program}{w:World}{K:PySem.W.Frag}{tg:Expr}(a it:Addr)(o:Obj)(kvs:List (Key×V))(ep:Nat)(es:Array DictEntry)(hd:o.data = .dict es ep) :
 Turn P w K tg (Itd a o kvs) [it] it (fun i h=>h.IsKeyIter it a i kvs.length ep) where
 mem:=by simp
 obj:=fun i h st b hb=>by
  have e:b=it:=by simpa using hb
  subst e;obtain⟨o,e,c,d⟩:=st;exact⟨o,e,fun v z=>by rw[d]at z;cases z⟩
 keep:=fun i h h' st k=>st.at fun o e=>k it (by simp) o e
 item:=by
  intro X hP hw hK hc i pins s σ H E I hf st hg;subst hP hw hK;obtain⟨ha,hi⟩:=hg;obtain⟨ho,hz,_,vs,rel,o',es',ep',h1,h2,h3,h4⟩:=(show ObjOk X.prog X.w H s.heap a (.frz o (.dK kvs))from I.hok a _ ha)
  rw[ho]at h1;cases h1;rw[hd]at h3;cases h3;have da:s.heap.DictAt (aR X.prog X.w) a vs ep:=⟨o,es,ho,h2,hd,h4⟩;obtain⟨f0,f1,f2,f3,f4,f5⟩:=hf it (by simp)
  obtain⟨kv,hkv⟩:∃kv,kvs[i]? = some kv:=⟨kvs[i],by simp[hi]⟩
  obtain⟨q,hq,ek⟩:=rel.at hkv;obtain⟨qk,qv⟩:=q;rw[rel.len]at st;refine wpAny_pyNext_dict_item st da hq fun key h' hkey st' sb=>?_;have I1:Inv X pins σ H { s with heap:=h' }:=I.turned (t':=s.toks) (fun b o hb e=>(sb.2 b hb).trans e) f0 f1 f3 f4 f5
  obtain⟨oi,e,c,d⟩:=id st';refine⟨key,rfl,lm (s:={ s with heap:=h' }) e c d (by decide) ⟨kV kv.1,H,I1,relV_key (P:=X.prog) (w:=X.w) (by rw[ek];exact hkey),⟨rfl,kv,hkv,rfl⟩,by rw[rel.len];exact st',fun b hb=>(hf b hb).1⟩⟩
 done:=by
  intro X hP hw hK hc i pins s σ H E I hf st hg;subst hP hw hK;obtain⟨ha,hi⟩:=hg;obtain⟨ho,hz,_,vs,rel,o',es',ep',h1,h2,h3,h4⟩:=(show ObjOk X.prog X.w H s.heap a (.frz o (.dK kvs))from I.hok a _ ha)
  rw[ho]at h1;cases h1;rw[hd]at h3;cases h3;have da:s.heap.DictAt (aR X.prog X.w) a vs ep:=⟨o,es,ho,h2,hd,h4⟩;obtain⟨f0,f1,f2,f3,f4,f5⟩:=hf it (by simp)
  have hl:=rel.len;rw[rel.len]at st;exact wpAny_pyNext_dict_end (I.ok.hd hc) st da (by simp;omega) fun h' eb=>⟨rfl,I.turned (t':=s.toks) (fun b o hb e=>eb b o hb e) f0 f1 f3 f4 f5⟩
 self:=fun _ _ _ _ _ st h=>wpAny_pyIter_keyiter st h
section
variable {X:Cx}{tg:Expr}
def iDict (td:TE):TI:=fun σ H R=>td σ H fun x H1=>∃a kvs,x = .ref a/\H1 a=some (.dK kvs)/\∀o,R (Itd a o kvs) (upd H1 a (.frz o (.dK kvs)))
theorem k3 {l:Expr}{td:TE}(hl:PE X l td):PI X tg l (iDict td):=by
 intro pins s σ H R I h;refine thn (hl pins s σ H _ I h) fun v s1 ⟨x,H1,I1,r1,q1⟩=>?_;obtain⟨a,kvs,e,ha,q⟩:=q1;subst e;cases r1;obtain⟨hz,hm,vs,rel,o,es,ep,h1,h2,h3,h4⟩:=(show ObjOk X.prog X.w H1 s1.heap a (.dK kvs)from I1.hok a _ ha)
 refine wpAny_pyIter_dict (knd:=aR X.prog X.w) hm ⟨o,es,h1,h2,h3,h4⟩ ?_;have I2:=I1.freeze ha h1;refine⟨s1.heap.objs.size,[s1.heap.objs.size],_,_,_,rfl,I2.kept (t':=s1.toks) fun b o e=>Heap.get?_push_of_some _ e,turn_dict a _ o kvs ep es h3,⟨_,Heap.get?_push_size _ rfl,rfl,by rw[rel.len];rfl⟩,fun b hb=>?_,q o⟩
 have e:b=s1.heap.objs.size:=by simpa using hb
 subst e;exact I2.fpOk (Nat.le_refl _) (I2.hok.fresh (Nat.le_refl _))
end
def tThaw (t:TS):TS:=fun D σ H=>t { nx:=fun σ' H'=>∃a o kvs,H' a=some (.frz o (.dK kvs))/\(∀o' u',H a≠some (.frz o' u'))/\D.nx σ' (upd H' a (.dK kvs)),rt:=fun _ _=>False } σ H
theorem jW {X:Cx}{st:Stmt}{t:TS}(h:PS X st t):PS X st (tThaw t):=by
 intro pins s σ H D I q;refine thn (h pins s σ H _ I q) fun f s' z=>?_;cases f with
 | next =>
  obtain⟨σ',H',I',a,o,kvs,ha,hn,n⟩:=z;exact⟨σ',_,I'.thaw ha ⟨(fun _ z=>nomatch z),(fun _ z=>nomatch z)⟩ (fun o' u' e=>hn o' u' (I.base.frzs a o' u' e)),n⟩
 | brk=>obtain⟨_,_,_,z⟩:=z;exact z.elim
 | cont=>obtain⟨_,_,_,z⟩:=z;exact z.elim
 | ret v=>obtain⟨_,_,_,_,_,z⟩:=z;exact z.elim
theorem jl {a:Addr}{o:Obj}{kvs:List (Key×V)}{g:TG}{tb:TS}{D:Ends}{σ:St}{H:Hp}(Pv:Nat->St->Hp->Prop)(h0:Pv 0 σ H)(hl:∀i σ H,i≤kvs.length->Pv i σ H->H a=some (.frz o (.dK kvs)))(hs:∀i kv σ H,kvs[i]? = some kv->Pv i σ H->g (kV kv.1) σ H fun σ2 H2=>tb { D with nx:=Pv (i+1),ct:=Pv (i+1),bk:=D.nx } σ2 H2)(hd:∀σ H,Pv kvs.length σ H->D.nx σ H) :
 ∃W:Nat->Nat->St->Hp->Prop,(∃m,W 0 m σ H)/\∀i m σ H,W i m σ H →
  ((Itd a o kvs).stop i H/\D.nx σ H)∨((Itd a o kvs).go i H/\∃N:St->Hp->Prop,(∀σ' H',N σ' H'->∃m',m' < m/\W (i+1) m' σ' H')/\∀x H',(Itd a o kvs).yld i H x H'->g x σ H' fun σ2 H2=>tb { D with nx:=N,ct:=N,bk:=D.nx } σ2 H2):=by
 refine⟨fun i m σ H=>m=kvs.length - i/\i≤kvs.length/\Pv i σ H,⟨kvs.length,by simp,Nat.zero_le _,h0⟩,?_⟩
 rintro i m σ H ⟨rfl,hi,p⟩;have q:=hl i σ H hi p;by_cases hlt:i < kvs.length
 . refine .inr ⟨⟨q,hlt⟩,Pv (i+1),fun σ' H' p'=>⟨kvs.length - (i+1),by omega,rfl,hlt,p'⟩,fun x H' y=>?_⟩
   obtain⟨e,kv,hkv,ex⟩:=y;subst e ex;exact hs i kv σ _ hkv p
 . have e:i=kvs.length:=by omega
   subst e;exact .inl ⟨⟨q,Nat.le_refl _⟩,hd σ H p⟩
end L2
namespace L2
open PySem PySem.Spec PyProof.Rows
section
variable {X:Cx}
theorem keptIter {s:Shared}{h':Heap}{o:Obj}(hk:∀b x,b∉[s.heap.objs.size]->(s.heap.push o).get? b=some x->h'.get? b=some x):∀b x,s.heap.get? b=some x->h'.get? b=some x:=
 fun b x e=>hk b x (fun hm=>by rw[List.mem_singleton.mp hm]at e;exact Nat.lt_irrefl _ (Heap.lt_size e)) (Heap.get?_push_of_some _ e)
theorem range_all (bs:List Bool):((List.range bs.length).all fun i=>(bs[i]?).getD true)=bs.all id:=by
 rw[Bool.eq_iff_iff,List.all_eq_true,List.all_eq_true];constructor
 . intro h b hb;obtain⟨i,hi,rfl⟩:=List.getElem_of_mem hb;have q:=h i (List.mem_range.mpr hi);simpa [List.getElem?_eq_getElem hi] using q
 . intro h i hi;have hi':=List.mem_range.mp hi;simp only[List.getElem?_eq_getElem hi',Option.getD_some];exact h _ (List.getElem_mem hi')
theorem eU (hc:X.calm=true):cr X (.builtin "all") (fun xs H Q=>∃(p:Addr) (bs:List Bool),xs=[.ref p]/\SqL X.K H p (bs.map V.bl)/\Q (.bl (bs.all id)) H):=by
 intro pins s σ H xs us Q I r h;obtain⟨p,bs,rfl,hp,q⟩:=h;obtain⟨u,rfl,ru⟩:=fi r;cases ru;obtain⟨its,rv,pl,hz⟩:=I.list hp;have hl:s.heap.IsList p its.toArray:=pl.isList;have hlt:p < s.heap.objs.size:=by obtain⟨_,e,_⟩:=hl;exact Heap.lt_size e
 have len:its.length=bs.length:=by have:=rv.length;rw[List.length_map]at this;exact this.symm
 refine call_all_walk (wpAny_pyIter_list hl ?_);refine⟨s.heap.objs.size,[s.heap.objs.size,p],[s.heap.objs.size],its.toArray.size,_,_,fun i=>(bs[i]?).getD true,rfl,Walks.list (A:=X.A.in1) (I.ok.hd hc) _ p (Nat.ne_of_lt hlt) its.toArray,
  ⟨⟨_,Heap.get?_push_size _ rfl,rfl,rfl⟩,hl.push _⟩,fun i v s' Q' E' hP hQ=>?_,fun h' tk hk=>?_⟩
 . have hv:its[i]? = some v:=by simpa using hP
   have hi:i < bs.length:=by rw[←len];exact(List.getElem?_eq_some_iff.mp hv).1
   obtain⟨u,hu,ru⟩:=rv.get (i:=i) (x:=V.bl bs[i]) (by simp[hi])
   rw[hv]at hu;cases hu;cases ru;simp only[List.getElem?_eq_getElem hi,Option.getD_some]at hQ;exact wpAny_truthy_bool hQ
 . have e:((List.range its.toArray.size).all fun i=>(bs[i]?).getD true)=bs.all id:=by rw[List.size_toArray,len];exact range_all bs
   rw[e];exact⟨.bl _,H,I.kept (keptIter hk),rfl,q⟩
theorem call_sum (hc:X.calm=true):cr X (.builtin "sum") (fun xs H Q=>∃(p:Addr) (ns:List Int),xs=[.ref p]/\SqL X.K H p (ns.map V.int)/\Q (.int ns.sum) H):=by
 intro pins s σ H xs us Q I r h;obtain⟨p,ns,rfl,hp,q⟩:=h;obtain⟨u,rfl,ru⟩:=fi r;cases ru;obtain⟨its,rv,pl,hz⟩:=I.list hp;have hi:=e6 rv;obtain⟨xs,hx⟩:=hi.allInts.items;have hl':s.heap.IsList p (intItems xs):=hx▸pl.isList;refine sum_intListG (I.ok.hd hc) hl' fun h' tk t' hk=>?_;have e1:ns=xs.toList.map (·.1):=by
  rw[←nums_intItems,←hx];exact(show numsOf its.toArray.toList=ns from hi.numsOf).symm
 have e2:preSum (numAt xs) xs.size=ns.sum:=by
  rw[preSum_eq,List.take_of_length_le (by simp),e1]
 rw[e2];exact⟨.int _,H,I.kept hk,⟨_,rfl⟩,q⟩
theorem bX:cr X (.builtin "isinstance") (fun xs H Q=>∃x t n b,xs=[x,.ty n]/\TyOf X.K H x t/\PySem.W.kitOne X.K t (.type n)=some b/\Q (.bl b) H):=by
 intro pins s σ H xs us Q I r h;obtain⟨x,t,n,b,rfl,ty,e,q⟩:=h;obtain⟨u,w',rfl,ru,rw'⟩:=lG r;cases rw';exact isinst_ok I ru ty e fun tk=>⟨.bl b,H,I.tok tk,rfl,q⟩
theorem Vals.ins {xs:List V}{us:List Value}{y:V}{u:Value}(r:Vals xs us)(ry:RelV y u)(k:Nat):Vals (xs.take k++y::xs.drop k) (us.take k++u::us.drop k):=(r.take k).append (.cons ry (r.drop k))
def rInsert:V->List V->Hp->VK->Prop:=fun x vs H Q=>∃l xs k y,x = .ref l/\vs=[.int ((k:Nat):Int),y]/\H l=some (.lst xs)/\k≤xs.length/\xs.length < sizeLine/\Q .non (upd H l (.lst (xs.take k++y::xs.drop k)))
theorem gZ:MtM X "list.insert" rInsert:=by
 intro pins s σ H x vs v us Q I rx rv h;obtain⟨l,xs,k,y,rfl,rfl,hH,hk,hz,q⟩:=h;cases rx;obtain⟨u,w',rfl,ru,ry⟩:=rv.two;obtain⟨t,rfl⟩:=ru;obtain⟨z,its,n,r,hl,e⟩:=I.lstM hH;have sl:(sizeLine:Nat) < 2 ^ 63:=iE;have hf:Builtin.List.listFitsIndex ((k:Nat):Int)=true:=by
  unfold Builtin.List.listFitsIndex;simp only[Bool.and_eq_true,decide_eq_true_eq];constructor<;>omega
 have hsz:its.toArray.size≤sizeLine:=by rw[List.size_toArray,←hl];exact z
 have hnf:¬(!Builtin.List.listFitsIndex ((k:Nat):Int))=true:=by rw[hf];decide
 have hneg:¬(((k:Nat):Int) < 0):=by omega
 have hmin:min ((k:Nat):Int).toNat its.toArray.size=k:=by rw[List.size_toArray];omega
 clear hf;revert hnf hneg hmin;generalize ((k:Nat):Int)=x;intro hnf hneg hmin;refine call_meets F.slot_list_insert ⟨_,e,rfl⟩ F.entry_list_insert (F.args_list_insert_3 _ _ _) (PySem.AutoSeq1.list_insert_list_int_val_1 l its.toArray n x t w' hnf hsz) ⟨e,?_⟩;refine⟨.non,_,I.lset (its':=its.take k++w'::its.drop k) hH e ?_ (r.ins ry k) ?_,rfl,q⟩
 . first
    | (simp only[hneg,if_false,hmin];exact PySem.W.kl_ins_eq its k w')
    | (simp only[if_neg hneg,hmin];exact PySem.W.kl_ins_eq its k w')
 . rw[List.length_append,List.length_cons,List.length_take,List.length_drop];omega
def eqVs (xs ys:List V):Bool:=xs.length == ys.length&&(List.range xs.length).all fun j=>eqV (xs.getD j .non) (ys.getD j .non)
theorem fQ {A:Around}{pins:List (Addr×Obj)}{s:Shared}{σ:St}{H:Hp}{a b:Addr}{xs ys:List V}(I:Inv X pins σ H s)(ha:SqL X.K H a xs)(hb:SqL X.K H b ys)(fx:xs.all bR=true)(fy:ys.all bR=true)(hu:A.units < cLine):SeqAt.RcAt A s (.ref a) (.ref b) (eqVs xs ys)/\SeqAt.RcNeAt A s (.ref a) (.ref b) (!eqVs xs ys):=by
 obtain⟨us,ru,pu,_⟩:=I.list ha;obtain⟨vs,rv,pv,_⟩:=I.list hb;have l1:=ru.length;have l2:=rv.length;by_cases hl:xs.length=ys.length
 . have he:∀j (h1:j < us.toArray.size) (h2:j < vs.toArray.size),SeqAt.EqAt A.in1 s us.toArray[j] vs.toArray[j] (eqV (xs.getD j .non) (ys.getD j .non)):=fun j h1 h2=>by
    rw[List.size_toArray]at h1 h2;have hj1:j < xs.length:=by omega
    have hj2:j < ys.length:=by omega
    obtain⟨u,hu,ru'⟩:=ru.get (i:=j) (x:=xs[j]) (by simp[hj1])
    obtain⟨v,hv,rv'⟩:=rv.get (i:=j) (x:=ys[j]) (by simp[hj2])
    have e1:us.toArray[j]=u:=by
     have:=List.getElem?_eq_some_iff.mp hu;obtain⟨_,q⟩:=this;simpa using q
    have e2:vs.toArray[j]=v:=by
     obtain⟨_,q⟩:=List.getElem?_eq_some_iff.mp hv;simpa using q
    have g1:xs.getD j .non=xs[j]:=by simp[List.getD_eq_getElem?_getD,hj1]
    have g2:ys.getD j .non=ys[j]:=by simp[List.getD_eq_getElem?_getD,hj2]
    rw[e1,e2,g1,g2];exact fg ru' rv' (List.all_eq_true.mp fx _ (List.getElem_mem hj1)) (List.all_eq_true.mp fy _ (List.getElem_mem hj2))
   have hsz:us.toArray.size=vs.toArray.size:=by rw[List.size_toArray,List.size_toArray];omega
   have e:eqVs xs ys=(List.range us.toArray.size).all fun j=>eqV (xs.getD j .non) (ys.getD j .non):=by
    unfold eqVs;rw[beq_iff_eq.mpr hl,Bool.true_and,List.size_toArray,←l1]
   rw[e];exact⟨SeqAt.RcAt.lists pu.isList pv.isList hsz hu he,SeqAt.RcNeAt.lists pu.isList pv.isList hsz hu he⟩
 . have hsz:(us.toArray.size != vs.toArray.size)=true:=by
    rw[bne_iff_ne,List.size_toArray,List.size_toArray];omega
   have e:eqVs xs ys=false:=by
    unfold eqVs;rw[beq_eq_false_iff_ne.mpr hl,Bool.false_and]
   rw[e];exact⟨SeqAt.RcAt.lists_lengths pu.isList pv.isList hsz hu,SeqAt.RcNeAt.lists_lengths pu.isList pv.isList hsz hu⟩
def rEqL (K:PySem.W.Frag)(neg:Bool):R2:=fun x y H Q=>∃a b xs ys,x = .ref a/\y = .ref b/\SqL K H a xs/\SqL K H b ys/\xs.all bR=true/\ys.all bR=true/\Q (.bl (if neg then !eqVs xs ys else eqVs xs ys)) H
theorem op_eqL (hu:X.A.units < cLine):OpR X (compareOp .Eq) (rEqL X.K false):=by
 intro pins s σ H x y v u Q I rx ry h;obtain⟨a,b,xs,ys,rfl,rfl,ha,hb,fx,fy,q⟩:=h;cases rx;cases ry;exact(fQ I ha hb fx fy hu).1 _ _ _ _ ⟨.bl _,H,I,rfl,q⟩
theorem op_neL (hu:X.A.units < cLine):OpR X (compareOp .NotEq) (rEqL X.K true):=by
 intro pins s σ H x y v u Q I rx ry h;obtain⟨a,b,xs,ys,rfl,rfl,ha,hb,fx,fy,q⟩:=h;cases rx;cases ry;exact(fQ I ha hb fx fy hu).2 _ _ _ _ ⟨.bl _,H,I,rfl,q⟩
structure Rows2 (K:PySem.W.Frag) (H:Hp) (a:Addr) (as:List Addr) (xss:List (List V)):Prop where
 at':SqL K H a (as.map V.ref)
 len:as.length=xss.length
 row:∀(i:Nat) (p:Addr) (xs:List V),as[i]? = some p->xss[i]? = some xs->SqL K H p xs/\xs.all bR=true
theorem rc_rows {A:Around}{pins:List (Addr×Obj)}{s:Shared}{σ:St}{H:Hp}{a b:Addr}{as bs:List Addr}{xss yss:List (List V)}(I:Inv X pins σ H s)(ha:Rows2 X.K H a as xss)(hb:Rows2 X.K H b bs yss)(hd:∀p∈as,p∉bs)(hl:xss.length=yss.length)(hu:A.units+1 < cLine):SeqAt.RcAt A s (.ref a) (.ref b) ((List.range xss.length).all fun j=>eqVs (xss.getD j []) (yss.getD j [])):=by
 obtain⟨us,ru,pu,_⟩:=I.list ha.at';obtain⟨vs,rv,pv,_⟩:=I.list hb.at';have l1:=ru.length;have l2:=rv.length;rw[List.length_map]at l1 l2;have n1:=ha.len;have n2:=hb.len;have hsz:us.toArray.size=vs.toArray.size:=by rw[List.size_toArray,List.size_toArray];omega
 have e:xss.length=us.toArray.size:=by rw[List.size_toArray];omega
 rw[e];refine SeqAt.RcAt.lists pu.isList pv.isList hsz (Nat.lt_of_succ_lt hu) fun j h1 h2=>?_;rw[List.size_toArray]at h1 h2;have j1:j < as.length:=by omega
 have j2:j < bs.length:=by omega
 have j3:j < xss.length:=by omega
 have j4:j < yss.length:=by omega
 obtain⟨u,hu',ru'⟩:=ru.get (i:=j) (x:=V.ref as[j]) (by simp[j1])
 obtain⟨v,hv',rv'⟩:=rv.get (i:=j) (x:=V.ref bs[j]) (by simp[j2])
 have e1:us.toArray[j] = .ref as[j]:=by
  obtain⟨_,q⟩:=List.getElem?_eq_some_iff.mp hu';cases ru';simpa using q
 have e2:vs.toArray[j] = .ref bs[j]:=by
  obtain⟨_,q⟩:=List.getElem?_eq_some_iff.mp hv';cases rv';simpa using q
 have g1:xss.getD j []=xss[j]:=by simp[List.getD_eq_getElem?_getD,j3]
 have g2:yss.getD j []=yss[j]:=by simp[List.getD_eq_getElem?_getD,j4]
 rw[e1,e2,g1,g2];obtain⟨q1,f1⟩:=ha.row j as[j] xss[j] (by simp[j1]) (by simp[j3])
 obtain⟨q2,f2⟩:=hb.row j bs[j] yss[j] (by simp[j2]) (by simp[j4])
 have ne:as[j]≠bs[j]:=fun e=>hd _ (List.getElem_mem j1) (e▸List.getElem_mem j2);exact SeqAt.EqAt.of_refs ne (fQ (A:=A.in1) I q1 q2 f1 f2 hu).1
theorem eqV_refl:∀{x:V},bR x=true->eqV x x=true:=by
 intro x h;cases x<;>simp_all [bR,eqV]
theorem dN {xs:List V}(h:xs.all bR=true):eqVs xs xs=true:=by
 unfold eqVs;rw[beq_self_eq_true,Bool.true_and,List.all_eq_true];intro j hj;have hj':=List.mem_range.mp hj;have g:xs.getD j .non=xs[j]:=by simp[List.getD_eq_getElem?_getD,hj']
 rw[g];exact eqV_refl (List.all_eq_true.mp h _ (List.getElem_mem hj'))
end
end L2
namespace Tw
abbrev Road:=Int×Int×Int
def Joins (r:Road)(u w:Int):Prop:=(r.1=u/\r.2.1=w)∨(r.1=w/\r.2.1=u)
inductive Tr:List Road->List Int->Prop
 | one (v:Int):Tr [] [v]
 | hang {rs rs':List Road} {vs vs':List Int} {u w:Int} {r:Road}:Tr rs vs->u∈vs->w∉vs->Joins r u w->rs'.Perm (r::rs)->vs'.Perm (w::vs)->Tr rs' vs'
theorem Joins.symm {r:Road}{u w:Int}(h:Joins r u w):Joins r w u:=h.elim .inr .inl
theorem Tr.perm {rs rs':List Road}{vs vs':List Int}(t:Tr rs vs)(hr:rs'.Perm rs)(hv:vs'.Perm vs):Tr rs' vs':=by
 cases t with
 | one v =>
  have e1:=hr.eq_nil;have e2:vs'=[v]:=List.perm_singleton.mp hv;subst e1;subst e2;exact .one v
 | hang t hu hw j p q=>exact .hang t hu hw j (hr.trans p) (hv.trans q)
theorem Tr.length {rs:List Road}{vs:List Int}(t:Tr rs vs):rs.length+1=vs.length:=by
 induction t with
 | one=>rfl
 | hang _ _ _ _ p q ih=>rw[p.length_eq,q.length_eq,List.length_cons,List.length_cons,ih]
theorem Tr.places {rs:List Road}{vs:List Int}(t:Tr rs vs):∀r∈rs,r.1∈vs/\r.2.1∈vs/\r.1≠r.2.1:=by
 induction t with
 | one v=>intro r hr;cases hr
 | @hang rs rs' vs vs' u w r _ hu hw j p q ih =>
  intro x hx;rcases List.mem_cons.mp (p.mem_iff.mp hx)with e | hx
  . subst e;have hu':u∈vs':=q.mem_iff.mpr (List.mem_cons_of_mem _ hu);have hw':w∈vs':=q.mem_iff.mpr List.mem_cons_self;have ne:u≠w:=fun e=>hw (e▸hu);rcases j with⟨a,b⟩ | ⟨a,b⟩
    . rw[a,b];exact⟨hu',hw',ne⟩
    . rw[a,b];exact⟨hw',hu',ne.symm⟩
  . obtain⟨h1,h2,h3⟩:=ih x hx;exact⟨q.mem_iff.mpr (List.mem_cons_of_mem _ h1),q.mem_iff.mpr (List.mem_cons_of_mem _ h2),h3⟩
theorem Tr.whole {rs:List Road}{vs:List Int}(t:Tr rs vs){P:Int->Prop}(h:∀r∈rs,P r.1<->P r.2.1):∀u∈vs,∀v∈vs,P u->P v:=by
 induction t with
 | one x =>
  intro u hu v hv;rw[List.mem_singleton.mp hu,List.mem_singleton.mp hv];exact id
 | @hang rs rs' vs vs' u w r _ hu hw j p q ih =>
  have ih':=ih fun r hr=>h r (p.mem_iff.mpr (List.mem_cons_of_mem _ hr));have hj:=h r (p.mem_iff.mpr List.mem_cons_self);have huw:P u<->P w:=by
   rcases j with⟨a,b⟩ | ⟨a,b⟩
   . rw[a,b]at hj;exact hj
   . rw[a,b]at hj;exact hj.symm
  intro x hx y hy px;have pu:P u:=by
   rcases List.mem_cons.mp (q.mem_iff.mp hx)with e | hx
   . subst e;exact huw.mpr px
   . exact ih' x hx u hu px
  rcases List.mem_cons.mp (q.mem_iff.mp hy)with e | hy
  . subst e;exact huw.mp pu
  . exact ih' u hu y hy pu
def Apart (r q:Road):Prop:=¬(r.1=q.1/\r.2.1=q.2.1)/\¬(r.1=q.2.1/\r.2.1=q.1)
theorem Apart.symm {r q:Road}(h:Apart r q):Apart q r:=⟨fun⟨a,b⟩=>h.1 ⟨a.symm,b.symm⟩,fun⟨a,b⟩=>h.2 ⟨b.symm,a.symm⟩⟩
theorem Tr.apart {rs:List Road}{vs:List Int}(t:Tr rs vs):rs.Pairwise Apart:=by
 induction t with
 | one=>exact .nil
 | @hang rs rs' vs vs' u w r t hu hw j p q ih =>
  refine(p.pairwise_iff (fun h=>h.symm)).mpr (List.pairwise_cons.mpr ⟨fun x hx=>?_,ih⟩);obtain⟨h1,h2,_⟩:=t.places x hx;have n1:w≠x.1:=fun e=>hw (e▸h1);have n2:w≠x.2.1:=fun e=>hw (e▸h2);constructor
  . rintro⟨a,b⟩;rcases j with⟨c,d⟩ | ⟨c,d⟩
    . exact n2 (d.symm.trans b)
    . exact n1 (c.symm.trans a)
  . rintro⟨a,b⟩;rcases j with⟨c,d⟩ | ⟨c,d⟩
    . exact n1 (d.symm.trans b)
    . exact n2 (c.symm.trans a)
end Tw
namespace Tw
def rowI (r:Road):List Int:=[r.1,r.2.1,r.2.2]
def bE (n:Int)(z:List Int):Bool:=match z with
 | [a,b,l]=>decide (0≤a/\a < n)&&decide (0≤b/\b < n)&&!decide (a=b)&&decide (1≤l)
 | _=>false
structure Valid (n:Int) (r:Road):Prop where
 a0:0≤r.1
 a1:r.1 < n
 b0:0≤r.2.1
 b1:r.2.1 < n
 ne:r.1≠r.2.1
 l1:1≤r.2.2
theorem isRoad_iff {n:Int}{z:List Int}:bE n z=true<->∃r,z=rowI r/\Valid n r:=by
 constructor
 . intro h;unfold bE at h
   split at h
   . rename_i a b l;simp only[Bool.and_eq_true,decide_eq_true_eq,Bool.not_eq_true',decide_eq_false_iff_not]at h;obtain⟨⟨⟨h1,h2⟩,h3⟩,h4⟩:=h;exact⟨(a,b,l),rfl,⟨h1.1,h1.2,h2.1,h2.2,h3,h4⟩⟩
   . cases h
 . rintro⟨⟨a,b,l⟩,rfl,v⟩;have:=v.a0;have:=v.a1;have:=v.b0;have:=v.b1;have:=v.ne;have:=v.l1;simp only at *;simp[bE,rowI, *]
theorem gi {n:Int}:∀{zss:List (List Int)},(zss.all (bE n))=true->∃rs:List Road,zss=rs.map rowI/\∀r∈rs,Valid n r
 | [],_=>⟨[],rfl,fun r h=>nomatch h⟩
 | z::t,h=>by
  rw[List.all_cons,Bool.and_eq_true]at h;obtain⟨r,e,v⟩:=isRoad_iff.mp h.1;obtain⟨rs,e2,v2⟩:=gi h.2;exact⟨r::rs,by rw[e,e2];rfl,fun x hx=>by
   rcases List.mem_cons.mp hx with e | hx
   . subst e;exact v
   . exact v2 x hx⟩
theorem iT {r q:Road}(h:rowI r=rowI q):r=q:=by
 obtain⟨a,b,c⟩:=r;obtain⟨d,e,f⟩:=q;unfold rowI at h;simp only[List.cons.injEq]at h;obtain⟨h1,h2,h3,_⟩:=h;subst h1;subst h2;subst h3;rfl
theorem all_roads {n:Int}{rs:List Road}:((rs.map rowI).all (bE n))=true<->∀r∈rs,Valid n r:=by
 rw[List.all_eq_true];constructor
 . intro h r hr;obtain⟨q,e,v⟩:=isRoad_iff.mp (h (rowI r) (List.mem_map.mpr ⟨r,hr,rfl⟩));rw[iT e];exact v
 . intro h z hz;obtain⟨r,hr,rfl⟩:=List.mem_map.mp hz;exact isRoad_iff.mpr ⟨r,rfl,h r hr⟩
def Conn (n:Int)(rs:List Road):Prop:=∀P:Int->Prop,P 0->(∀r∈rs,P r.1<->P r.2.1)->∀v,0≤v->v < n->P v
structure IsTree (n:Int) (zss:List (List Int)):Prop where
 lo:1≤n
 hi:n≤12
 len:(zss.length:Int)=n - 1
 ex:∃rs:List Road,zss=rs.map rowI/\(∀r∈rs,Valid n r)/\Conn n rs
def put (d:List (Int×Int))(k v:Int):List (Int×Int):=
 if (d.any fun p=>decide (p.1=k))=true then d.map (fun p=>if p.1=k then (p.1,v)else p)else d++[(k,v)]
def nb1 (v:Int)(d:List (Int×Int))(r:Road):List (Int×Int):=
 if r.1=v then put d r.2.1 r.2.2 else if r.2.1=v then put d r.1 r.2.2 else d
def nbOf (rs:List Road)(v:Int):List (Int×Int):=rs.foldl (nb1 v) []
theorem gY (rs:List Road)(r:Road)(v:Int):nbOf (rs++[r]) v=nb1 v (nbOf rs v) r:=by
 unfold nbOf;rw[List.foldl_append];rfl
theorem iX (d:List (Int×Int))(k v:Int)(x:Int):x∈(put d k v).map (·.1)<->x∈d.map (·.1)∨x=k:=by
 unfold put
 split
 . rename_i h;have e:(d.map fun p=>if p.1=k then (p.1,v)else p).map (·.1)=d.map (·.1):=by
    rw[List.map_map];refine List.map_congr_left fun p _=>?_;simp only[Function.comp]
    split<;>rfl
   rw[e];constructor
   . exact .inl
   . rintro(h' | h')
     . exact h'
     . obtain⟨p,hp,e⟩:=List.any_eq_true.mp h;exact List.mem_map.mpr ⟨p,hp,(of_decide_eq_true e).trans h'.symm⟩
 . rw[List.map_append,List.mem_append];simp
theorem gU {d:List (Int×Int)}(k v:Int)(h:(d.map (·.1)).Nodup):((put d k v).map (·.1)).Nodup:=by
 unfold put
 split
 . have e:(d.map fun p=>if p.1=k then (p.1,v)else p).map (·.1)=d.map (·.1):=by
    rw[List.map_map];refine List.map_congr_left fun p _=>?_;simp only[Function.comp]
    split<;>rfl
   rw[e];exact h
 . rename_i hn;rw[List.map_append];refine List.nodup_append.mpr ⟨h,by simp,?_⟩
   intro a ha b hb e;simp only[List.map_cons,List.map_nil,List.mem_singleton]at hb;obtain⟨p,hp,ep⟩:=List.mem_map.mp ha;exact hn (List.any_eq_true.mpr ⟨p,hp,decide_eq_true (by rw[ep,e,hb])⟩)
theorem gj (d:List (Int×Int))(k v:Int):(put d k v).length≤d.length+1:=by
 unfold put
 split
 . rw[List.length_map];omega
 . rw[List.length_append];simp
theorem gB (v:Int):∀rs:List Road,((nbOf rs v).map (·.1)).Nodup:=by
 intro rs;have gen:∀(rs:List Road) (d:List (Int×Int)),(d.map (·.1)).Nodup->((rs.foldl (nb1 v) d).map (·.1)).Nodup:=by
  intro rs
  induction rs with
  | nil=>intro d h;exact h
  | cons r t ih =>
   intro d h;rw[List.foldl_cons];refine ih _ ?_;unfold nb1
   split
   . exact gU _ _ h
   . split
     . exact gU _ _ h
     . exact h
 exact gen rs [] (by simp)
def Adj (rs:List Road)(u w:Int):Prop:=∃r∈rs,Joins r u w
theorem c9 (rs:List Road)(v x:Int):x∈(nbOf rs v).map (·.1)<->Adj rs v x:=by
 have gen:∀(rs:List Road) (d:List (Int×Int)),x∈(rs.foldl (nb1 v) d).map (·.1)<->x∈d.map (·.1)∨Adj rs v x:=by
  intro rs
  induction rs with
  | nil=>intro d;exact⟨.inl,fun h=>h.elim id (fun⟨r,h,_⟩=>nomatch h)⟩
  | cons r t ih =>
   intro d;rw[List.foldl_cons,ih];have adj:Adj (r::t) v x<->Joins r v x∨Adj t v x:=by
    constructor
    . rintro⟨q,hq,j⟩;rcases List.mem_cons.mp hq with e | hq
      . subst e;exact .inl j
      . exact .inr ⟨q,hq,j⟩
    . rintro(j | ⟨q,hq,j⟩)
      . exact⟨r,List.mem_cons_self,j⟩
      . exact⟨q,List.mem_cons_of_mem _ hq,j⟩
   rw[adj];have one:x∈(nb1 v d r).map (·.1)<->x∈d.map (·.1)∨(Joins r v x)∨(r.1=v/\r.2.1=v/\False):=by
    unfold nb1 Joins
    split
    . rename_i h1;rw[iX];constructor
      . rintro(h | h)
        . exact .inl h
        . exact .inr (.inl (.inl ⟨h1,h.symm⟩))
      . rintro(h | (⟨h,h'⟩ | ⟨h,h'⟩) | ⟨_,_,h⟩)
        . exact .inl h
        . exact .inr h'.symm
        . exact .inr (by omega)
        . exact h.elim
    . rename_i h1
      split
      . rename_i h2;rw[iX];constructor
        . rintro(h | h)
          . exact .inl h
          . exact .inr (.inl (.inr ⟨h.symm,h2⟩))
        . rintro(h | (⟨h,h'⟩ | ⟨h,h'⟩) | ⟨_,_,h⟩)
          . exact .inl h
          . exact absurd h h1
          . exact .inr h.symm
          . exact h.elim
      . rename_i h2;constructor
        . exact .inl
        . rintro(h | (⟨h,h'⟩ | ⟨h,h'⟩) | ⟨_,_,h⟩)
          . exact h
          . exact absurd h h1
          . exact absurd h' h2
          . exact h.elim
   rw[one];constructor
   . rintro((h | h | ⟨_,_,h⟩) | h)
     . exact .inl h
     . exact .inr (.inl h)
     . exact h.elim
     . exact .inr (.inr h)
   . rintro(h | h | h)
     . exact .inl (.inl h)
     . exact .inl (.inr (.inl h))
     . exact .inr h
 have:=gen rs [];unfold nbOf;rw[this];simp
theorem nbOf_length_le (rs:List Road)(v:Int):(nbOf rs v).length≤rs.length:=by
 have gen:∀(rs:List Road) (d:List (Int×Int)),(rs.foldl (nb1 v) d).length≤d.length+rs.length:=by
  intro rs
  induction rs with
  | nil=>intro d;exact Nat.le_refl _
  | cons r t ih =>
   intro d;rw[List.foldl_cons];refine Nat.le_trans (ih _) ?_;have:(nb1 v d r).length≤d.length+1:=by
    unfold nb1
    split
    . exact gj _ _ _
    . split
      . exact gj _ _ _
      . omega
   rw[List.length_cons];omega
 have q:=gen rs [];rw[List.length_nil,Nat.zero_add]at q;exact q
structure Srch (n:Nat) (nb:Int->List (Int×Int)) (g:Int) (k:Nat) (st:List (Int×Int)):Prop where
 first:st[0]? = some (g,g)
 nd:(st.map (·.1)).Nodup
 rng:∀p∈st,0≤p.1/\p.1 < n
 par:∀i p q,st[i]? = some (p,q)->0 < i->∃j,j < i/\j < k/\(st.map (·.1))[j]? = some q/\p∈(nb q).map (·.1)
 clo:∀j q,j < k->(st.map (·.1))[j]? = some q->∀p∈(nb q).map (·.1),p∈st.map (·.1)
theorem Srch.length {n:Nat}{nb:Int->List (Int×Int)}{g:Int}{k:Nat}{st:List (Int×Int)}(s:Srch n nb g k st):st.length≤n:=by
 have h:∀(m:Nat) (l:List Int),l.Nodup->(∀x∈l,0≤x/\x < m)->l.length≤m:=by
  intro m
  induction m with
  | zero =>
   intro l _ h;cases l with
   | nil=>exact Nat.le_refl _
   | cons x t=>have:=h x (by simp);omega
  | succ m ih =>
   intro l hn h;by_cases hm:((m:Nat):Int)∈l
   . have hp:=List.perm_cons_erase hm;rw[hp.length_eq,List.length_cons];have hn':=hp.nodup_iff.mp hn;obtain⟨h1,h2⟩:=List.nodup_cons.mp hn';have:=ih (l.erase (m:Int)) h2 fun x hx=>by
      have hx':=List.mem_of_mem_erase hx;have b:=h x hx';have:x≠(m:Int):=fun e=>h1 (e▸hx);omega
     omega
   . have:=ih l hn fun x hx=>by
      have b:=h x hx;have:x≠(m:Int):=fun e=>hm (e▸hx);omega
     omega
 have:=h n (st.map (·.1)) s.nd fun x hx=>by
  obtain⟨p,hp,e⟩:=List.mem_map.mp hx;rw[←e];exact s.rng p hp
 simpa using this
theorem ck:∀(m:Nat) (l:List Int),l.Nodup->(∀x∈l,0≤x/\x < m)->l.length=m->∀v:Int,0≤v->v < (m:Int)->v∈l:=by
 intro m
 induction m with
 | zero=>intro l _ _ _ v h1 h2;omega
 | succ m ih =>
  intro l hn h hl v h1 h2;have hm:((m:Nat):Int)∈l:=by
   refine Classical.byContradiction fun hm=>?_;have:l.length≤m:=by
    have key:∀(m:Nat) (l:List Int),l.Nodup->(∀x∈l,0≤x/\x < m)->l.length≤m:=by
     intro m
     induction m with
     | zero =>
      intro l _ h;cases l with
      | nil=>exact Nat.le_refl _
      | cons x t=>have:=h x (by simp);omega
     | succ m ih =>
      intro l hn h;by_cases hm:((m:Nat):Int)∈l
      . have hp:=List.perm_cons_erase hm;rw[hp.length_eq,List.length_cons];obtain⟨h1,h2⟩:=List.nodup_cons.mp (hp.nodup_iff.mp hn);have:=ih (l.erase (m:Int)) h2 fun x hx=>by
         have b:=h x (List.mem_of_mem_erase hx);have:x≠(m:Int):=fun e=>h1 (e▸hx);omega
        omega
      . have:=ih l hn fun x hx=>by
         have b:=h x hx;have:x≠(m:Int):=fun e=>hm (e▸hx);omega
        omega
    exact key m l hn fun x hx=>by
     have b:=h x hx;have:x≠(m:Int):=fun e=>hm (e▸hx);omega
   omega
  by_cases hv:v=(m:Int)
  . rw[hv];exact hm
  . have hp:=List.perm_cons_erase hm;obtain⟨h3,h4⟩:=List.nodup_cons.mp (hp.nodup_iff.mp hn);have q:=ih (l.erase (m:Int)) h4 (fun x hx=>by
     have b:=h x (List.mem_of_mem_erase hx);have:x≠(m:Int):=fun e=>h3 (e▸hx);omega) (by have:=hp.length_eq;rw[List.length_cons]at this;omega) v h1 (by omega)
    exact List.mem_of_mem_erase q
theorem Srch.conn {n:Nat}{rs:List Road}{st:List (Int×Int)}(s:Srch n (nbOf rs) 0 st.length st)(hn:1≤n):(st.length=n<->Conn n rs):=by
 have mem0:(0:Int)∈st.map (·.1):=List.mem_map.mpr ⟨(0,0),List.mem_of_getElem? s.first,rfl⟩;constructor
 . intro hl P p0 hP v h1 h2;have hv:=ck n (st.map (·.1)) s.nd (fun x hx=>by
    obtain⟨p,hp,e⟩:=List.mem_map.mp hx;rw[←e];exact s.rng p hp) (by simpa using hl) v h1 h2
   have all:∀(i:Nat) (p:Int),(st.map (·.1))[i]? = some p->P p:=by
    intro i
    induction i using Nat.strongRecOn with
    | _ i ih =>
     intro p hp;rw[List.getElem?_map]at hp;cases e:st[i]? with
     | none=>rw[e]at hp;cases hp
     | some pq =>
      obtain⟨a,b⟩:=pq;rw[e]at hp;have ea:a=p:=by simpa using hp
      subst ea;by_cases hi:0 < i
      . obtain⟨j,hj,_,hq,hk⟩:=s.par i a b e hi;have pb:=ih j hj b hq;obtain⟨r,hr,jn⟩:=(c9 rs b a).mp hk;rcases jn with⟨c,d⟩ | ⟨c,d⟩
        . have:=(hP r hr).mp (by rw[c];exact pb);rw[d]at this;exact this
        . have:=(hP r hr).mpr (by rw[d];exact pb);rw[c]at this;exact this
      . have hi0:i=0:=by omega
        subst hi0;rw[s.first]at e;cases e;exact p0
   obtain⟨i,hi⟩:=List.mem_iff_getElem?.mp hv;exact all i v hi
 . intro h;have cl:∀v,0≤v->v < (n:Int)->v∈st.map (·.1):=by
    intro v h1 h2;refine h (fun v=>v∈st.map (·.1)) mem0 (fun r hr=>?_) v h1 h2;have go:∀a b,Joins r a b->a∈st.map (·.1)->b∈st.map (·.1):=fun a b j ha=>by
     obtain⟨i,hi⟩:=List.mem_iff_getElem?.mp ha;have hil:i < st.length:=by
      have:=(List.getElem?_eq_some_iff.mp hi).1;simpa using this
     exact s.clo i a hil hi b ((c9 rs a b).mpr ⟨r,hr,j⟩)
    exact⟨go _ _ (.inl ⟨rfl,rfl⟩),go _ _ (.inr ⟨rfl,rfl⟩)⟩
   have le:=s.length;have ge:n≤st.length:=by
    have sub:∀(m:Nat) (l:List Int),(∀v,0≤v->v < (m:Int)->v∈l)->m≤l.length:=by
     intro m
     induction m with
     | zero=>intro l _;omega
     | succ m ih =>
      intro l hl;have hm:=hl m (by omega) (by omega)
      have hp:=List.perm_cons_erase hm;rw[hp.length_eq,List.length_cons];have:=ih (l.erase (m:Int)) fun v h1 h2=>(List.mem_erase_of_ne (by omega)).mpr (hl v h1 (by omega))
      omega
    have:=sub n (st.map (·.1)) cl;simpa using this
   omega
theorem Srch.start {n:Nat}{nb:Int->List (Int×Int)}{g:Int}(h0:0≤g)(h1:g < n):Srch n nb g 0 [(g,g)]:=by
 refine⟨rfl,by simp,fun p hp=>?_,fun i p q h hi=>?_,fun j q hj=>absurd hj (Nat.not_lt_zero _)⟩
 . rw[List.mem_singleton.mp hp];exact⟨h0,h1⟩
 . cases i with
   | zero=>omega
   | succ i=>simp at h
structure Mid (n:Nat) (nb:Int->List (Int×Int)) (g:Int) (k i:Nat) (q:Int) (st:List (Int×Int)):Prop where
 first:st[0]? = some (g,g)
 nd:(st.map (·.1)).Nodup
 rng:∀p∈st,0≤p.1/\p.1 < n
 par:∀i p q,st[i]? = some (p,q)->0 < i->∃j,j < i/\j < k+1/\(st.map (·.1))[j]? = some q/\p∈(nb q).map (·.1)
 clo:∀j q,j < k->(st.map (·.1))[j]? = some q->∀p∈(nb q).map (·.1),p∈st.map (·.1)
 here:(st.map (·.1))[k]? = some q
 seen:∀p∈((nb q).map (·.1)).take i,p∈st.map (·.1)
theorem Srch.mid {n:Nat}{nb:Int->List (Int×Int)}{g:Int}{k:Nat}{st:List (Int×Int)}{q:Int}(s:Srch n nb g k st)(h:(st.map (·.1))[k]? = some q):Mid n nb g k 0 q st:=
 ⟨s.first,s.nd,s.rng,fun i p q h hi=>let ⟨j,a,b,c⟩:=s.par i p q h hi;⟨j,a,Nat.lt_succ_of_lt b,c⟩,s.clo,h,fun p hp=>by simp at hp⟩
theorem Mid.old {n:Nat}{nb:Int->List (Int×Int)}{g:Int}{k i:Nat}{q p:Int}{st:List (Int×Int)}(s:Mid n nb g k i q st)(hi:((nb q).map (·.1))[i]? = some p)(hp:p∈st.map (·.1)):Mid n nb g k (i+1) q st:=
 ⟨s.first,s.nd,s.rng,s.par,s.clo,s.here,fun x hx=>by
  rw[List.take_add_one,hi,List.mem_append]at hx;rcases hx with hx | hx
  . exact s.seen x hx
  . have:x=p:=by simpa using hx
    rw[this];exact hp⟩
theorem Mid.new {n:Nat}{nb:Int->List (Int×Int)}{g:Int}{k i:Nat}{q p:Int}{st:List (Int×Int)}(s:Mid n nb g k i q st)(hi:((nb q).map (·.1))[i]? = some p)(hp:p∉st.map (·.1))(h0:0≤p)(h1:p < n):Mid n nb g k (i+1) q (st++[(p,q)]):=by
 have hkl:k < st.length:=by
  have:=(List.getElem?_eq_some_iff.mp s.here).1;simpa using this
 have em:(st++[(p,q)]).map (·.1)=st.map (·.1)++[p]:=by rw[List.map_append];rfl
 have old:∀{j:Nat} {x:Int},(st.map (·.1))[j]? = some x->(st.map (·.1)++[p])[j]? = some x:=fun{j x} h=>by
  rw[List.getElem?_append_left (List.getElem?_eq_some_iff.mp h).1];exact h
 refine⟨?_,?_,?_,?_,?_,?_,?_⟩
 . rw[List.getElem?_append_left (by omega)];exact s.first
 . rw[em];refine List.nodup_append.mpr ⟨s.nd,by simp,?_⟩
   intro a ha b hb e;have:b=p:=by simpa using hb
   exact hp (by rw[←this,←e];exact ha)
 . intro x hx;rcases List.mem_append.mp hx with hx | hx
   . exact s.rng x hx
   . rw[List.mem_singleton.mp hx];exact⟨h0,h1⟩
 . intro j a b h hj;rw[em];by_cases hjl:j < st.length
   . rw[List.getElem?_append_left hjl]at h;obtain⟨t,t1,t2,t3,t4⟩:=s.par j a b h hj;exact⟨t,t1,t2,old t3,t4⟩
   . rw[List.getElem?_append_right (by omega)]at h
     have hz:j - st.length=0:=by
      have:=(List.getElem?_eq_some_iff.mp h).1;simp at this;omega
     rw[hz]at h;have e:(p,q)=(a,b):=by simpa using h
     cases e;exact⟨k,by omega,Nat.lt_succ_self _,old s.here,List.mem_of_getElem? hi⟩
 . intro j x hj hx y hy;rw[em]at hx⊢;have hjl:j < (st.map (·.1)).length:=by rw[List.length_map];omega
   rw[List.getElem?_append_left hjl]at hx;exact List.mem_append_left _ (s.clo j x hj hx y hy)
 . rw[em];exact old s.here
 . intro x hx;rw[em];rw[List.take_add_one,hi,List.mem_append]at hx;rcases hx with hx | hx
   . exact List.mem_append_left _ (s.seen x hx)
   . have:x=p:=by simpa using hx
     rw[this];exact List.mem_append_right _ (by simp)
theorem Mid.done {n:Nat}{nb:Int->List (Int×Int)}{g:Int}{k i:Nat}{q:Int}{st:List (Int×Int)}(s:Mid n nb g k i q st)(hi:i=(nb q).length):Srch n nb g (k+1) st:=by
 refine⟨s.first,s.nd,s.rng,s.par,fun j x hj hx p hp=>?_⟩;by_cases hjk:j < k
 . exact s.clo j x hjk hx p hp
 . have e:j=k:=by omega
   subst e;rw[s.here]at hx;cases hx;exact s.seen p (by rw[List.take_of_length_le (by simp[hi])];exact hp)
end Tw
namespace Tw
def pl (n:Nat):List Int:=(List.range n).map fun i=>((i:Nat):Int)
theorem mem_pl {n:Nat}{v:Int}:v∈pl n<->0≤v/\v < n:=by
 unfold pl;rw[List.mem_map];constructor
 . rintro⟨i,hi,rfl⟩;have:=List.mem_range.mp hi;omega
 . rintro⟨h1,h2⟩;exact⟨v.toNat,List.mem_range.mpr (by omega),by omega⟩
theorem bC (n:Nat):(pl n).length=n:=by unfold pl;simp
theorem jY (n:Nat):pl (n+1)=pl n++[(n:Int)]:=by
 unfold pl;rw[List.range_succ,List.map_append];rfl
theorem f6 {n i:Nat}(h:i < n):(pl n)[i]? = some (i:Int):=by
 unfold pl;rw[List.getElem?_map,List.getElem?_range h];rfl
theorem j6 (n:Nat):(pl n).Nodup:=by
 induction n with
 | zero=>unfold pl;simp
 | succ n ih =>
  rw[jY];refine List.nodup_append.mpr ⟨ih,by simp,?_⟩
  intro a ha b hb e;have:=mem_pl.mp ha;have hb':b=(n:Int):=by simpa using hb
  omega
theorem eO {α:Type}(l:List α)(j:Nat)(x:α):(l.take j++x::l.drop j).Perm (x::l):=by
 have:=List.perm_middle (a:=x) (l₁:=l.take j) (l₂:=l.drop j);rw[List.take_append_drop]at this;exact this
theorem names_step {l:List Int}{k:Nat}(h:l.Perm (pl k))(j:Nat):(l.take j++(k:Int)::l.drop j).Perm (pl (k+1)):=by
 refine(eO l j _).trans ?_;rw[jY];exact(h.cons _).trans (List.perm_append_comm (l₁:=[(k:Int)]) (l₂:=pl k))
structure Tree (n:Nat) (rs:List Road):Prop where
 lo:1≤n
 hi:n≤12
 tr:Tr rs (pl n)
 len:∀r∈rs,1≤r.2.2
theorem Tree.length {n:Nat}{rs:List Road}(t:Tree n rs):rs.length+1=n:=by
 have:=t.tr.length;rw[bC]at this;exact this
theorem Tree.valid {n:Nat}{rs:List Road}(t:Tree n rs):∀r∈rs,Valid n r:=fun r hr=>by
 obtain⟨h1,h2,h3⟩:=t.tr.places r hr;have a:=mem_pl.mp h1;have b:=mem_pl.mp h2;exact⟨a.1,a.2,b.1,b.2,h3,t.len r hr⟩
theorem Tree.conn {n:Nat}{rs:List Road}(t:Tree n rs):Conn n rs:=fun P p0 hP v h1 h2=>by
 have lo:=t.lo;exact t.tr.whole hP 0 (mem_pl.mpr ⟨by omega,by omega⟩) v (mem_pl.mpr ⟨h1,h2⟩) p0
theorem Tree.isTree {n:Nat}{rs:List Road}(t:Tree n rs):IsTree n (rs.map rowI):=by
 have:=t.lo;have:=t.hi;have hl:=t.length;refine⟨by omega,by omega,?_,rs,rfl,t.valid,t.conn⟩
 rw[List.length_map];omega
theorem grow_step {rs:List Road}{names:List Int}{k o:Nat}(t:Tr rs (names.take k))(nd:names.Nodup)(ho:o < k)(hk:k < names.length){u w:Int}(hu:names[o]? = some u)(hw:names[k]? = some w){r:Road}(j:Joins r u w)(i:Nat):Tr (rs.take i++r::rs.drop i) (names.take (k+1)):=by
 have e:names.take (k+1)=names.take k++[w]:=by rw[List.take_add_one,hw];rfl
 refine .hang t (u:=u) (w:=w) (r:=r) ?_ ?_ j (eO rs i r) ?_
 . refine List.mem_iff_getElem?.mpr ⟨o,?_⟩;rw[List.getElem?_take_of_lt ho];exact hu
 . intro hm;have nd':(names.take (k+1)).Nodup:=nd.sublist (List.take_sublist _ _);rw[e]at nd';exact(List.nodup_append.mp nd').2.2 w hm w (by simp) rfl
 . rw[e];exact List.perm_append_comm (l₁:=names.take k) (l₂:=[w])
end Tw
namespace Tw
open PySem L2
def zV (z:List Int):List V:=z.map V.int
structure RowsAt (H:Hp) (a:Addr) (as:List Addr) (zss:List (List Int)):Prop where
 top:H a=some (.lst (as.map V.ref))
 len:as.length=zss.length
 row:∀(i:Nat) (p:Addr) (z:List Int),as[i]? = some p->zss[i]? = some z->H p=some (.lst (zV z))
theorem RowsAt.mono {H H':Hp}{a:Addr}{as:List Addr}{zss:List (List Int)}(h:RowsAt H a as zss)(s:Same H H'):RowsAt H' a as zss:=
 ⟨s _ _ h.top,h.len,fun i p z e1 e2=>s _ _ (h.row i p z e1 e2)⟩
theorem RowsAt.get {H:Hp}{a:Addr}{as:List Addr}{zss:List (List Int)}(h:RowsAt H a as zss){i:Nat}{z:List Int}(e:zss[i]? = some z):∃p,as[i]? = some p/\H p=some (.lst (zV z)):=by
 have hi:i < as.length:=by rw[h.len];exact(List.getElem?_eq_some_iff.mp e).1
 exact⟨as[i],by simp[hi],h.row i _ z (by simp[hi]) e⟩
theorem lst_inj {xs ys:List V}(h:HO.lst xs=HO.lst ys):xs=ys:=by injection h
theorem RowsAt.ne_top {H:Hp}{a:Addr}{as:List Addr}{zss:List (List Int)}(h:RowsAt H a as zss)(hz:∀z∈zss,z≠[]):a∉as:=fun hm=>by
 obtain⟨i,hi⟩:=List.mem_iff_getElem?.mp hm;have hil:i < zss.length:=by rw[←h.len];exact(List.getElem?_eq_some_iff.mp hi).1
 have q:=h.row i a zss[i] hi (by simp[hil])
 rw[h.top]at q;have e:=lst_inj (Option.some.inj q);have hne:=hz _ (List.getElem_mem hil);cases hzz:zss[i]with
 | nil=>exact hne hzz
 | cons x t =>
  rw[hzz]at e;cases as with
  | nil=>simp[zV]at e
  | cons b bs=>simp[zV]at e
structure RoadsAt (H:Hp) (a:Addr) (as:List Addr) (rs:List Road):Prop where
 rows:RowsAt H a as (rs.map rowI)
 nd:as.Nodup
theorem RoadsAt.mono {H H':Hp}{a:Addr}{as:List Addr}{rs:List Road}(h:RoadsAt H a as rs)(s:Same H H'):RoadsAt H' a as rs:=⟨h.rows.mono s,h.nd⟩
theorem RoadsAt.len {H:Hp}{a:Addr}{as:List Addr}{rs:List Road}(h:RoadsAt H a as rs):as.length=rs.length:=by have:=h.rows.len;rw[List.length_map]at this;exact this
theorem RoadsAt.ne_top {H:Hp}{a:Addr}{as:List Addr}{rs:List Road}(h:RoadsAt H a as rs):a∉as:=h.rows.ne_top fun z hz=>by
 obtain⟨r,_,rfl⟩:=List.mem_map.mp hz;simp[rowI]
def dV (d:List (Int×Int)):List (Key×V):=d.map fun p=>(Sum.inl p.1,V.int p.2)
theorem cf (d:List (Int×Int)):(dV d).length=d.length:=by unfold dV;simp
theorem iK (d:List (Int×Int))(k v:Int):putK (dV d) (Sum.inl k:Key) (V.int v)=dV (put d k v):=by
 have e:((dV d).any fun kv=>decide (kv.1=(Sum.inl k:Key)))=d.any fun p=>decide (p.1=k):=by
  unfold dV;rw[List.any_map]
  congr 1
  funext p
  simp only[Function.comp];rw[li];by_cases h:p.1=k
  . simp[h]
  . simp[h]
 unfold putK put;rw[e]
 split
 . unfold dV;rw[List.map_map,List.map_map];refine List.map_congr_left fun p _=>?_;simp only[Function.comp];by_cases h:p.1=k
   . rw[if_pos (by rw[h]),if_pos h]
   . rw[if_neg (fun q=>h (Sum.inl.inj q)),if_neg h]
 . unfold dV;rw[List.map_append];rfl
theorem gG (d:List (Int×Int))(k:Int):(valV (dV d) (Sum.inl k:Key)).isSome=decide (k∈d.map (·.1)):=by
 rw[←g4];unfold dV;rw[List.any_map,Bool.eq_iff_iff,List.any_eq_true,decide_eq_true_iff,List.mem_map];constructor
 . rintro⟨p,hp,e⟩;exact⟨p,hp,Sum.inl.inj (of_decide_eq_true e)⟩
 . rintro⟨p,hp,e⟩;exact⟨p,hp,decide_eq_true (by show(Sum.inl p.1:Key)=Sum.inl k;rw[e])⟩
theorem jV {d:List (Int×Int)}{k v:Int}(h:k∉d.map (·.1)):put d k v=d++[(k,v)]:=by
 unfold put;rw[if_neg];intro q;obtain⟨p,hp,e⟩:=List.any_eq_true.mp q;exact h (List.mem_map.mpr ⟨p,hp,of_decide_eq_true e⟩)
structure NearAt (H:Hp) (a:Addr) (ds:List Addr) (nr:List (List (Int×Int))):Prop where
 top:H a=some (.lst (ds.map V.ref))
 len:ds.length=nr.length
 row:∀(i:Nat) (p:Addr) (d:List (Int×Int)),ds[i]? = some p->nr[i]? = some d->H p=some (.dK (dV d))
theorem NearAt.mono {H H':Hp}{a:Addr}{as:List Addr}{nr:List (List (Int×Int))}(h:NearAt H a as nr)(s:Same H H'):NearAt H' a as nr:=
 ⟨s _ _ h.top,h.len,fun i p z e1 e2=>s _ _ (h.row i p z e1 e2)⟩
def bv (n:Nat)(rs:List Road):List (List (Int×Int)):=(pl n).map (nbOf rs)
theorem bu {n:Nat}{rs:List Road}{i:Nat}(h:i < n):(bv n rs)[i]? = some (nbOf rs (i:Int)):=by
 unfold bv;rw[List.getElem?_map,f6 h];rfl
theorem bj (n:Nat)(rs:List Road):(bv n rs).length=n:=by unfold bv;rw[List.length_map,bC]
theorem aj {H:Hp}{p:Addr}{o:HO}(h:H p=none):Same H (upd H p o):=fun b u e=>by rw[ac (a8 e h)];exact e
theorem Same.upd2 {H H':Hp}{p:Addr}{o:HO}(s:Same H H')(h:H p=none):Same H (upd H' p o):=fun b u e=>by rw[ac (a8 e h)];exact s b u e
theorem aV {n:Nat}(h:n≤1000):n≤sizeLine:=Nat.le_of_lt (au h)
end Tw
namespace L2
open PySem PySem.Spec PyProof.Rows
theorem cp {lo:Int}{n:Nat}{tf:TT}{te:TE}{σ:St}{H1:Hp}{D:Addr}{Q:Hp->Prop}(Pv:Nat->List V->Hp->Prop)(hD:∀i ys H,Pv i ys H->H D=some (.lst ys))(h0:Pv 0 [] (upd H1 D (.lst [])))(hs:∀i ys H,i < n->Pv i ys H->tf (σ++[some (.int (lo+i))]) H fun c H4=>if c=true then te (σ++[some (.int (lo+i))]) H4 fun z H5=>H5 D=some (.lst ys)/\ys.length < sizeLine/\Pv (i+1) (ys++[z]) (upd H5 D (.lst (ys++[z])))else Pv (i+1) ys H4)(hd:∀ys H,Pv n ys H->Q H):∃W:Nat->Nat->List V->Hp->Prop,(∃m,W 0 m [] (upd H1 D (.lst [])))/\∀i m ys H2,W i m ys H2->H2 D=some (.lst ys)/\(((Itr lo n).stop i H2/\Q H2)∨((Itr lo n).go i H2/\∃N:List V->Hp->Prop,(∀ys' H',N ys' H'->∃m',m' < m/\W (i+1) m' ys' H')/\∀y H3,(Itr lo n).yld i H2 y H3->tf (σ++[some y]) H3 fun c H4=>if c=true then te (σ++[some y]) H4 fun z H5=>H5 D=some (.lst ys)/\ys.length < sizeLine/\N (ys++[z]) (upd H5 D (.lst (ys++[z])))else N ys H4)):=by
 refine⟨fun i m ys H=>m=n - i/\i≤n/\Pv i ys H,⟨n,by simp,Nat.zero_le _,h0⟩,?_⟩
 rintro i m ys H ⟨rfl,hi,p⟩;refine⟨hD i ys H p,?_⟩;by_cases hlt:i < n
 . refine .inr ⟨hlt,Pv (i+1),fun ys' H' p'=>⟨n - (i+1),by omega,rfl,hlt,p'⟩,fun y H' yl=>?_⟩
   obtain⟨e,e2⟩:=yl;subst e e2;exact hs i ys _ hlt p
 . have e:i=n:=by omega
   subst e;exact .inl ⟨Nat.le_refl _,hd ys H p⟩
theorem bV {K:PySem.W.Frag}{a:Addr}{xs:List V}{tf:TT}{te:TE}{σ:St}{H1:Hp}{D:Addr}{Q:Hp->Prop}(Pv:Nat->List V->Hp->Prop)(hD:∀i ys H,Pv i ys H->H D=some (.lst ys)/\SqL K H a xs)(h0:Pv 0 [] (upd H1 D (.lst [])))(hs:∀i y ys H,xs[i]? = some y->Pv i ys H->tf (σ++[some y]) H fun c H4=>if c=true then te (σ++[some y]) H4 fun z H5=>H5 D=some (.lst ys)/\ys.length < sizeLine/\Pv (i+1) (ys++[z]) (upd H5 D (.lst (ys++[z])))else Pv (i+1) ys H4)(hd:∀ys H,Pv xs.length ys H->Q H):∃W:Nat->Nat->List V->Hp->Prop,(∃m,W 0 m [] (upd H1 D (.lst [])))/\∀i m ys H2,W i m ys H2->H2 D=some (.lst ys)/\(((Itl K a).stop i H2/\Q H2)∨((Itl K a).go i H2/\∃N:List V->Hp->Prop,(∀ys' H',N ys' H'->∃m',m' < m/\W (i+1) m' ys' H')/\∀y H3,(Itl K a).yld i H2 y H3->tf (σ++[some y]) H3 fun c H4=>if c=true then te (σ++[some y]) H4 fun z H5=>H5 D=some (.lst ys)/\ys.length < sizeLine/\N (ys++[z]) (upd H5 D (.lst (ys++[z])))else N ys H4)):=by
 refine⟨fun i m ys H=>m=xs.length - i/\i≤xs.length/\Pv i ys H,⟨xs.length,by simp,Nat.zero_le _,h0⟩,?_⟩
 rintro i m ys H ⟨rfl,hi,p⟩;obtain⟨q1,q2⟩:=hD i ys H p;refine⟨q1,?_⟩;by_cases hlt:i < xs.length
 . refine .inr ⟨⟨xs,xs[i],q2,by simp[hlt]⟩,Pv (i+1),fun ys' H' p'=>⟨xs.length - (i+1),by omega,rfl,hlt,p'⟩,fun y H' yl=>?_⟩
   obtain⟨e,yl⟩:=yl;subst e;exact hs i y ys _ (yl xs q2) p
 . have e:i=xs.length:=by omega
   subst e;exact .inl ⟨⟨xs,q2,Nat.le_refl _⟩,hd ys H p⟩
theorem yesI {A B:Hp->Prop}{σ:St}{H:Hp}(h:A H):tYes σ H (fun c H4=>if c=true then A H4 else B H4):=iteT (A:=A H) (B:=B H) h
theorem iteD {c:Prop}[Decidable c]{A B:Prop}(h1:c->A)(h2:¬c->B):if decide c=true then A else B:=by
 by_cases h:c
 . rw[decide_eq_true h];exact iteT (h1 h)
 . rw[decide_eq_false h];exact iteF (h2 h)
theorem iteB {b:Bool}{A B:Prop}(h1:b=true->A)(h2:b=false->B):if b=true then A else B:=by
 cases b with
 | true=>exact iteT (h1 rfl)
 | false=>exact iteF (h2 rfl)
theorem iteN {b:Bool}{A B:Prop}(h1:b=false->A)(h2:b=true->B):if (!b)=true then A else B:=by
 cases b with
 | true=>exact iteF (h2 rfl)
 | false=>exact iteT (h1 rfl)
end L2
namespace L2
open PySem PySem.Spec PyProof.Rows
open PySem.Builtin.Int (intBits)
section
variable {X:Cx}{tg:Expr}
theorem ixK (K:PySem.W.Frag)(h:X.K=K:=by rfl):IxR X (rIxL K):=h▸bd
theorem slK (K:PySem.W.Frag)(h:X.K=K:=by rfl):SlR X (rSlL K):=h▸sl_list
theorem inK (K:PySem.W.Frag)(h:X.K=K:=by rfl):OpR X (compareOp .In) (rIn K false):=h▸op_in_seq
theorem l6 (K:PySem.W.Frag)(h:X.K=K:=by rfl):OpR X (compareOp .NotIn) (rIn K true):=h▸op_notIn_seq
theorem bg (K:PySem.W.Frag){l:Expr}{tl:TE}(hl:PE X l tl)(h:X.K=K:=by rfl):PI X tg l (lQ K tl):=h▸iy hl
theorem lenK (K:PySem.W.Frag)(h:X.K=K:=by rfl):cr X (.builtin "len") (fun xs H Q=>∃p ys,xs=[.ref p]/\(SqL K H p ys∨SqT K H p ys)/\Q (.int ys.length) H):=h▸bS
theorem lO (K:PySem.W.Frag)(h:X.K=K:=by rfl):cr X (.type "list") (fun xs H Q=>∃p ys,xs=[.ref p]/\(SqL K H p ys∨SqT K H p ys)/\∀l,H l=none->Q (.ref l) (upd H l (.lst ys))):=h▸call_list_of
theorem sumK (K:PySem.W.Frag)(hc:X.calm=true)(h:X.K=K:=by rfl):cr X (.builtin "sum") (fun xs H Q=>∃(p:Addr) (ns:List Int),xs=[.ref p]/\SqL K H p (ns.map V.int)/\Q (.int ns.sum) H):=h▸call_sum hc
theorem isinstK (K:PySem.W.Frag)(h:X.K=K:=by rfl):cr X (.builtin "isinstance") (fun xs H Q=>∃x t n b,xs=[x,.ty n]/\TyOf K H x t/\PySem.W.kitOne K t (.type n)=some b/\Q (.bl b) H):=h▸bX
theorem k5:OpR X (binaryOp .Mult) (rI IntMulOk fun i j=>.int (i*j)):=opI fun _ _ _ _ _ _ _ hc q=>mul_int q hc
def Bits (i:Int):Prop:=intBits i≤2 ^ 20
theorem je {a b:Int}{m n:Nat}(ha:intBits a≤m)(hb:intBits b≤n)(h:m+n≤134217728):IntMulOk a b:=PyProof.Rows.mulOk_of_bits ha hb h
end
theorem bits_of_lay {ns:List Int}(h:PySem.W.WData.layableAll [PySem.W.WData.list (ns.map PySem.W.WData.int)]=true):∀n∈ns,Bits n:=by
 intro n hn;have h1:(PySem.W.WData.list (ns.map PySem.W.WData.int)).layable=true:=(PySem.W.layW_cons h).1;have h2:(PySem.W.WData.int n).layable=true:=PySem.W.layableW_item h1 _ (List.mem_map.mpr ⟨n,hn,rfl⟩);exact PyData.bits_of_layable h2
end L2
namespace Att
open PySem PySem.W PySem.Calls PyProof.Rows
theorem attach_bits {l:OpenLaw}{n:Nat}{q:Program}{loose:List Str}{XP:(Str->Option Value)->Heap->Prop}{YP:World->Heap->Prop}{d:DefRec}(hn:l.most=some n)(hdf:d.params.defaults=[])(call:∀(w:World) (s₀ s₁:Shared) (mg mb:Str->Option Value) (fa:Addr) (o:Obj) (pm cd doc:Value) (a:Addr) (vs:List Value) (ns:List Int),Ground q loose [] XP w s₀ mg mb s₁.heap->YP w s₁.heap->s₁.heap.get? fa=some o->o.data = .func (docDef d.name d.params d.body d.scope pm cd doc)->s₁.heap.CodeRec cd d.name->mg d.name=some (.ref fa)->s₁.heap.get? a=some { cls:=.type "list",data:=.seq vs.toArray }->IntsAre vs ns->ns.length≤n->(∀n∈ns,L2.Bits n)->s₁.gens = #[] →
 codeAny (model l.prog w) callerA (.call (.ref fa) ⟨[.ref a],[]⟩) (fun r s'=>r = .ok (.ret (.bool true))/\OldK s₁.heap s'.heap/\s'.os=s₁.os/\AllBare s'.gens) s₁) :
 WalkO q loose XP YP l.row.toRowW d [] (fun f vs=>PySem.call f vs):=by
 intro w s₀ s₁ mg mb G Y fa o pm cd doc dV kV ho hd hcd hD hmg hg args vals as hpre hlay hrd hwl hlo;obtain rfl:dV = .none:=Dflts.none hD hdf;obtain rfl:kV = .none:=Dflts.noKw hD;obtain⟨a,vs,ns,rfl,rfl,hobj,hints,hlen⟩:=Att.script_of hn hpre hwl;refine enter_call (codeAny_mono (call w s₀ s₁ mg mb fa o pm cd doc a vs ns G Y ho (fd_plain hd) hcd hmg hobj hints hlen (L2.bits_of_lay hlay) hg) fun r s' hq=>?_);obtain⟨rfl,h2,h3,h4⟩:=hq;exact⟨.inl ⟨.bool true,.bool true,[],rfl,fun _=>rfl,.bool true,Att.post_true l _,fun _=>⟨List.Pairwise.nil,fun _ hm=>(nomatch hm)⟩⟩,h2,h3,h4⟩
end Att
namespace L2
open PySem PySem.Spec PyProof.Rows
end L2
namespace L2
open PySem PySem.Spec PyProof.Rows
section
variable {prog:Program}{w:World}{A:Around}{E:Value->Shared->Prop}{s:Shared}
theorem fB {h h':Heap}{t it:Addr}{its:Array Value}(hl:h.IsList t its)(sb:Heap.SameBut it h h')(ne:t≠it):h'.IsList t its:=by
 obtain⟨o,e,r⟩:=hl;exact⟨o,(sb.2 t ne).trans e,r⟩
theorem hV {it t:Addr}{items:Array Value}(hne:t≠it):∀(n i:Nat) (s:Shared) (Q:List Value->Shared->Prop),s.heap.IsListIter it t i->s.heap.IsList t items->i+n≤items.size->(∀h',Heap.IsListIter h' it t (i+n)->Heap.SameBut it s.heap h'->Q ((items.toList.drop i).take n) { s with heap:=h' })->wpAny (model prog w) A (draw (.ref it) n) Q E s
 | 0,i,s,Q,hit,_,_,hQ=>by
  show wpAny _ _ (pure []) Q E s;exact wpAny_pure (by simpa using hQ s.heap hit (Heap.SameBut.refl ..))
 | n+1,i,s,Q,hit,ht,hle,hQ=>by
  have hlt:i < items.size:=by omega
  show wpAny _ _ (pyNext (.ref it) >>= _) Q E s;refine wpAny_bind (wpAny_pyNext_list_item hit ht (x:=items[i]) (by simp[hlt]) fun h₁ hit₁ hs₁=>?_)
  refine wpAny_bind (wpAny_holding (hV hne n (i+1) _ _ hit₁ (fB ht hs₁ hne) (by omega) fun h₂ hit₂ hs₂=>wpAny_pure ?_))
  have hd:items.toList.drop i=items[i]::items.toList.drop (i+1):=by simp[List.drop_eq_getElem_cons,hlt]
  have:=hQ h₂ (by rw[show i+(n+1)=i+1+n by omega];exact hit₂) (hs₁.trans hs₂)
  rw[hd,List.take_succ_cons]at this;exact this
theorem unpackItems_list {t:Addr}{items:Array Value}{Q:List Value->Shared->Prop}(hh:A.handled=none)(ht:s.heap.IsList t items)(hQ:∀h',Heap.ExtBut s.heap.objs.size s.heap h'->Q items.toList { s with heap:=h' }):wpAny (model prog w) A (unpackItems (.ref t) items.size none) Q E s:=by
 have hlt:t≠s.heap.objs.size:=by obtain⟨o,ho,_⟩:=ht;exact Nat.ne_of_lt (Heap.lt_size ho)
 unfold unpackItems;refine wpAny_bind ?_
 . unfold notIterableAtAll;refine wpAny_bind (wpAny_specialOf ht.typeIs slot_list_iter.lookup ?_);refine wpAny_pure ?_;simp only[Bool.false_eq_true,if_false];refine wpAny_bind (wpAny_holding (wpAny_pyIter_list ht ?_));refine wpAny_bind (wpAny_holding (hV hlt items.size 0 _ _ ⟨_,Heap.get?_push_size _ rfl,rfl,rfl⟩ (ht.push _) (by omega) fun h₁ hit₁ hs₁=>?_))
   have hall:List.take items.size (List.drop 0 items.toList)=items.toList:=by
    rw[List.drop_zero];exact List.take_of_length_le (by simp)
   rw[hall];rw[if_neg (by simp)]
   have ht₁:Heap.IsList h₁ t items:=fB (ht.push _) hs₁ hlt;refine wpAny_bind (wpAny_holding (wpAny_pyNext_list_end hh hit₁ ht₁ (by simp) fun h₂ he₂=>?_))
   simp only[Option.isSome_none,Bool.false_eq_true,if_false];refine wpAny_pure (hQ h₂ fun b o hb e=>he₂ b o hb (hs₁.extBut b o hb (Heap.get?_push_of_some _ e)))
theorem assign_Tuple_list {env:Env}{elts:List Expr}{x1}{pos:Pos}{t:Addr}{items:Array Value}{Q:Unit->Shared->Prop}(hh:A.handled=none)(ht:s.heap.IsList t items)(hn:(assignEach elts env).length=items.size)(hstar:(assignEach elts env).findIdx? (·.1)=none)(h:∀h',Heap.ExtBut s.heap.objs.size s.heap h'->wpAny (model prog w) A (assignInOrder ((assignEach elts env).map (·.2)) items.toList) Q E { s with heap:=h' }) :
 wpAny (model prog w) A (assign (.Tuple elts x1 pos) env (.ref t)) Q E s:=by
 rw[assign_Tuple];refine wpAny_bind (wpAny_standAt ?_);unfold unpack;rw[hn,hstar];exact wpAny_bind (wpAny_holding (unpackItems_list hh ht h))
end
section
variable {X:Cx}{pos:Pos}
def gLst (K:PySem.W.Frag)(n:Nat)(t:TGs):TG:=fun v σ H Q=>∃a xs,v = .ref a/\SqL K H a xs/\xs.length=n/\t xs σ H Q
theorem jG {es:List Expr}{k:Nat}{t:TGs}{n:Nat}(hc:X.calm=true)(h:PGs X es t)(hn:(assignEach es X.env).length=n:=by rfl)(hst:(assignEach es X.env).findIdx? (·.1)=none:=by rfl):PG X (.Tuple es k pos) (gLst X.K n t):=by
 intro pins s σ H v u Q I r hw;obtain⟨a,xs,e1,hq,hl,hw⟩:=hw;subst e1;cases r;obtain⟨its,rv,ht,hz⟩:=I.list hq;refine assign_Tuple_list (I.ok.hd hc) ht.isList (by simp[hn,←hl,rv.length]) hst fun h' hx=>?_
 have I1:Inv X pins σ H { s with heap:=h' }:=I.kept (t':=s.toks) fun b o e=>hx b o (Nat.ne_of_lt (Heap.lt_size e)) e
 exact h pins _ σ H xs _ Q I1 (by simpa using rv) hw
end
end L2
namespace L2
open PySem PySem.Spec PyProof.Rows
section
variable {X:Cx}
end
end L2
namespace L2
open PySem PySem.Spec PyProof.Rows
section
variable {X:Cx}
theorem maxL (K:PySem.W.Frag)(hc:X.calm=true)(hK:X.K=K:=by rfl):cr X (.builtin "max") (fun xs H Q=>∃(p:Addr) (ns:List Int),xs=[.ref p]/\SqL K H p (ns.map V.int)/\0 < ns.length/\∀M,M∈ns->(∀a∈ns,a≤M)->Q (.int M) H):=by
 subst hK;intro pins s σ H xs us Q I r h;obtain⟨p,ns,rfl,hp,hne,q⟩:=h;obtain⟨u,rfl,ru⟩:=fi r;cases ru;obtain⟨its,rv,pl,hz⟩:=I.list hp;have hi:=e6 rv;obtain⟨zs,e⟩:=hi.allInts.items;have hns:ns=zs.toList.map (·.1):=by
  rw[←hi.numsOf,←nums_intItems,←e]
 have hsz:0 < zs.size:=by
  have h3:=hne;rw[hns,List.length_map,Array.length_toList]at h3;exact h3
 have hl:s.heap.IsList p (intItems zs):=e▸pl.isList;refine max_intList (I.ok.hd hc) hl hsz fun v h' tk hv hk=>?_;obtain⟨t,rfl⟩:=intItems_at hv;obtain⟨h1,h2⟩:=argBest_gt (numAt zs) (zs.size - 1);refine⟨.int _,H,I.kept hk,⟨t,rfl⟩,q _ ?_ fun a ha=>?_⟩
 . rw[hns,numAt_eq];exact getD_mem (by rw[List.length_map,Array.length_toList];omega)
 . rw[hns]at ha;obtain⟨j,hj,rfl⟩:=mem_getD ha;rw[List.length_map,Array.length_toList]at hj;rw[←numAt_eq];exact h2 j (by omega)
end
section
variable {X:Cx}{es:List Expr}{t:TA}{te:TE}
theorem eI {l:List Expr}{p:Pos}(ha:PE X (.List l p) te)(hr:PA X es t):PA X (.List l p::es) (iO te t):=a7 ha hr rfl
theorem bw {a b:Expr}{p:Pos}(ha:PE X (.Subscript a b p) te)(hr:PA X es t):PA X (.Subscript a b p::es) (iO te t):=a7 ha hr rfl
theorem bi {a b:Expr}{o:Operator}{p:Pos}(ha:PE X (.BinOp a o b p) te)(hr:PA X es t):PA X (.BinOp a o b p::es) (iO te t):=a7 ha hr rfl
theorem aH {c:Const}{k:Nat}{p:Pos}(ha:PE X (.Constant c k p) te)(hr:PA X es t):PA X (.Constant c k p::es) (iO te t):=a7 ha hr rfl
end
end L2
namespace L2
open PySem PySem.Spec PyProof.Rows
section
variable {X:Cx}
def CDivB (i j:Int):Prop:=0 < j/\j < 2 ^ 200
theorem gw:OpR X (binaryOp .FloorDiv) (rI CDivB fun i j=>.int (i / j)):=opI fun i j _ _ _ _ _ hc q=>by
 have h1:(0:Int) < j:=hc.1;have h2:j < 2 ^ 200:=hc.2;refine floordiv_int (by omega) (by rw[Int.fdiv_eq_ediv_of_nonneg i (by omega)];exact q) (.inl (PyProof.noPylong_of_log2 ?_))
 have h3:j.natAbs < 2 ^ 200:=by omega
 exact Nat.lt_trans ((Nat.log2_lt (by omega)).mpr h3) (by decide)
end
end L2
namespace L2
open PySem PySem.Spec PyProof.Rows
section
variable {X:Cx}{pins:List (Addr×Obj)}{σ:St}{H:Hp}{s:Shared}{h':Heap}
theorem Inv.turnedL {fp:List Addr}{t':Nat}(I:Inv X pins σ H s)(hfp:∀b∈fp,FpOk X pins H b)(k:∀b o,b∉fp->s.heap.get? b=some o->h'.get? b=some o):Inv X pins σ H { s with heap:=h',toks:=t' }:=by
 have nfp:∀b u,H b=some u->b∉fp:=fun b u e z=>by rw[(hfp b z).1]at e;cases e
 refine I.step (g':=s.gens) (d':=s.drawn) (ch:=fp) (fun b hb=>⟨(hfp b hb).2.2.2.1,(hfp b hb).2.1,(hfp b hb).2.2.2.2.1,(hfp b hb).2.2.2.2.2⟩) (fun b o _ _ hc e _=>k b o hc e) (fun b o _ _ hc e _=>⟨o.slots,k b o hc e⟩) (fun _ _ _ _ n=>n)
  (fun b o hc e=>⟨o,k b o hc e⟩) (fun _ _ e=>e) (fun _ _ _ e=>e) (fun b ps e=>⟨#[],by rw[e];simp⟩) (fun m hm=>?_) (fun b u e=>?_) I.bare
 . obtain⟨o,es,ep,ho,r⟩:=hm;exact⟨o,es,ep,k _ o (fun z=>(hfp _ z).2.1 rfl) ho,r⟩
 . refine(I.hok b u e).stay (fun c v hc q=>k c v ?_ q) (fun _ q=>q) fun _ _ _ q=>q;rcases hc with z | z
   . rw[z];exact nfp b u e
   . exact nfp c _ z
theorem Inv.turnedT {fp:List Addr}{t':Nat}{a:Addr}{xs:List V}(I:Inv X pins σ H s)(hfp:∀b∈fp,FpOk X pins H b)(k:∀b o,b∉fp->s.heap.get? b=some o->h'.get? b=some o)(hp:s.heap.objs.size≤a)(new:ObjOk X.prog X.w (upd H a (.tup xs)) h' a (.tup xs)):Inv X pins σ (upd H a (.tup xs)) { s with heap:=h',toks:=t' }:=by
 have hn:=I.hok.fresh hp;have nfp:∀b u,H b=some u->b∉fp:=fun b u e z=>by rw[(hfp b z).1]at e;cases e
 refine I.step (g':=s.gens) (d':=s.drawn) (ch:=fp) (fun b hb=>⟨(hfp b hb).2.2.2.1,(hfp b hb).2.1,(hfp b hb).2.2.2.2.1,(hfp b hb).2.2.2.2.2⟩) (fun b o _ _ hc e _=>k b o hc e) (fun b o _ _ hc e _=>⟨o.slots,k b o hc e⟩)
  (fun b o _ e n=>by rw[ac (Nat.ne_of_lt (Nat.lt_of_lt_of_le (Heap.lt_size e) hp))];exact n)
  (fun b o hc e=>⟨o,k b o hc e⟩) (fun b xs q=>by rw[ac (a8 q hn)];exact q) (fun b u xs q=>by rw[ac (a8 q hn)];exact q) (fun b ps q=>⟨#[],by rw[ac (a8 q hn),q];simp⟩) (fun m hm=>?_) (fun b u e=>?_) I.bare
 . obtain⟨o,es,ep,ho,r⟩:=hm;exact⟨o,es,ep,k _ o (fun z=>(hfp _ z).2.1 rfl) ho,r⟩
 . by_cases hb:b=a
   . subst hb;rw[a9]at e;cases e;exact new
   . rw[ac hb]at e;refine(I.hok b u e).stay (fun c v hc q=>k c v ?_ q) (fun c q=>by rw[ac (a8 q hn)];exact q) fun c xs _ q=>by rw[ac (a8 q hn)];exact q
     rcases hc with z | z
     . rw[z];exact nfp b u e
     . exact nfp c _ z
end
def Itz (K:PySem.W.Frag)(a b:Addr):It:=
 ⟨fun i H=>∃xs ys x y,SqL K H a xs/\SqL K H b ys/\xs[i]? = some x/\ys[i]? = some y,
  fun i H v H'=>∃t x y,v = .ref t/\H t=none/\H'=upd H t (.tup [x,y])/\(∀xs,SqL K H a xs->xs[i]? = some x)/\∀ys,SqL K H b ys->ys[i]? = some y,
  fun i H=>∃xs ys,SqL K H a xs/\SqL K H b ys/\(xs.length≤i∨ys.length≤i)⟩
theorem gN {h:Heap}{z TI TO i1 i2 a b:Addr}{xs ys:Array Value}{u v:Value}{k:Nat}(d1:TI≠TO)(d2:i1≠i2)(hz:IsZip h z TI TO .none)(hTI:IsPair h TI (.ref i1) (.ref i2))(hTO:IsPair h TO u v)(h1:h.IsListIter i1 a k)(h2:h.IsListIter i2 b k)(hl1:h.IsList a xs)(hl2:h.IsList b ys):ZipApart z TI TO i1 i2 a b:=by
 obtain⟨o1,e1,c1,_⟩:=h1;obtain⟨o2,e2,c2,_⟩:=h2;obtain⟨o3,e3,c3,_⟩:=hl1;obtain⟨o4,e4,c4,_⟩:=hl2;have ap:∀{p q:Addr} {o o':Obj} {n m:String},h.get? p=some o->h.get? q=some o'->o.cls = .type n->o'.cls = .type m->n≠m->p≠q:=fun{p q o o' n m} x y cn cm ne e=>by
  subst e;rw[x]at y;cases y;rw[cn]at cm;exact ne (by injection cm)
 exact⟨ap hTI hz rfl rfl (by decide),ap hTO hz rfl rfl (by decide),ap e1 hz c1 rfl (by decide),ap e2 hz c2 rfl (by decide),d1,ap hTI e1 rfl c1 (by decide),ap hTI e2 rfl c2 (by decide),ap hTO e1 rfl c1 (by decide),ap hTO e2 rfl c2 (by decide),d2,
  ap e3 hz c3 rfl (by decide),ap e3 hTO c3 rfl (by decide),ap e3 e1 c3 c1 (by decide),ap e3 e2 c3 c2 (by decide),ap e4 hz c4 rfl (by decide),ap e4 hTO c4 rfl (by decide),ap e4 e1 c4 c1 (by decide),ap e4 e2 c4 c2 (by decide)⟩
theorem turn_zip {P:Program}{w:World}{K:PySem.W.Frag}{es:List Expr}{kk:Nat}{pos:Pos}(a b z TI TO i1 i2:Addr)(d1:TI≠TO)(d2:i1≠i2):Turn P w K (.Tuple es kk pos) (Itz K a b) [z,TI,TO,i1,i2] z
 (fun i h=>IsZip h z TI TO .none/\IsPair h TI (.ref i1) (.ref i2)/\(∃u v,IsPair h TO u v)/\h.IsListIter i1 a i/\h.IsListIter i2 b i) where
 mem:=by simp
 obj:=fun i h st q hq=>by
  obtain⟨hz,hTI,⟨u,v,hTO⟩,⟨o1,e1,c1,D1⟩,⟨o2,e2,c2,D2⟩⟩:=st;simp only[List.mem_cons,List.not_mem_nil,or_false]at hq;rcases hq with rfl | rfl | rfl | rfl | rfl
  . exact⟨_,hz,fun v z=>by cases z⟩
  . exact⟨_,hTI,fun v z=>by cases z⟩
  . exact⟨_,hTO,fun v z=>by cases z⟩
  . exact⟨_,e1,fun v z=>by rw[D1]at z;cases z⟩
  . exact⟨_,e2,fun v z=>by rw[D2]at z;cases z⟩
 keep:=fun i h h' st k=>by
  obtain⟨hz,hTI,⟨u,v,hTO⟩,h1,h2⟩:=st;exact⟨k _ (by simp) _ hz,k _ (by simp) _ hTI,⟨u,v,k _ (by simp) _ hTO⟩,h1.at fun o e=>k i1 (by simp) o e,h2.at fun o e=>k i2 (by simp) o e⟩
 item:=by
  intro X hP hw hK hc i pins s σ H E I hf st hg;subst hP hw hK;obtain⟨xs,ys,x,y,hq,hq2,hx,hy⟩:=hg;obtain⟨its,rv,p,hz'⟩:=I.list hq;obtain⟨its2,rv2,p2,hz2⟩:=I.list hq2;obtain⟨u,hu,ru⟩:=rv.get hx;obtain⟨v,hv,ruv⟩:=rv2.get hy;obtain⟨hz,hTI,⟨u0,v0,hTO⟩,h1,h2⟩:=st;have D:=gN d1 d2 hz hTI hTO h1 h2 p.isList p2.isList;refine wpAny_pyNext_zip_item D hz hTI hTO h1 h2 p.isList p2.isList (x:=u) (y:=v) (by simpa using hu) (by simpa using hv) fun h' a1 a2 a3 a4 a5 a6 hk=>?_
  refine⟨_,rfl,wpAny_letOwnedTupleGo_zip (s:={ s with heap:=h' }) a1 fun h2' b1 sb=>?_⟩
  have kk:∀c o,c∉[z,TI,TO,i1,i2]->s.heap.get? c=some o->h2'.get? c=some o:=fun c o hc e=>by
   have n:c≠z/\c≠TI/\c≠TO/\c≠i1/\c≠i2:=by simpa using hc
   exact(sb.2 c n.1).trans (hk c o n.1 n.2.2.1 n.2.2.2.1 n.2.2.2.2 e)
  have lt:∀{c o},s.heap.get? c=some o->s.heap.objs.size≠c:=fun e=>Nat.ne_of_gt (Heap.lt_size e);have hT:IsPair h2' s.heap.objs.size u v:=(sb.2 _ (lt hz)).trans a5;have I1:Inv X pins σ (upd H s.heap.objs.size (.tup [x,y])) { s with heap:=h2' }:=I.turnedT (t':=s.toks) hf kk (Nat.le_refl _) ⟨by show 2≤sizeLine;decide,[u,v],.cons ru (.cons ruv .nil),⟨_,hT,rfl,_,rfl⟩⟩
  refine⟨.ref s.heap.objs.size,_,I1,rfl,⟨_,x,y,rfl,I.hok.fresh (Nat.le_refl _),rfl,fun zs hz=>by rw[I.list_inj hz hq];exact hx,fun zs hz=>by rw[I.list_inj hz hq2];exact hy⟩,⟨b1,?_,⟨u,v,?_⟩,?_,?_⟩,fun q hq'=>?_⟩
  . exact(sb.2 _ D.TIz).trans (hk _ _ D.TIz D.TITO D.TIi1 D.TIi2 hTI)
  . exact(sb.2 _ D.TOz).trans a2
  . exact a3.at fun o e=>(sb.2 _ D.i1z).trans e
  . exact a4.at fun o e=>(sb.2 _ D.i2z).trans e
  . have hql:q < s.heap.objs.size:=by
     have e1:i1 < s.heap.objs.size:=by obtain⟨_,e,_⟩:=h1;exact Heap.lt_size e
     have e2:i2 < s.heap.objs.size:=by obtain⟨_,e,_⟩:=h2;exact Heap.lt_size e
     simp only[List.mem_cons,List.not_mem_nil,or_false]at hq';rcases hq' with rfl | rfl | rfl | rfl | rfl
     . exact Heap.lt_size hz
     . exact Heap.lt_size hTI
     . exact Heap.lt_size hTO
     . exact e1
     . exact e2
    rw[ac (Nat.ne_of_lt hql)];exact(hf q hq').1
 done:=by
  intro X hP hw hK hc i pins s σ H E I hf st hg;subst hP hw hK;obtain⟨xs,ys,hq,hq2,hl⟩:=hg;obtain⟨its,rv,p,hz'⟩:=I.list hq;obtain⟨its2,rv2,p2,hz2⟩:=I.list hq2;have l1:=rv.length;have l2:=rv2.length;obtain⟨hz,hTI,⟨u0,v0,hTO⟩,h1,h2⟩:=st;have D:=gN d1 d2 hz hTI hTO h1 h2 p.isList p2.isList;refine wpAny_pyNext_zip_end (I.ok.hd hc) D hz hTI hTO h1 h2 p.isList p2.isList (hl.imp (fun z=>by simp;omega) fun z=>by simp;omega) fun h' hk=>⟨rfl,I.turnedL (t':=s.toks) hf fun c o hc e=>?_⟩
  have n:c≠z/\c≠TI/\c≠TO/\c≠i1/\c≠i2:=by simpa using hc
  exact hk c o n.1 n.2.2.1 n.2.2.2.1 n.2.2.2.2 e
 self:=fun _ _ _ _ _ st h=>wpAny_pyIter_zip st.1 h
def iZip (K:PySem.W.Frag)(ta:TA):TI:=fun σ H R=>ta σ H fun vs H1=>∃a b,vs=[.ref a,.ref b]/\(∃xs,SqL K H1 a xs)/\(∃ys,SqL K H1 b ys)/\R (Itz K a b) H1
section
variable {X:Cx}
theorem pi_zip (K:PySem.W.Frag){a b:Expr}{ta:TA}{p pos:Pos}{es:List Expr}{kk:Nat}{tp:Pos}(hg:Gl X "zip")(hm:X.mg "zip" = none)(ha:PA X [a,b] ta)(hK:X.K=K:=by rfl)(hs:starEach [a,b] X.env=[(false,eval a X.env),(false,eval b X.env)]:=by rfl)(hs2:starEach [b] X.env=[(false,eval b X.env)]:=by rfl) :
 PI X (.Tuple es kk tp) (.Call (.Name "zip" p) [a,b] [] pos) (iZip K ta):=by
 subst hK;intro pins s σ H R I h;refine Call_ (bY I hg hm boot_zip (PyProof.Rows.callWith_type1 (thn (ha pos pins s σ H _ I h) fun us s1 ⟨vs,H1,I1,r1,q1⟩=>?_) (by rw[hs,hs2]) (by rw[hs2];rfl)))
 obtain⟨l1,l2,e,⟨xs,hq⟩,⟨ys,hq2⟩,q⟩:=q1;subst e;cases r1 with
 | cons r rr =>
  cases rr with
  | cons r' rr =>
   cases rr;cases r;cases r';obtain⟨its,rv,p1,hz⟩:=I1.list hq;obtain⟨its2,rv2,p2,hz2⟩:=I1.list hq2;refine call_zip_2 p1.isList p2.isList fun h' hz hTI hTO hi1 hi2 hsz hk=>?_;refine wpAny_pyIter_zip hz ?_;refine⟨_,_,_,_,H1,rfl,I1.kept (t':=s1.toks) hk,turn_zip l1 l2 _ _ _ _ _ (Nat.ne_of_lt (Nat.lt_succ_self _)) (Nat.ne_of_lt (Nat.lt_succ_self _)),⟨hz,hTI,⟨_,_,hTO⟩,hi1,hi2⟩,fun c hc=>?_,q⟩;have hle:s1.heap.objs.size≤c:=by
    simp only[List.mem_cons,List.not_mem_nil,or_false]at hc;rcases hc with rfl | rfl | rfl | rfl | rfl<;>omega
   exact I1.fpOk hle (I1.hok.fresh hle)
end
theorem for_zip {K:PySem.W.Frag}{a b:Addr}{xs ys:List V}{g:TG}{tb:TS}{D:Ends}{σ:St}{H:Hp}(Pv:Nat->St->Hp->Prop)(h0:Pv 0 σ H)(hl:∀i σ H,Pv i σ H->SqL K H a xs/\SqL K H b ys)(hs:∀i x y σ H t,xs[i]? = some x->ys[i]? = some y->Pv i σ H->H t=none->g (.ref t) σ (upd H t (.tup [x,y])) fun σ2 H2=>tb { D with nx:=Pv (i+1),ct:=Pv (i+1),bk:=D.nx } σ2 H2)(hd:∀σ H,Pv (min xs.length ys.length) σ H->D.nx σ H) :
 ∃W:Nat->Nat->St->Hp->Prop,(∃m,W 0 m σ H)/\∀i m σ H,W i m σ H →
  ((Itz K a b).stop i H/\D.nx σ H)∨((Itz K a b).go i H/\∃N:St->Hp->Prop,(∀σ' H',N σ' H'->∃m',m' < m/\W (i+1) m' σ' H')/\∀x H',(Itz K a b).yld i H x H'->g x σ H' fun σ2 H2=>tb { D with nx:=N,ct:=N,bk:=D.nx } σ2 H2):=by
 refine⟨fun i m σ H=>m=min xs.length ys.length - i/\i≤min xs.length ys.length/\Pv i σ H,⟨min xs.length ys.length,by simp,Nat.zero_le _,h0⟩,?_⟩
 rintro i m σ H ⟨rfl,hi,p⟩;obtain⟨q2,q3⟩:=hl i σ H p;by_cases hlt:i < min xs.length ys.length
 . have l1:i < xs.length:=by omega
   have l2:i < ys.length:=by omega
   refine .inr ⟨⟨xs,ys,xs[i],ys[i],q2,q3,by simp[l1],by simp[l2]⟩,Pv (i+1),fun σ' H' p'=>⟨min xs.length ys.length - (i+1),by omega,rfl,hlt,p'⟩,fun x H' y=>?_⟩
   obtain⟨t,u,z,rfl,ht,rfl,e1,e2⟩:=y;exact hs i u z σ H t (e1 xs q2) (e2 ys q3) p ht
 . have e:i=min xs.length ys.length:=by omega
   subst e;exact .inl ⟨⟨xs,ys,q2,q3,by omega⟩,hd σ H p⟩
end L2
namespace L2
open PySem PySem.Spec PyProof.Rows
section
variable {X:Cx}
def rEqH (K:PySem.W.Frag):R2:=fun x y H Q=>∃a b p q p' q' as bs xss yss us vs,x = .ref a/\y = .ref b/\SqL K H a [.ref p,.ref q]/\SqL K H b [.ref p',.ref q']/\Rows2 K H p as xss/\Rows2 K H p' bs yss/\(∀p∈as,p∉bs)/\xss.length=yss.length ∧
 SqL K H q us/\SqL K H q' vs/\us.all bR=true/\vs.all bR=true/\p≠p'/\q≠q'/\Q (.bl ((List.range xss.length).all (fun j=>eqVs (xss.getD j []) (yss.getD j []))&&eqVs us vs)) H
theorem op_eqH (hu:X.A.units+2 < cLine):OpR X (compareOp .Eq) (rEqH X.K):=by
 intro pins s σ H x y v u Q I rx ry h;obtain⟨a,b,p,q,p',q',as,bs,xss,yss,us,vs,rfl,rfl,ha,hb,hp,hp',hd,hl,hq,hq',fu,fv,np,nq,k⟩:=h;cases rx;cases ry;obtain⟨is,ri,pi,_⟩:=I.list ha;obtain⟨js,rj,pj,_⟩:=I.list hb;obtain⟨i0,i1,rfl,r0,r1⟩:∃i0 i1,is=[i0,i1]/\RelV (.ref p) i0/\RelV (.ref q) i1:=by
  cases ri with
  | cons r0 t=>cases t with
   | cons r1 t=>cases t;exact⟨_,_,rfl,r0,r1⟩
 obtain⟨j0,j1,rfl,t0,t1⟩:∃j0 j1,js=[j0,j1]/\RelV (.ref p') j0/\RelV (.ref q') j1:=by
  cases rj with
  | cons r0 t=>cases t with
   | cons r1 t=>cases t;exact⟨_,_,rfl,r0,r1⟩
 cases r0;cases r1;cases t0;cases t1;have e:((List.range xss.length).all (fun j=>eqVs (xss.getD j []) (yss.getD j []))&&eqVs us vs)=(List.range ([Value.ref p,Value.ref q].toArray).size).all fun j=>if j=0 then (List.range xss.length).all (fun j=>eqVs (xss.getD j []) (yss.getD j []))else eqVs us vs:=by
  show _=(List.range 2).all _;rw[show List.range 2=[0,1]from rfl,List.all_cons,List.all_cons,List.all_nil,Bool.and_true];rfl
 rw[e]at k;refine SeqAt.RcAt.lists pi.isList pj.isList rfl (by omega) (fun j h1 h2=>?_) _ _ _ _ ⟨.bl _,H,I,rfl,k⟩
 match j,h1,h2 with
 | 0,_,_=>exact SeqAt.EqAt.of_refs np (rc_rows (A:=X.A.in1) I hp hp' hd hl (by show X.A.units+1+1 < cLine;exact hu))
 | 1,_,_=>exact SeqAt.EqAt.of_refs nq (fQ (A:=X.A.in1) I hq hq' fu fv (by show X.A.units+1 < cLine;omega)).1
 | j+2,h1,_=>exact absurd h1 (by simp)
end
end L2
namespace L2
open PySem PySem.Spec PyProof.Rows
section
variable {X:Cx}
theorem k6 (K:PySem.W.Frag)(hu:X.A.units < cLine)(hK:X.K=K:=by rfl):OpR X (compareOp .Eq) (rEqL K false):=hK▸op_eqL hu
theorem fV (K:PySem.W.Frag)(hu:X.A.units < cLine)(hK:X.K=K:=by rfl):OpR X (compareOp .NotEq) (rEqL K true):=hK▸op_neL hu
theorem fF:∀{vs:List Value} {ns:List Int},vs.length=ns.length->(∀(j:Nat) (v:Value) (i:Int),vs[j]? = some v->ns[j]? = some i->∃t,v = .int i t)->IntsAre vs ns
 | [],[],_,_=>.nil
 | [],_::_,h,_=>by simp at h
 | _::_,[],h,_=>by simp at h
 | v::vs,n::ns,h,f=>by
  obtain⟨t,rfl⟩:=f 0 v n rfl rfl;exact .cons n t (fF (by simpa using h) fun j w i e1 e2=>f (j+1) w i e1 e2)
theorem gr {α β:Type}{F:α->β->Prop}:∀{l:List α} {m:List β},Paired F l m->∀{i:Nat} {x:α},l[i]? = some x->∃y,m[i]? = some y/\F x y
 | _,_,.nil,_,_,e=>by simp at e
 | _,_,.cons r _,0,_,e=>by simp at e;subst e;exact⟨_,rfl,r⟩
 | _,_,.cons _ t,i+1,_,e=>by
  obtain⟨y,hy,f⟩:=gr t (i:=i) (by simpa using e)
  exact⟨y,by simpa using hy,f⟩
theorem keyIs_inv {i:Int}{v:Value}(h:fz (Sum.inl i:Key) v=true):∃t,v = .int i t:=by
 rcases aZ h with⟨j,t,e,rfl⟩ | ⟨x,t,e,rfl⟩
 . cases e;exact⟨t,rfl⟩
 . cases e
end
end L2
namespace L2
open PySem PySem.Spec PyProof.Rows
section
variable {prog:Program}{w:World}{A:Around}{E:Value->Shared->Prop}{s:Shared}{l:Addr}{xs:Array (Int×Tok)}
end
section
variable {X:Cx}
end
end L2
namespace L2
open PySem PySem.Spec PyProof.Rows
section
variable {P:Program}{w:World}{K:PySem.W.Frag}{mg:Str->Option Value}{base:Heap}{N:List Str}{qual:Str}{scope:Scope}{f:Addr}{cd:Value}{A:Around}{outer:List Env}{s:Shared}{H:Hp}{E:XK}
end
end L2
namespace L2
open PySem PySem.Spec PyProof.Rows
end L2
namespace L2
open PySem PySem.Spec PyProof.Rows
section
variable {X:Cx}{pins:List (Addr×Obj)}{σ:St}{H:Hp}{s:Shared}{x:Addr}
end
end L2
namespace L2
open PySem PySem.Spec PyProof.Rows PySem.W Builtin Builtin.ObjectAttr Builtin.Getset_descriptor
section
variable {prog:Program}{w:World}{A:Around}{E:Value->Shared->Prop}{hh:Heap}{g:Array GenState}{dr:Drawn}{t:Nat}{os:OsState}{x C:Addr}{ob:Obj}{K:PySem.W.Frag}
end
section
variable {X:Cx}
end
end L2
namespace L2
open PySem PySem.Spec PyProof.Rows
section
variable {P:Program}{w:World}{K:PySem.W.Frag}{mg:Str->Option Value}{base:Heap}{k:Nat}{f:Addr}{fd:FuncData}{ps:List Str}{sp sp':Sp}{CX:CXT}
end
end L2
namespace L2
open PySem PySem.Spec PyProof.Rows
section
variable {X:Cx}
end
end L2
namespace L2
open PySem PySem.Spec PyProof.Rows
section
variable {X:Cx}
end
end L2
namespace Tw
open PySem L2
section
variable {K:PySem.W.Frag}
theorem eR {α:Type}{a D:Addr}{xs:List α}{el fv:α->V}{te:TE}{σ:St}{H:Hp}{Q:Hp->Prop}(ha:H a=some (.lst (xs.map el)))(hD:H D=none)(hl:xs.length≤1000)(hs:∀(i:Nat) (x:α),xs[i]? = some x->∀(H4:Hp) (Qv:VK),Same H H4->(∀H5,Same H4 H5->Qv (fv x) H5)->te (σ++[some (el x)]) H4 Qv)(hq:∀H2,H2 D=some (.lst (xs.map fv))->Same H H2->Q H2):∃W:Nat->Nat->List V->Hp->Prop,(∃m,W 0 m [] (upd H D (.lst [])))/\∀i m ys H2,W i m ys H2->H2 D=some (.lst ys)/\(((Itl K a).stop i H2/\Q H2)∨((Itl K a).go i H2/\∃N:List V->Hp->Prop,(∀ys' H',N ys' H'->∃m',m' < m/\W (i+1) m' ys' H')/\∀y H3,(Itl K a).yld i H2 y H3->tYes (σ++[some y]) H3 fun c H4=>if c=true then te (σ++[some y]) H4 fun z H5=>H5 D=some (.lst ys)/\ys.length < sizeLine/\N (ys++[z]) (upd H5 D (.lst (ys++[z])))else N ys H4)):=by
 refine bV (K:=K) (a:=a) (xs:=xs.map el) (fun i ys H2=>ys=(xs.take i).map fv/\H2 D=some (.lst ys)/\Same H H2) (fun _ _ _ h=>⟨h.2.1,SqL.of (h.2.2 _ _ ha)⟩) ⟨rfl,a9,aj hD⟩ ?_ ?_
 . rintro i y ys H2 hi ⟨rfl,hD2,s2⟩;rw[List.getElem?_map]at hi;cases e:xs[i]? with
   | none=>rw[e]at hi;cases hi
   | some x =>
    rw[e]at hi;cases hi;have hil:=(List.getElem?_eq_some_iff.mp e).1;refine yesI (hs i x e H2 _ s2 fun H5 s5=>⟨s5 _ _ hD2,by rw[List.length_map,List.length_take];exact au (by omega),by rw[List.take_add_one,e,List.map_append];rfl,a9,fun b o e=>by rw[ac (a8 e hD)];exact s5 b o (s2 b o e)⟩)
 . rintro ys H2 ⟨rfl,hD2,s2⟩;rw[List.take_of_length_le (by rw[List.length_map];exact Nat.le_refl _)]at hD2
   exact hq H2 hD2 s2
theorem comp_rng {D:Addr}{n:Nat}{lo:Int}{fv:Nat->V}{te:TE}{σ:St}{H:Hp}{Q:Hp->Prop}(hD:H D=none)(hl:n≤1000)(hs:∀(i:Nat),i < n->∀(H4:Hp) (Qv:VK),Same H H4->(∀H5,Same H4 H5->Qv (fv i) H5)->te (σ++[some (.int (lo+i))]) H4 Qv)(hq:∀H2,H2 D=some (.lst ((List.range n).map fv))->Same H H2->Q H2):∃W:Nat->Nat->List V->Hp->Prop,(∃m,W 0 m [] (upd H D (.lst [])))/\∀i m ys H2,W i m ys H2->H2 D=some (.lst ys)/\(((Itr lo n).stop i H2/\Q H2)∨((Itr lo n).go i H2/\∃N:List V->Hp->Prop,(∀ys' H',N ys' H'->∃m',m' < m/\W (i+1) m' ys' H')/\∀y H3,(Itr lo n).yld i H2 y H3->tYes (σ++[some y]) H3 fun c H4=>if c=true then te (σ++[some y]) H4 fun z H5=>H5 D=some (.lst ys)/\ys.length < sizeLine/\N (ys++[z]) (upd H5 D (.lst (ys++[z])))else N ys H4)):=by
 refine cp (fun i ys H2=>ys=(List.range i).map fv/\H2 D=some (.lst ys)/\Same H H2) (fun _ _ _ h=>h.2.1) ⟨rfl,a9,aj hD⟩ ?_ ?_
 . rintro i ys H2 hi ⟨rfl,hD2,s2⟩;refine yesI (hs i hi H2 _ s2 fun H5 s5=>⟨s5 _ _ hD2,by rw[List.length_map,List.length_range];exact au (by omega),by rw[List.range_succ,List.map_append];rfl,a9,fun b o e=>by rw[ac (a8 e hD)];exact s5 b o (s2 b o e)⟩)
 . rintro ys H2 ⟨rfl,hD2,s2⟩;exact hq H2 hD2 s2
end
end Tw
namespace L2
open PySem PySem.Spec PyProof.Rows
section
variable {X:Cx}
end
end L2
namespace Tw
open PySem L2
section
variable {K:PySem.W.Frag}
theorem comp_rows {a D:Addr}{as:List Addr}{rs:List Road}{fv:Road->V}{te:TE}{σ:St}{H:Hp}{Q:Hp->Prop}(hR:RowsAt H a as (rs.map rowI))(hD:H D=none)(hl:rs.length≤1000)(hs:∀r p,r∈rs->∀(H4:Hp) (Qv:VK),H4 p=some (.lst [.int r.1,.int r.2.1,.int r.2.2])->Same H H4->(∀H5,Same H4 H5->Qv (fv r) H5)->te (σ++[some (.ref p)]) H4 Qv)(hq:∀H2,H2 D=some (.lst (rs.map fv))->Same H H2->Q H2):∃W:Nat->Nat->List V->Hp->Prop,(∃m,W 0 m [] (upd H D (.lst [])))/\∀i m ys H2,W i m ys H2->H2 D=some (.lst ys)/\(((Itl K a).stop i H2/\Q H2)∨((Itl K a).go i H2/\∃N:List V->Hp->Prop,(∀ys' H',N ys' H'->∃m',m' < m/\W (i+1) m' ys' H')/\∀y H3,(Itl K a).yld i H2 y H3->tYes (σ++[some y]) H3 fun c H4=>if c=true then te (σ++[some y]) H4 fun z H5=>H5 D=some (.lst ys)/\ys.length < sizeLine/\N (ys++[z]) (upd H5 D (.lst (ys++[z])))else N ys H4)):=by
 have al:=hR.len;rw[List.length_map]at al;refine bV (K:=K) (a:=a) (xs:=as.map V.ref) (fun i ys H2=>ys=(rs.take i).map fv/\H2 D=some (.lst ys)/\Same H H2) (fun _ _ _ h=>⟨h.2.1,SqL.of (h.2.2 _ _ hR.top)⟩) ⟨rfl,a9,aj hD⟩ ?_ ?_
 . rintro i y zs H2 hi ⟨rfl,hD2,s2⟩;rw[List.getElem?_map]at hi;cases e:as[i]? with
   | none=>rw[e]at hi;cases hi
   | some p =>
    rw[e]at hi;cases hi;have hil:i < rs.length:=by rw[←al];exact(List.getElem?_eq_some_iff.mp e).1
    have er:rs[i]? = some rs[i]:=List.getElem?_eq_getElem hil;have hrow:H2 p=some (.lst [.int rs[i].1,.int rs[i].2.1,.int rs[i].2.2]):=s2 _ _ (hR.row i p (rowI rs[i]) e (by rw[List.getElem?_map,er];rfl))
    refine yesI (hs rs[i] p (List.mem_of_getElem? er) H2 _ hrow s2 fun H5 s5=>⟨s5 _ _ hD2,by rw[List.length_map,List.length_take];exact au (by omega),by rw[List.take_add_one,er,List.map_append];rfl,a9,fun b o e=>by rw[ac (a8 e hD)];exact s5 b o (s2 b o e)⟩)
 . rintro ys H2 ⟨rfl,hD2,s2⟩;rw[List.length_map,al,List.take_length]at hD2;exact hq H2 hD2 s2
end
end Tw
namespace L2
open PySem PySem.Spec PyProof.Rows
section
variable {X:Cx}
end
end L2
namespace L2
open PySem PySem.Spec PyProof.Rows
section
variable {X:Cx}
end
end L2
namespace L2
open PySem PySem.Spec PyProof.Rows
section
variable {X:Cx}
end
end L2
namespace L2
open PySem PySem.Spec PyProof.Rows
open PySem.Builtin PySem.Builtin.Str
section
variable {X:Cx}
end
end L2
namespace Tw
open PySem L2
section
variable {K:PySem.W.Frag}
end
end Tw
namespace Tw
open PySem L2 PySem.StrLaws PySem.Builtin.Str PySem.NumText
end Tw
namespace Tw
open PySem L2 PySem.StrLaws
end Tw
namespace L2
open PySem PySem.Spec PyProof.Rows
section
variable {X:Cx}{elt iter:Expr}{ifs:List Expr}{scope:Scope}{pos px:Pos}{x:Str}{wi:TI}{tf:TT}{te:TE}
end
end L2
namespace Tw
open PySem L2 PySem.StrLaws PySem.Builtin.Str PySem.NumText
end Tw
namespace Tw
open PySem L2 PySem.StrLaws PySem.Builtin.Str PySem.NumText
end Tw
namespace Tw
open PySem
end Tw
namespace L2
open PySem PySem.Spec PyProof.Rows
open PySem.Builtin PySem.Builtin.Str
section
variable {X:Cx}
end
end L2
namespace Tw
structure Met (rs:List Road) (vs:List Int) (f:Int->Int->Int):Prop where
 zero:∀x∈vs,f x x=0
 nn:∀x∈vs,∀y∈vs,0≤f x y
 sym:∀x∈vs,∀y∈vs,f x y=f y x
 road:∀x∈vs,∀r∈rs,f x r.1=f x r.2.1+r.2.2∨f x r.2.1=f x r.1+r.2.2
 one:∀x∈vs,∀r∈rs,∀q∈rs,∀v p p',Joins r v p->Joins q v p'->f x v=f x p+r.2.2->f x v=f x p'+q.2.2->p=p'
theorem Met.perm {rs rs':List Road}{vs vs':List Int}{f:Int->Int->Int}(h:Met rs vs f)(hr:rs'.Perm rs)(hv:vs'.Perm vs):Met rs' vs' f:=
 ⟨fun x hx=>h.zero x (hv.mem_iff.mp hx),fun x hx y hy=>h.nn x (hv.mem_iff.mp hx) y (hv.mem_iff.mp hy),fun x hx y hy=>h.sym x (hv.mem_iff.mp hx) y (hv.mem_iff.mp hy),fun x hx r hr'=>h.road x (hv.mem_iff.mp hx) r (hr.mem_iff.mp hr'),
  fun x hx r hr' q hq=>h.one x (hv.mem_iff.mp hx) r (hr.mem_iff.mp hr') q (hr.mem_iff.mp hq)⟩
def metX (f:Int->Int->Int)(u w l:Int)(x y:Int):Int:=if x=w then (if y=w then 0 else f u y+l)else if y=w then f x u+l else f x y
theorem bp {f:Int->Int->Int}{u w l x y:Int}(hx:x≠w)(hy:y≠w):metX f u w l x y=f x y:=by unfold metX;rw[if_neg hx,if_neg hy]
theorem dL {f:Int->Int->Int}{u w l x:Int}(hx:x≠w):metX f u w l x w=f x u+l:=by unfold metX;rw[if_neg hx,if_pos rfl]
theorem b7 {f:Int->Int->Int}{u w l y:Int}(hy:y≠w):metX f u w l w y=f u y+l:=by unfold metX;rw[if_pos rfl,if_neg hy]
theorem fe {f:Int->Int->Int}{u w l:Int}:metX f u w l w w=0:=by unfold metX;rw[if_pos rfl,if_pos rfl]
theorem Met.hang {rs:List Road}{vs:List Int}{f:Int->Int->Int}(h:Met rs vs f)(pl:∀r∈rs,r.1∈vs/\r.2.1∈vs)(hl:∀r∈rs,1≤r.2.2){u w:Int}{r:Road}(hu:u∈vs)(hw:w∉vs)(j:Joins r u w)(h1:1≤r.2.2):Met (r::rs) (w::vs) (metX f u w r.2.2):=by
 have ne:∀{x:Int},x∈vs->x≠w:=fun hx e=>hw (e▸hx);have zu:=h.zero u hu;refine⟨fun x hx=>?_,fun x hx y hy=>?_,fun x hx y hy=>?_,fun x hx q hq=>?_,fun x hx q hq q' hq' v p p' jq jq' e e'=>?_⟩
 . rcases List.mem_cons.mp hx with z | hx
   . rw[z];exact fe
   . rw[bp (ne hx) (ne hx)];exact h.zero x hx
 . rcases List.mem_cons.mp hx with z | hx<;>rcases List.mem_cons.mp hy with z' | hy
   . rw[z,z',fe];exact Int.le_refl _
   . rw[z,b7 (ne hy)];have:=h.nn u hu y hy;omega
   . rw[z',dL (ne hx)];have:=h.nn x hx u hu;omega
   . rw[bp (ne hx) (ne hy)];exact h.nn x hx y hy
 . rcases List.mem_cons.mp hx with z | hx<;>rcases List.mem_cons.mp hy with z' | hy
   . rw[z,z']
   . rw[z,b7 (ne hy),dL (ne hy),h.sym u hu y hy]
   . rw[z',dL (ne hx),b7 (ne hx),h.sym x hx u hu]
   . rw[bp (ne hx) (ne hy),bp (ne hy) (ne hx)];exact h.sym x hx y hy
 . have key:∀{a b:Int},a=u->b=w->metX f u w r.2.2 x a=metX f u w r.2.2 x b+r.2.2∨metX f u w r.2.2 x b=metX f u w r.2.2 x a+r.2.2:=fun{a b} ea eb=>by
    subst ea;subst eb;rcases List.mem_cons.mp hx with z | hx
    . rw[z,fe,b7 (ne hu)];left;omega
    . rw[dL (ne hx),bp (ne hx) (ne hu)];right;rfl
   rcases List.mem_cons.mp hq with e | hq
   . subst e;rcases j with⟨a,b⟩ | ⟨a,b⟩
     . exact key a b
     . exact(key b a).symm
   . obtain⟨p1,p2⟩:=pl q hq;rcases List.mem_cons.mp hx with z | hx
     . rw[z,b7 (ne p1),b7 (ne p2)];rcases h.road u hu q hq with e | e<;>omega
     . rw[bp (ne hx) (ne p1),bp (ne hx) (ne p2)];exact h.road x hx q hq
 ·
  have mem:∀{q:Road} {v p:Int},q∈rs->Joins q v p->v∈vs/\p∈vs:=fun{q v p} hq jq=>by
   obtain⟨p1,p2⟩:=pl q hq;rcases jq with⟨a,b⟩ | ⟨a,b⟩
   . rw[a]at p1;rw[b]at p2;exact⟨p1,p2⟩
   . rw[a]at p1;rw[b]at p2;exact⟨p2,p1⟩
  have new:∀{v p:Int},Joins r v p->(v=u/\p=w)∨(v=w/\p=u):=fun{v p} jr=>by
   rcases j with⟨a,b⟩ | ⟨a,b⟩<;>rcases jr with⟨c,d⟩ | ⟨c,d⟩
   . left;omega
   . right;omega
   . right;omega
   . left;omega
  rcases List.mem_cons.mp hq with eq | hm<;>rcases List.mem_cons.mp hq' with eq' | hm'
  . subst eq;subst eq';rcases new jq with⟨a,b⟩ | ⟨a,b⟩<;>rcases new jq' with⟨c,d⟩ | ⟨c,d⟩
    . omega
    . have:=ne hu;omega
    . have:=ne hu;omega
    . omega
  . subst eq;obtain⟨mv,mp⟩:=mem hm' jq';rcases new jq with⟨a,b⟩ | ⟨a,b⟩
    . subst a;subst b;rcases List.mem_cons.mp hx with z | hx
      . subst z;rw[b7 (ne hu),b7 (ne mp),zu]at e';have:=h.nn v hu p' mp;have:=hl q' hm';omega
      . rw[dL (ne hx),bp (ne hx) (ne hu)]at e;omega
    . rw[a]at mv;exact absurd mv hw
  . subst eq';obtain⟨mv,mp⟩:=mem hm jq;rcases new jq' with⟨a,b⟩ | ⟨a,b⟩
    . subst a;subst b;rcases List.mem_cons.mp hx with z | hx
      . subst z;rw[b7 (ne hu),b7 (ne mp),zu]at e;have:=h.nn v hu p mp;have:=hl q hm;omega
      . rw[dL (ne hx),bp (ne hx) (ne hu)]at e';omega
    . rw[a]at mv;exact absurd mv hw
  . obtain⟨mv,mp⟩:=mem hm jq;obtain⟨_,mp'⟩:=mem hm' jq';rcases List.mem_cons.mp hx with z | hx
    . subst z;rw[b7 (ne mv),b7 (ne mp)]at e;rw[b7 (ne mv),b7 (ne mp')]at e';exact h.one u hu q hm q' hm' v p p' jq jq' (by omega) (by omega)
    . rw[bp (ne hx) (ne mv),bp (ne hx) (ne mp)]at e;rw[bp (ne hx) (ne mv),bp (ne hx) (ne mp')]at e';exact h.one x hx q hm q' hm' v p p' jq jq' e e'
theorem Tr.met {rs:List Road}{vs:List Int}(t:Tr rs vs):(∀r∈rs,1≤r.2.2)->∃f,Met rs vs f:=by
 induction t with
 | one v =>
  intro _;refine⟨fun _ _=>0,fun _ _=>rfl,fun _ _ _ _=>Int.le_refl _,fun _ _ _ _=>rfl,fun _ _ r hr=>(nomatch hr),fun _ _ r hr=>(nomatch hr)⟩
 | @hang rs rs' vs vs' u w r t hu hw j p q ih =>
  intro hl;have hl':∀r∈rs,1≤r.2.2:=fun x hx=>hl x (p.mem_iff.mpr (List.mem_cons_of_mem _ hx));obtain⟨f,h⟩:=ih hl';exact⟨_,(h.hang (fun r hr=>let ⟨a,b,_⟩:=t.places r hr;⟨a,b⟩) hl' hu hw j (hl r (p.mem_iff.mpr List.mem_cons_self))).perm p q⟩
theorem Tree.met {n:Nat}{rs:List Road}(t:Tree n rs):∃f,Met rs (pl n) f:=t.tr.met t.len
theorem nbOf_mem {rs:List Road}(ap:rs.Pairwise Apart)(hv:∀r∈rs,r.1≠r.2.1)(v x l:Int):(x,l)∈nbOf rs v<->∃r∈rs,Joins r v x/\r.2.2=l:=by
 have gen:∀(t:List Road) (pre:List Road),(pre++t).Pairwise Apart->(∀r∈pre++t,r.1≠r.2.1)->((x,l)∈nbOf pre v<->∃r∈pre,Joins r v x/\r.2.2=l)->((x,l)∈nbOf (pre++t) v<->∃r∈pre++t,Joins r v x/\r.2.2=l):=by
  intro t
  induction t with
  | nil=>intro pre _ _ h;rw[List.append_nil];exact h
  | cons r t ih =>
   intro pre hp hne h;have e:pre++r::t=(pre++[r])++t:=by simp
   rw[e]at hp hne⊢;refine ih (pre++[r]) hp hne ?_;have hp1:(pre++[r]).Pairwise Apart:=(List.pairwise_append.mp hp).1;have hap:∀q∈pre,Apart q r:=fun q hq=>(List.pairwise_append.mp hp1).2.2 q hq r (by simp)
   have hr:r.1≠r.2.1:=hne r (by simp)
   have new:∀x,Joins r v x->¬x∈(nbOf pre v).map (·.1):=fun x j hx=>by
    obtain⟨q,hq,j'⟩:=(c9 pre v x).mp hx;obtain⟨a1,a2⟩:=hap q hq;rcases j with⟨c,d⟩ | ⟨c,d⟩<;>rcases j' with⟨c',d'⟩ | ⟨c',d'⟩
    . exact a1 ⟨by omega,by omega⟩
    . exact a2 ⟨by omega,by omega⟩
    . exact a2 ⟨by omega,by omega⟩
    . exact a1 ⟨by omega,by omega⟩
   have pm:∀z y,¬z∈(nbOf pre v).map (·.1)->((x,l)∈put (nbOf pre v) z y<->(x,l)∈nbOf pre v∨(x=z/\l=y)):=fun z y hz=>by
    unfold put;rw[if_neg]
    . rw[List.mem_append];simp
    . intro h;obtain⟨p,hp,e⟩:=List.any_eq_true.mp h;exact hz (List.mem_map.mpr ⟨p,hp,of_decide_eq_true e⟩)
   have ex:(∃q∈pre++[r],Joins q v x/\q.2.2=l)<->(∃q∈pre,Joins q v x/\q.2.2=l)∨(Joins r v x/\r.2.2=l):=by
    constructor
    . rintro⟨q,hq,z⟩;rcases List.mem_append.mp hq with hq | hq
      . exact .inl ⟨q,hq,z⟩
      . rw[List.mem_singleton.mp hq]at z;exact .inr z
    . rintro(⟨q,hq,z⟩ | z)
      . exact⟨q,List.mem_append_left _ hq,z⟩
      . exact⟨r,List.mem_append_right _ (by simp),z⟩
   rw[ex,gY,←h];unfold nb1
   split
   . rename_i h1;rw[pm _ _ (new _ (.inl ⟨h1,rfl⟩))];constructor
     . rintro(z | ⟨z1,z2⟩)
       . exact .inl z
       . exact .inr ⟨.inl ⟨h1,z1.symm⟩,z2.symm⟩
     . rintro(z | ⟨z1,z2⟩)
       . exact .inl z
       . refine .inr ⟨?_,z2.symm⟩;rcases z1 with⟨a,b⟩ | ⟨a,b⟩<;>omega
   . rename_i h1
     split
     . rename_i h2;rw[pm _ _ (new _ (.inr ⟨rfl,h2⟩))];constructor
       . rintro(z | ⟨z1,z2⟩)
         . exact .inl z
         . exact .inr ⟨.inr ⟨z1.symm,h2⟩,z2.symm⟩
       . rintro(z | ⟨z1,z2⟩)
         . exact .inl z
         . refine .inr ⟨?_,z2.symm⟩;rcases z1 with⟨a,b⟩ | ⟨a,b⟩<;>omega
     . rename_i h2;constructor
       . exact .inl
       . rintro(z | ⟨z1,z2⟩)
         . exact z
         . rcases z1 with⟨a,b⟩ | ⟨a,b⟩
           . exact absurd a h1
           . exact absurd b h2
 have:=gen rs [] (by simpa using ap) (by simpa using hv) (by simp[nbOf])
 simpa using this
theorem Tree.nb_mem {n:Nat}{rs:List Road}(t:Tree n rs)(v x l:Int):(x,l)∈nbOf rs v<->∃r∈rs,Joins r v x/\r.2.2=l:=nbOf_mem t.tr.apart (fun r hr=>(t.tr.places r hr).2.2) v x l
theorem Srch.dist {n:Nat}{rs:List Road}{s:Int}{k:Nat}{st:List (Int×Int)}{f:Int->Int->Int}(sr:Srch n (nbOf rs) s k st)(m:Met rs (pl n) f)(hl:∀r∈rs,1≤r.2.2):∀(i:Nat) (p q:Int),st[i]? = some (p,q)->0 < i->∃r∈rs,Joins r q p/\f s p=f s q+r.2.2:=by
 have hs:s∈pl n:=mem_pl.mpr (sr.rng (s,s) (List.mem_of_getElem? sr.first));have mem:∀{i:Nat} {p q:Int},st[i]? = some (p,q)->p∈pl n:=fun h=>mem_pl.mpr (sr.rng _ (List.mem_of_getElem? h));intro i
 induction i using Nat.strongRecOn with
 | _ i ih =>
  intro p q hpq hi;obtain⟨j,hj,_,hq,hk⟩:=sr.par i p q hpq hi;obtain⟨r,hr,jr⟩:=(c9 rs q p).mp hk;have hqm:∃q',st[j]? = some (q,q'):=by
   rw[List.getElem?_map]at hq;cases e:st[j]? with
   | none=>rw[e]at hq;cases hq
   | some x=>rw[e]at hq;exact⟨x.2,by rw[←(Option.some.inj hq:x.1=q)]⟩
  obtain⟨q',hj'⟩:=hqm;refine⟨r,hr,jr,?_⟩;have two:f s p=f s q+r.2.2∨f s q=f s p+r.2.2:=by
   rcases m.road s hs r hr with e | e<;>rcases jr with⟨a,b⟩ | ⟨a,b⟩<;>rw[a,b]at e
   . exact .inr e
   . exact .inl e
   . exact .inl e
   . exact .inr e
  rcases two with e | e
  . exact e
  . exfalso;have lr:=hl r hr;by_cases j0:j=0
    . subst j0;rw[sr.first]at hj';cases hj';have:=m.zero s hs;have:=m.nn s hs p (mem hpq);omega
    . obtain⟨r',hr',jr',e'⟩:=ih j hj q q' hj' (by omega)
      have hp:p=q':=m.one s hs r hr r' hr' q p q' jr (jr'.symm) e e';obtain⟨j2,hj2,_,hq2,_⟩:=sr.par j q q' hj' (by omega)
      rw[←hp]at hq2;have hpi:(st.map (·.1))[i]? = some p:=by rw[List.getElem?_map,hpq];rfl
      obtain⟨h1,q1⟩:=List.getElem?_eq_some_iff.mp hq2;obtain⟨h2,q2⟩:=List.getElem?_eq_some_iff.mp hpi;have:=(List.getElem_inj sr.nd).mp (q1.trans q2.symm);omega
theorem Srch.all {n:Nat}{rs:List Road}{s:Int}{st:List (Int×Int)}(t:Tree n rs)(sr:Srch n (nbOf rs) s st.length st):∀v∈pl n,v∈st.map (·.1):=by
 have hs:s∈st.map (·.1):=List.mem_map.mpr ⟨(s,s),List.mem_of_getElem? sr.first,rfl⟩;have hs':s∈pl n:=mem_pl.mpr (sr.rng (s,s) (List.mem_of_getElem? sr.first));intro v hv;refine t.tr.whole (P:=fun v=>v∈st.map (·.1)) (fun r hr=>?_) s hs' v hv hs;have go:∀a b,Joins r a b->a∈st.map (·.1)->b∈st.map (·.1):=fun a b j ha=>by
  obtain⟨i,hi⟩:=List.mem_iff_getElem?.mp ha;have hil:i < st.length:=by
   have:=(List.getElem?_eq_some_iff.mp hi).1;simpa using this
  exact sr.clo i a hil hi b ((c9 rs a b).mpr ⟨r,hr,j⟩)
 exact⟨go _ _ (.inl ⟨rfl,rfl⟩),go _ _ (.inr ⟨rfl,rfl⟩)⟩
end Tw
namespace Tw
structure Gr (rs:List Road) (n:Nat) (f:Int->Int->Int) (s:Int) (fd:List (Int×Int)):Prop where
 nd:(fd.map (·.1)).Nodup
 rng:∀p∈fd.map (·.1),p∈pl n
 val:∀p d,(p,d)∈fd->d=f s p
 st:s∈fd.map (·.1)
 clo:∀p∈fd.map (·.1),p≠s->∀r∈rs,∀q,Joins r p q->f s p=f s q+r.2.2->q∈fd.map (·.1)
theorem Gr.start {rs:List Road}{n:Nat}{f:Int->Int->Int}{s:Int}(m:Met rs (pl n) f)(hs:s∈pl n):Gr rs n f s [(s,0)]:=by
 refine⟨by simp,fun p hp=>?_,fun p d h=>?_,by simp,fun p hp ne=>?_⟩
 . have:p=s:=by simpa using hp
   rw[this];exact hs
 . have:p=s/\d=0:=by simpa using h
   rw[this.1,this.2,m.zero s hs]
 . exact absurd (by simpa using hp) ne
theorem Met.two {rs:List Road}{vs:List Int}{f:Int->Int->Int}(m:Met rs vs f){s:Int}(hs:s∈vs){r:Road}(hr:r∈rs){p q:Int}(j:Joins r p q):f s q=f s p+r.2.2∨f s p=f s q+r.2.2:=by
 rcases m.road s hs r hr with e | e<;>rcases j with⟨a,b⟩ | ⟨a,b⟩<;>rw[a,b]at e
 . exact .inr e
 . exact .inl e
 . exact .inl e
 . exact .inr e
theorem Gr.grow {rs:List Road}{n:Nat}{f:Int->Int->Int}{s:Int}{fd:List (Int×Int)}(g:Gr rs n f s fd)(m:Met rs (pl n) f)(hl:∀r∈rs,1≤r.2.2){r:Road}(hr:r∈rs){p q d:Int}(j:Joins r p q)(hq:q∈pl n)(hp:(p,d)∈fd)(nq:q∉fd.map (·.1)):Gr rs n f s (fd++[(q,d+r.2.2)]):=by
 have hpk:p∈fd.map (·.1):=List.mem_map.mpr ⟨_,hp,rfl⟩;have hs:=g.rng s g.st;have em:(fd++[(q,d+r.2.2)]).map (·.1)=fd.map (·.1)++[q]:=by rw[List.map_append];rfl
 have key:f s q=f s p+r.2.2:=by
  rcases m.two hs hr j with e | e
  . exact e
  . exfalso;by_cases ps:p=s
    . have:=m.zero s hs;have:=m.nn s hs q hq;have:=hl r hr;rw[ps]at e;omega
    . exact nq (g.clo p hpk ps r hr q j e)
 refine⟨?_,fun x hx=>?_,fun x y h=>?_,?_,fun x hx nx r' hr' y j' e=>?_⟩
 . rw[em];refine List.nodup_append.mpr ⟨g.nd,by simp,fun a ha b hb e=>?_⟩
   have:b=q:=by simpa using hb
   exact nq (by rw[←this,←e];exact ha)
 . rw[em]at hx;rcases List.mem_append.mp hx with h | h
   . exact g.rng x h
   . rw[List.mem_singleton.mp h];exact hq
 . rcases List.mem_append.mp h with h | h
   . exact g.val x y h
   . have:x=q/\y=d+r.2.2:=by simpa using h
     rw[this.1,this.2,key,g.val p d hp]
 . rw[em];exact List.mem_append_left _ g.st
 . rw[em]at hx⊢;rcases List.mem_append.mp hx with h | h
   . exact List.mem_append_left _ (g.clo x h nx r' hr' y j' e)
   . have ex:=List.mem_singleton.mp h;subst ex;have:y=p:=m.one s hs r' hr' r hr x y p j' j.symm e key;rw[this];exact List.mem_append_left _ hpk
theorem Gr.length {rs:List Road}{n:Nat}{f:Int->Int->Int}{s:Int}{fd:List (Int×Int)}(g:Gr rs n f s fd)(h:n≤fd.length):∀v∈pl n,v∈fd.map (·.1):=by
 have le:(fd.map (·.1)).length≤n:=by
  have key:∀(m:Nat) (l:List Int),l.Nodup->(∀x∈l,0≤x/\x < m)->l.length≤m:=by
   intro m
   induction m with
   | zero =>
    intro l _ h;cases l with
    | nil=>exact Nat.le_refl _
    | cons x t=>have:=h x (by simp);omega
   | succ m ih =>
    intro l hn h;by_cases hm:((m:Nat):Int)∈l
    . have hp:=List.perm_cons_erase hm;rw[hp.length_eq,List.length_cons];obtain⟨h1,h2⟩:=List.nodup_cons.mp (hp.nodup_iff.mp hn);have:=ih (l.erase (m:Int)) h2 fun x hx=>by
       have b:=h x (List.mem_of_mem_erase hx);have:x≠(m:Int):=fun e=>h1 (e▸hx);omega
      omega
    . have:=ih l hn fun x hx=>by
       have b:=h x hx;have:x≠(m:Int):=fun e=>hm (e▸hx);omega
      omega
  exact key n _ g.nd fun x hx=>mem_pl.mp (g.rng x hx)
 intro v hv;obtain⟨h1,h2⟩:=mem_pl.mp hv;exact ck n _ g.nd (fun x hx=>mem_pl.mp (g.rng x hx)) (by rw[List.length_map]at le⊢;omega) v h1 h2
theorem Gr.full {rs:List Road}{n:Nat}{f:Int->Int->Int}{s:Int}{fd:List (Int×Int)}(g:Gr rs n f s fd)(t:Tree n rs)(h:∀r∈rs,r.1∈fd.map (·.1)<->r.2.1∈fd.map (·.1)):n≤fd.length:=by
 have all:∀v∈pl n,v∈fd.map (·.1):=fun v hv=>t.tr.whole (P:=fun v=>v∈fd.map (·.1)) h s (g.rng s g.st) v hv g.st;have sub:∀(m:Nat) (l:List Int),(∀v,0≤v->v < (m:Int)->v∈l)->m≤l.length:=by
  intro m
  induction m with
  | zero=>intro l _;omega
  | succ m ih =>
   intro l hl;have hm:=hl m (by omega) (by omega)
   have hp:=List.perm_cons_erase hm;rw[hp.length_eq,List.length_cons];have:=ih (l.erase (m:Int)) fun v h1 h2=>(List.mem_erase_of_ne (by omega)).mpr (hl v h1 (by omega))
   omega
 have:=sub n (fd.map (·.1)) fun v h1 h2=>all v (mem_pl.mpr ⟨h1,h2⟩);simpa using this
end Tw
namespace Tw
def Desc (rs:List Road)(f:Int->Int->Int)(b:Int)(ws:List Int):Prop:=∀(i:Nat) (p q:Int),ws[i]? = some p->ws[i+1]? = some q->∃r∈rs,Joins r p q/\f b p=f b q+r.2.2
theorem Desc.one {rs:List Road}{f:Int->Int->Int}{b a:Int}:Desc rs f b [a]:=fun i p q _ h=>by simp at h
theorem Desc.lt {rs:List Road}{f:Int->Int->Int}{b:Int}{ws:List Int}(d:Desc rs f b ws)(hl:∀r∈rs,1≤r.2.2):∀(k i:Nat) (p q:Int),ws[i]? = some p->ws[i+k+1]? = some q->f b q < f b p:=by
 intro k
 induction k with
 | zero =>
  intro i p q h1 h2;obtain⟨r,hr,_,e⟩:=d i p q h1 h2;have:=hl r hr;omega
 | succ k ih =>
  intro i p q h1 h2;have hlt:i+k+1 < ws.length:=by
   have:=(List.getElem?_eq_some_iff.mp h2).1;omega
  obtain⟨x,hx⟩:∃x,ws[i+k+1]? = some x:=⟨_,List.getElem?_eq_getElem hlt⟩;have:=ih i p x h1 hx;obtain⟨r,hr,_,e⟩:=d (i+k+1) x q hx h2;have:=hl r hr;omega
theorem Desc.nodup {rs:List Road}{f:Int->Int->Int}{b:Int}{ws:List Int}(d:Desc rs f b ws)(hl:∀r∈rs,1≤r.2.2):ws.Nodup:=by
 unfold List.Nodup;rw[List.pairwise_iff_getElem];intro i j hi hj hij e;have:=d.lt hl (j - i - 1) i ws[i] ws[j] (List.getElem?_eq_getElem hi) (by rw[show i+(j - i - 1)+1=j by omega];exact List.getElem?_eq_getElem hj)
 rw[e]at this;omega
theorem Desc.snoc {rs:List Road}{f:Int->Int->Int}{b:Int}{ws:List Int}{p q:Int}(d:Desc rs f b ws)(hp:ws[ws.length - 1]? = some p){r:Road}(hr:r∈rs)(j:Joins r p q)(e:f b p=f b q+r.2.2):Desc rs f b (ws++[q]):=by
 intro i x y h1 h2;have hw:0 < ws.length:=by
  have:=(List.getElem?_eq_some_iff.mp hp).1;omega
 have hi:i+1 < (ws++[q]).length:=(List.getElem?_eq_some_iff.mp h2).1;rw[List.length_append]at hi;have hi':i < ws.length:=by simp at hi;omega
 rw[List.getElem?_append_left hi']at h1;by_cases hlt:i+1 < ws.length
 . rw[List.getElem?_append_left hlt]at h2;exact d i x y h1 h2
 . have ei:i=ws.length - 1:=by omega
   rw[List.getElem?_append_right (by omega),show i+1 - ws.length=0 by omega]at h2
   have ey:q=y:=by simpa using h2
   rw[ei,hp]at h1;cases h1;subst ey;exact⟨r,hr,j,e⟩
structure WayOf (n:Nat) (rs:List Road) (f:Int->Int->Int) (a b:Int) (ws:List Int):Prop where
 d:Desc rs f b ws
 first:ws[0]? = some a
 last:ws[ws.length - 1]? = some b
 rng:∀x∈ws,x∈pl n
end Tw
namespace Tw
end Tw
namespace Tw
theorem Met.grown {n:Nat}{rs:List Road}{f:Int->Int->Int}(t:Tree n rs)(m:Met rs (pl n) f){s B:Int}(hs:s∈pl n)(hB:∀r∈rs,r.2.2≤B){P:Int->Prop}(h0:P s)
 (hstep:∀r∈rs,∀p q,p∈pl n->q∈pl n->Joins r p q->f s q=f s p+r.2.2->P p->P q) :
 ∀k:Nat,k < n->∃fd:List (Int×Int),Gr rs n f s fd/\fd.length=k+1/\∀x∈fd,x.2≤(k:Int)*B/\P x.1
 | 0,_=>⟨[(s,0)],Gr.start m hs,rfl,fun x hx=>by rw[List.mem_singleton.mp hx];exact⟨by simp,h0⟩⟩
 | k+1,hk=>by
  obtain⟨fd,g,hl,hx⟩:=Met.grown t m hs hB h0 hstep k (by omega)
  have hno:¬∀r∈rs,r.1∈fd.map (·.1)<->r.2.1∈fd.map (·.1):=fun h=>by have:=g.full t h;omega
  obtain⟨r,hr,p,q,j,hp,hq⟩:∃r∈rs,∃p q,Joins r p q/\p∈fd.map (·.1)/\q∉fd.map (·.1):=by
   apply Classical.byContradiction;intro hn;apply hno;intro r hr;constructor
   . intro h1;apply Classical.byContradiction;intro h2;exact hn ⟨r,hr,r.1,r.2.1,.inl ⟨rfl,rfl⟩,h1,h2⟩
   . intro h1;apply Classical.byContradiction;intro h2;exact hn ⟨r,hr,r.2.1,r.1,.inr ⟨rfl,rfl⟩,h1,h2⟩
  obtain⟨⟨p',d⟩,hpd,ep⟩:=List.mem_map.mp hp;have ep':p'=p:=ep;subst ep';obtain⟨m1,m2,_⟩:=t.tr.places r hr;have qm:q∈pl n:=by
   rcases j with⟨_,e⟩ | ⟨e,_⟩
   . rw[←e];exact m2
   . rw[←e];exact m1
  have g2:=g.grow m t.len hr j qm hpd hq;have lr:=t.len r hr;have br:=hB r hr;have ek:((k+1:Nat):Int)*B=(k:Int)*B+B:=by rw[Int.natCast_add,Int.add_mul];simp
  refine⟨fd++[(q,d+r.2.2)],g2,by rw[List.length_append,hl];rfl,fun x hx'=>?_⟩
  rw[ek];rcases List.mem_append.mp hx' with h | h
  . have:=hx x h;exact⟨by omega,this.2⟩
  . have e:x=(q,d+r.2.2):=List.mem_singleton.mp h;subst e;have hp2:=hx _ hpd;refine⟨by have:=hp2.1;show d+r.2.2≤_;have h1:d≤(k:Int)*B:=hp2.1;omega,hstep r hr p' q (g.rng p' hp) qm j ?_ hp2.2⟩
    have v1:=g2.val q (d+r.2.2) (List.mem_append_right _ (List.mem_singleton.mpr rfl));have v2:=g.val p' d hpd;omega
theorem Met.ind {n:Nat}{rs:List Road}{f:Int->Int->Int}(t:Tree n rs)(m:Met rs (pl n) f){s:Int}(hs:s∈pl n){P:Int->Prop}(h0:P s)(hstep:∀r∈rs,∀p q,p∈pl n->q∈pl n->Joins r p q->f s q=f s p+r.2.2->P p->P q):∀v∈pl n,P v:=by
 intro v hv;have n1:=t.lo;obtain⟨B,hB⟩:∃B:Int,∀r∈rs,r.2.2≤B:=by
  clear hstep m t
  induction rs with
  | nil=>exact⟨0,fun _ h=>nomatch h⟩
  | cons r q ih =>
   obtain⟨B,h⟩:=ih;refine⟨max B r.2.2,fun x hx=>?_⟩;rcases List.mem_cons.mp hx with e | e
   . rw[e];exact Int.le_max_right _ _
   . exact Int.le_trans (h x e) (Int.le_max_left _ _)
 obtain⟨fd,g,hl,hx⟩:=Met.grown t m hs hB h0 hstep (n - 1) (by omega)
 obtain⟨x,hxm,e⟩:=List.mem_map.mp (g.length (by omega) v hv)
 rw[←e];exact(hx x hxm).2
end Tw
namespace Tw
section
variable {n:Nat}{rs:List Road}{f:Int->Int->Int}
theorem Met.joins {p q:Int}{r:Road}(t:Tree n rs)(hr:r∈rs)(j:Joins r p q):p∈pl n/\q∈pl n/\1≤r.2.2:=by
 obtain⟨m1,m2,_⟩:=t.tr.places r hr;rcases j with⟨e1,e2⟩ | ⟨e1,e2⟩
 . rw[←e1,←e2];exact⟨m1,m2,t.len r hr⟩
 . rw[←e1,←e2];exact⟨m2,m1,t.len r hr⟩
theorem Met.tri (t:Tree n rs)(m:Met rs (pl n) f){a c d:Int}(ha:a∈pl n)(hc:c∈pl n)(hd:d∈pl n):f c d≤f c a+f a d:=by
 refine Met.ind t m ha (P:=fun d=>f c d≤f c a+f a d) ?_ (fun r hr p q hp hq j e ih=>?_) d hd
 . have:=m.zero a ha;omega
 . have l:=(Met.joins t hr j).2.2;rcases m.two hc hr j with z | z
   . show f c q≤_;have ih':f c p≤f c a+f a p:=ih;omega
   . show f c q≤_;have ih':f c p≤f c a+f a p:=ih;omega
theorem Met.cut (t:Tree n rs)(m:Met rs (pl n) f){r:Road}(hr:r∈rs){p q:Int}(j:Joins r p q){x y:Int}(hx:x∈pl n)(hy:y∈pl n)(ex:f x q=f x p+r.2.2)(ey:f p y=f q y+r.2.2):f x y=f x p+r.2.2+f q y:=by
 obtain⟨hp,hq,hl⟩:=Met.joins t hr j;have key:∀u∈pl n,f p u=f q u+r.2.2->f x u=f x p+r.2.2+f q u/\∃w,∃r0∈rs,Joins r0 u w/\f x u=f x w+r0.2.2/\((w=p/\u=q)∨f q w < f q u):=by
  refine Met.ind t m hq (P:=fun u=>f p u=f q u+r.2.2->f x u=f x p+r.2.2+f q u/\∃w,∃r0∈rs,Joins r0 u w/\f x u=f x w+r0.2.2/\((w=p/\u=q)∨f q w < f q u)) ?_ (fun r' hr' u v hu hv j' e ih ev=>?_)
  . intro _;have z:=m.zero q hq;exact⟨by omega,p,r,hr,j.symm,ex,.inl ⟨rfl,rfl⟩⟩
  . have hl':=(Met.joins t hr' j').2.2;have eu:f p u=f q u+r.2.2:=by
     have s1:=m.sym p hp u hu;have s2:=m.sym q hq u hu;rcases m.two hu hr j with z | z
     ·
      rcases m.two hp hr' j' with y1 | y1<;>omega
     . omega
    obtain⟨e1,w,r0,hr0,j0,e2,e3⟩:=ih eu;rcases m.two hx hr' j' with z | z
    . exact⟨by omega,u,r',hr',j'.symm,z,.inr (by omega)⟩
    . exfalso;have hw:v=w:=m.one x hx r' hr' r0 hr0 u v w j' j0 z e2;rcases e3 with⟨e4,e5⟩ | e4
      . rw[hw,e4]at ev;have z0:=m.zero p hp;have nn:=m.nn q hq p hp;omega
      . rw[hw]at e;omega
 exact(key y hy ey).1
end
end Tw
namespace Tw
section
variable {n:Nat}{rs:List Road}{f:Int->Int->Int}
end
end Tw
namespace Tw
section
variable {n:Nat}{rs:List Road}{f:Int->Int->Int}
theorem Met.zero_eq (t:Tree n rs)(m:Met rs (pl n) f){a x:Int}(ha:a∈pl n)(hx:x∈pl n)(h:f a x=0):x=a:=by
 have key:x=a∨0 < f a x:=Met.ind t m ha (P:=fun x=>x=a∨0 < f a x) (.inl rfl) (fun r hr p q hp hq j e _=>by
  have h1:=m.nn a ha p hp;have h2:=t.len r hr;exact .inr (by omega)) x hx
 rcases key with e | e
 . exact e
 . omega
theorem Met.cross (t:Tree n rs)(m:Met rs (pl n) f){r q:Road}(hr:r∈rs)(hq:q∈rs){a b u v:Int}(j:Joins r a b)(k:Joins q u v)(su:f a u < f b u)(sv:¬f a v < f b v):u=a/\v=b:=by
 obtain⟨ha,hb,hl⟩:=Met.joins t hr j;obtain⟨hu,hv,hk⟩:=Met.joins t hq k;have eu:f u b=f u a+r.2.2:=by
  rcases m.two hu hr j with e | e
  . exact e
  . have h1:=m.sym u hu a ha;have h2:=m.sym u hu b hb;omega
 have ev:f a v=f b v+r.2.2:=by
  have h1:=m.sym v hv a ha;have h2:=m.sym v hv b hb;rcases m.two hv hr j with e | e
  . omega
  . omega
 have c:=Met.cut t m hr j hu hv eu ev;have z:=m.zero u hu;have lq:f u v=q.2.2:=by
  have:=m.nn u hu v hv;rcases m.two hu hq k with e | e
  . omega
  . omega
 have s1:=m.sym u hu a ha;have s2:=m.sym u hu b hb;have n1:=m.nn a ha u hu;have n2:=m.nn b hb v hv;have n3:=m.nn a ha v hv;have n4:=m.nn b hb u hu;refine⟨Met.zero_eq t m ha hu ?_,Met.zero_eq t m hb hv ?_⟩
 . rcases m.two ha hq k with e | e<;>omega
 . rcases m.two hb hq k with e | e<;>omega
end
end Tw
namespace Tw
section
variable {n:Nat}{rs:List Road}{f:Int->Int->Int}
structure SideGr (n:Nat) (f:Int->Int->Int) (s o:Int) (fd:List Int):Prop where
 nd:fd.Nodup
 rng:∀x∈fd,x∈pl n
 near:∀x∈fd,f s x < f o x
 st:s∈fd
theorem Met.side_start (t:Tree n rs)(m:Met rs (pl n) f){s o:Int}{r0:Road}(h0:r0∈rs)(j0:Joins r0 s o):SideGr n f s o [s]:=by
 obtain⟨hs,ho,hl⟩:=Met.joins t h0 j0;refine⟨by simp,fun x hx=>by rw[List.mem_singleton.mp hx];exact hs,fun x hx=>?_,List.mem_singleton.mpr rfl⟩
 rw[List.mem_singleton.mp hx,m.zero s hs];have z:=m.zero o ho;have n1:=m.nn o ho s hs;rcases m.two ho h0 j0 with e | e<;>omega
theorem SideGr.grow {s o:Int}{fd:List Int}(g:SideGr n f s o fd)(t:Tree n rs)(m:Met rs (pl n) f){r0 r:Road}(h0:r0∈rs)(j0:Joins r0 s o)(hr:r∈rs){u x:Int}(j:Joins r u x)(nj:¬Joins r s o)(hu:u∈fd)(hx:x∉fd):SideGr n f s o (fd++[x]):=by
 obtain⟨_,hxm,_⟩:=Met.joins t hr j;refine⟨?_,fun y hy=>?_,fun y hy=>?_,List.mem_append_left _ g.st⟩
 . rw[List.nodup_append];exact⟨g.nd,by simp,fun a ha b hb e=>hx (by rw[←List.mem_singleton.mp hb,←e];exact ha)⟩
 . rcases List.mem_append.mp hy with h | h
   . exact g.rng y h
   . rw[List.mem_singleton.mp h];exact hxm
 . rcases List.mem_append.mp hy with h | h
   . exact g.near y h
   . rw[List.mem_singleton.mp h];apply Classical.byContradiction;intro hn;obtain⟨e1,e2⟩:=Met.cross t m h0 hr j0 j (g.near u hu) hn;subst e1;subst e2;exact nj j
theorem SideGr.full {s o:Int}{fd:List Int}(g:SideGr n f s o fd)(t:Tree n rs)(m:Met rs (pl n) f){r0:Road}(h0:r0∈rs)(j0:Joins r0 s o)(h:∀r∈rs,¬Joins r s o->(r.1∈fd<->r.2.1∈fd)):∀x∈pl n,f s x < f o x->x∈fd:=by
 obtain⟨hs,ho,hl0⟩:=Met.joins t h0 j0;refine Met.ind t m hs (P:=fun x=>f s x < f o x->x∈fd) (fun _=>g.st) fun r hr p q hp hq j e ih hlt=>?_;have lr:=t.len r hr;have z:=m.zero s hs;have zo:=m.zero o ho;have nn1:=m.nn s hs p hp;have nn2:=m.nn s hs o ho;have hp':f s p < f o p:=by
  apply Classical.byContradiction;intro hn;obtain⟨e1,e2⟩:=Met.cross t m h0 hr j0 j.symm hlt hn;subst e1;omega
 have nj:¬Joins r s o:=fun k=>by
  have:(p=s/\q=o)∨(p=o/\q=s):=by
   rcases j with⟨a,b⟩ | ⟨a,b⟩<;>rcases k with⟨c,d⟩ | ⟨c,d⟩
   . exact .inl ⟨by omega,by omega⟩
   . exact .inr ⟨by omega,by omega⟩
   . exact .inr ⟨by omega,by omega⟩
   . exact .inl ⟨by omega,by omega⟩
  rcases this with⟨a,b⟩ | ⟨a,b⟩
  . subst b;omega
  . subst b;omega
 have hpf:=ih hp';have hh:=h r hr nj;rcases j with⟨a,b⟩ | ⟨a,b⟩
 . rw[←b];exact hh.mp (by rw[a];exact hpf)
 . rw[←a];exact hh.mpr (by rw[b];exact hpf)
theorem SideGr.length {s o:Int}{fd:List Int}(g:SideGr n f s o fd)(h:fd.length=n):∀x∈pl n,f s x < f o x->x∈fd:=fun x hx _=>by
 have:=mem_pl.mp hx;exact ck n fd g.nd (fun y hy=>mem_pl.mp (g.rng y hy)) h x this.1 this.2
def jF (n:Nat)(f:Int->Int->Int)(s o:Int):List Int:=(pl n).filter fun x=>decide (f s x < f o x)
theorem SideGr.perm {s o:Int}{fd:List Int}(g:SideGr n f s o fd)(h:∀x∈pl n,f s x < f o x->x∈fd):fd.Perm (jF n f s o):=by
 refine(List.perm_ext_iff_of_nodup g.nd ((j6 n).sublist List.filter_sublist)).mpr fun x=>?_;rw[List.mem_filter,decide_eq_true_iff];exact⟨fun hx=>⟨g.rng x hx,g.near x hx⟩,fun hx=>h x hx.1 hx.2⟩
end
end Tw
namespace Tw
section
variable {n:Nat}{rs:List Road}{f:Int->Int->Int}
theorem eD (l:List Road)(g h:Road->Int):(l.map fun x=>g x+h x).sum=(l.map g).sum+(l.map h).sum:=by
 induction l with
 | nil=>rfl
 | cons x t ih=>rw[List.map_cons,List.map_cons,List.map_cons,List.sum_cons,List.sum_cons,List.sum_cons,ih];omega
theorem gT (l:List Road):(l.map fun _:Road=>(0:Int)).sum=0:=by
 induction l with
 | nil=>rfl
 | cons x t ih=>rw[List.map_cons,List.sum_cons,ih];rfl
theorem bU {l:List Road}{g h:Road->Int}(hl:∀x∈l,g x=h x):(l.map g).sum=(l.map h).sum:=by
 rw[List.map_congr_left hl]
def lift (rs:List Road)(f:Int->Int->Int)(d:Road->Int)(x:Int):Int:=(rs.map fun r=>if f r.2.1 x < f r.1 x then d r else 0).sum
theorem iR:∀{l:List Road} {r0:Road} {g h:Road->Int} {c:Int},l.Pairwise Apart->r0∈l->g r0=h r0+c->(∀r∈l,Apart r r0->g r=h r)->(l.map g).sum=(l.map h).sum+c
 | [],_,_,_,_,_,h,_,_=>nomatch h
 | x::t,r0,g,h,c,pw,hm,e,ho=>by
  obtain⟨p1,p2⟩:=List.pairwise_cons.mp pw;rw[List.map_cons,List.map_cons,List.sum_cons,List.sum_cons];rcases List.mem_cons.mp hm with z | z
  . subst z;have:(t.map g).sum=(t.map h).sum:=bU fun r hr=>ho r (List.mem_cons_of_mem _ hr) (p1 r hr).symm;omega
  . have h1:=iR p2 z e fun r hr=>ho r (List.mem_cons_of_mem _ hr);have h2:=ho x List.mem_cons_self (p1 r0 z);omega
theorem lift_step (t:Tree n rs)(m:Met rs (pl n) f)(lev:Int->Int){r0:Road}(h0:r0∈rs){p q:Int}(j:Joins r0 p q):lift rs f (fun r=>lev r.2.1 - lev r.1) q=lift rs f (fun r=>lev r.2.1 - lev r.1) p+(lev q - lev p):=by
 obtain⟨hp,hq,hl⟩:=Met.joins t h0 j;unfold lift;refine iR t.tr.apart h0 ?_ fun r hr ap=>?_
 . have zp:=m.zero p hp;have zq:=m.zero q hq;have np:=m.nn p hp q hq;have nq:=m.nn q hq p hp;have sy:=m.sym p hp q hq;have t1:=m.two hp h0 j;have t2:=m.two hq h0 j;show(if f r0.2.1 q < f r0.1 q then lev r0.2.1 - lev r0.1 else 0)=(if f r0.2.1 p < f r0.1 p then lev r0.2.1 - lev r0.1 else 0)+_
   rcases j with⟨a,b⟩ | ⟨a,b⟩
   . rw[a,b,if_pos (show f q q < f p q by omega),if_neg (show ¬f q p < f p p by omega)];omega
   . rw[a,b,if_neg (show ¬f p q < f q q by omega),if_pos (show f p p < f q p by omega)];omega
 . have jr:Joins r r.2.1 r.1:=.inr ⟨rfl,rfl⟩;have no:∀u v:Int,Joins r0 u v->¬(u=r.2.1/\v=r.1):=fun u v k ⟨e1,e2⟩=>by
    subst e1;subst e2;rcases k with⟨a,b⟩ | ⟨a,b⟩
    . exact ap.2 ⟨b.symm,a.symm⟩
    . exact ap.1 ⟨a.symm,b.symm⟩
   by_cases hq':f r.2.1 q < f r.1 q
   . rw[if_pos hq',if_pos];apply Classical.byContradiction;intro hn;exact no q p j.symm (Met.cross t m hr h0 jr j.symm hq' hn)
   . rw[if_neg hq',if_neg];intro hn;exact no p q j (Met.cross t m hr h0 jr j hn hq')
theorem jh (t:Tree n rs)(m:Met rs (pl n) f)(lev:Int->Int):∀x∈pl n,lev x=lift rs f (fun r=>lev r.2.1 - lev r.1) x+(lev 0 - lift rs f (fun r=>lev r.2.1 - lev r.1) 0):=by
 have h0:(0:Int)∈pl n:=mem_pl.mpr ⟨Int.le_refl _,by have:=t.lo;omega⟩
 refine Met.ind t m h0 (P:=fun x=>lev x=lift rs f (fun r=>lev r.2.1 - lev r.1) x+(lev 0 - lift rs f (fun r=>lev r.2.1 - lev r.1) 0)) (by omega) fun r hr p q hp hq j e ih=>?_
 have:=lift_step t m lev hr j;show lev q=_;omega
end
end Tw
namespace Tw
section
variable {n:Nat}{rs:List Road}{f:Int->Int->Int}
end
end Tw
namespace Tw
section
variable {n:Nat}{rs:List Road}{f:Int->Int->Int}
end
end Tw
namespace Tw
section
variable {n:Nat}{rs:List Road}{f:Int->Int->Int}
instance decJ16 (r:Road) (u v:Int):Decidable (Joins r u v):=by unfold Joins;infer_instance
theorem Tree.idx (t:Tree n rs){i j:Nat}{r q:Road}(hi:rs[i]? = some r)(hj:rs[j]? = some q){u v:Int}(a:Joins r u v)(b:Joins q u v):i=j:=by
 have ap:=t.tr.apart;have key:∀{i j:Nat} {r q:Road},rs[i]? = some r->rs[j]? = some q->Joins r u v->Joins q u v->¬i < j:=fun{i j r q} hi hj a b lt=>by
  obtain⟨h1,e1⟩:=List.getElem?_eq_some_iff.mp hi;obtain⟨h2,e2⟩:=List.getElem?_eq_some_iff.mp hj;have:=List.pairwise_iff_getElem.mp ap i j h1 h2 lt;rw[e1,e2]at this;rcases a with⟨x,y⟩ | ⟨x,y⟩<;>rcases b with⟨z,w⟩ | ⟨z,w⟩
  . exact this.1 ⟨x.trans z.symm,y.trans w.symm⟩
  . exact this.2 ⟨x.trans w.symm,y.trans z.symm⟩
  . exact this.2 ⟨x.trans w.symm,y.trans z.symm⟩
  . exact this.1 ⟨x.trans z.symm,y.trans w.symm⟩
 have h1:=key hi hj a b;have h2:=key hj hi b a;omega
end
end Tw
namespace Tw
section
variable {n:Nat}{rs:List Road}{f:Int->Int->Int}
end
end Tw
namespace Tw
end Tw
namespace Tw
end Tw
namespace Tw
variable {n:Nat}{rs:List Road}{f:Int->Int->Int}
end Tw
namespace Tw
end Tw
namespace Tw
end Tw
namespace Tw
section
variable {n:Nat}{rs:List Road}{f:Int->Int->Int}
theorem Met.par (t:Tree n rs)(m:Met rs (pl n) f){s:Int}(hs:s∈pl n){x:Int}(hx:x∈pl n)(ne:x≠s):∃r∈rs,∃p,Joins r p x/\f s x=f s p+r.2.2:=by
 refine Met.ind t m hs (P:=fun v=>v≠s->∃r∈rs,∃p,Joins r p v/\f s v=f s p+r.2.2) (fun h=>absurd rfl h) (fun r hr p q _ _ j e _ _=>⟨r,hr,p,j,e⟩) x hx ne
theorem Met.off (t:Tree n rs)(m:Met rs (pl n) f){s x y p:Int}{r:Road}(hs:s∈pl n)(hx:x∈pl n)(hy:y∈pl n)(hr:r∈rs)(j:Joins r p x)(e:f s x=f s p+r.2.2)(ne:y≠x)(b:f x y+f y s=f x s):f p y+f y s=f p s:=by
 obtain⟨q,hq,p',j',e'⟩:=Met.par t m hy hx (fun z=>ne z.symm);obtain⟨hp',_,l1⟩:=Met.joins t hq j';obtain⟨hp,_,l2⟩:=Met.joins t hr j;have tri:=Met.tri t m (a:=y) (c:=p') (d:=s) hy hp' hs;have s1:=m.sym x hx y hy;have s2:=m.sym p' hp' y hy;have s3:=m.sym p' hp' s hs;have s4:=m.sym x hx s hs;have s5:=m.sym p hp s hs;have s6:=m.sym p hp y hy;have two:=m.two hs hq j';have e2:f s x=f s p'+q.2.2:=by
  rcases two with z | z
  . exact z
  . omega
 have ep:p=p':=m.one s hs r hr q hq x p p' j.symm j'.symm e e2;subst ep;omega
theorem WayOf.tail {a b q:Int}{ws:List Int}(w:WayOf n rs f a b (a::q::ws)):WayOf n rs f q b (q::ws):=by
 refine⟨fun i p r h1 h2=>w.d (i+1) p r (by simpa using h1) (by simpa using h2),rfl,?_,fun x hx=>w.rng x (List.mem_cons_of_mem _ hx)⟩
 have:=w.last;simpa using this
theorem WayOf.mem (t:Tree n rs)(m:Met rs (pl n) f){b:Int}(hb:b∈pl n){y:Int}(hy:y∈pl n):∀{ws:List Int} {a:Int},WayOf n rs f a b ws->(y∈ws<->f a y+f y b=f a b)
 | [],a,w=>by have:=w.first;simp at this
 | [x],a,w=>by
  have e1:x=a:=by simpa using w.first
  have e2:x=b:=by simpa using w.last
  subst e1;subst e2;rw[List.mem_singleton];have n1:=m.nn x hb y hy;have n2:=m.sym x hb y hy;have z:=m.zero x hb;constructor
  . rintro rfl;omega
  . intro h;exact Met.zero_eq t m hb hy (by omega)
 | x::q::ws,a,w=>by
  have e1:x=a:=by simpa using w.first
  subst e1;have ih:=WayOf.mem t m hb hy (WayOf.tail w);obtain⟨r,hr,j,e⟩:=w.d 0 x q rfl rfl;have hx:=w.rng x (List.mem_cons_self ..);have hq:=w.rng q (List.mem_cons_of_mem _ (List.mem_cons_self ..));obtain⟨_,_,l1⟩:=Met.joins t hr j;have s1:=m.sym b hb x hx;have s2:=m.sym b hb q hq;have s3:=m.sym y hy x hx;have s4:=m.sym y hy q hq;have zx:=m.zero x hx;constructor
  . intro h;rcases List.mem_cons.mp h with rfl | h
    . omega
    . have g:=ih.mp h;have tri:=Met.tri t m (a:=y) (c:=x) (d:=b) hy hx hb;rcases m.two hy hr j with z | z
      . omega
      . omega
  . intro h;by_cases ne:y=x
    . rw[ne];exact List.mem_cons_self ..
    . exact List.mem_cons_of_mem _ (ih.mpr (Met.off t m hb hx hy hr j.symm e ne h))
theorem dJ:∀{l k:List Int},l.Nodup->(∀x∈l,x∈k)->l.length≤k.length
 | [],k,_,_=>Nat.zero_le _
 | x::l,k,nd,sub=>by
  have nd':=List.nodup_cons.mp nd;have hx:=sub x (List.mem_cons_self ..);have:=dJ (l:=l) (k:=k.erase x) nd'.2 fun y hy=>(List.mem_erase_of_ne (by rintro rfl;exact nd'.1 hy)).mpr (sub y (List.mem_cons_of_mem _ hy))
  rw[List.length_erase_of_mem hx]at this;have:=List.length_pos_of_mem hx;rw[List.length_cons];omega
theorem jc {l:List Int}{m:Nat}(nd:l.Nodup)(h:∀x∈l,x∈pl m):l.length≤m:=by
 have:=dJ nd h;rw[bC]at this;exact this
end
end Tw
namespace Tw
section
variable {n:Nat}{rs:List Road}{f:Int->Int->Int}
end
end Tw
namespace Tw
section
variable {sv:Nat->List Int}{g:Nat->Int}{w:Nat->Int}
end
end Tw
namespace Tw
variable {f:Int->Int->Int}{hs ss hs' ss':List Int}{c c' r R R':Int}
end Tw
namespace Tw
end Tw
namespace Tw
variable {n:Nat}{rs:List Road}{f:Int->Int->Int}
theorem WayOf.uniq (t:Tree n rs)(m:Met rs (pl n) f){b:Int}(hb:b∈pl n):∀{ws ws':List Int} {a:Int},WayOf n rs f a b ws->WayOf n rs f a b ws'->ws=ws'
 | [],_,_,w,_=>by have:=w.first;simp at this
 | _::_,[],_,_,w'=>by have:=w'.first;simp at this
 | [x],[y],a,w,w'=>by
  have e1:x=a:=by simpa using w.first
  have e2:y=a:=by simpa using w'.first
  rw[e1,e2]
 | [x],y::z::l,a,w,w'=>by
  exfalso;have e1:x=a:=by simpa using w.first
  have e2:x=b:=by simpa using w.last
  have e3:y=a:=by simpa using w'.first
  obtain⟨r,hr,j,e⟩:=w'.d 0 y z rfl rfl;obtain⟨_,hz,l1⟩:=Met.joins t hr j;have:=m.zero b hb;have:=m.nn b hb z hz;rw[e3,←e1,e2]at e;omega
 | x::z::l,[y],a,w,w'=>by
  exfalso;have e1:y=a:=by simpa using w'.first
  have e2:y=b:=by simpa using w'.last
  have e3:x=a:=by simpa using w.first
  obtain⟨r,hr,j,e⟩:=w.d 0 x z rfl rfl;obtain⟨_,hz,l1⟩:=Met.joins t hr j;have:=m.zero b hb;have:=m.nn b hb z hz;rw[e3,←e1,e2]at e;omega
 | x::p::l,y::q::l',a,w,w'=>by
  have e1:x=a:=by simpa using w.first
  have e2:y=a:=by simpa using w'.first
  subst e1;subst e2;obtain⟨r,hr,j,e⟩:=w.d 0 y p rfl rfl;obtain⟨r',hr',j',e'⟩:=w'.d 0 y q rfl rfl;have ep:p=q:=m.one b hb r hr r' hr' y p q j j' e e';subst ep;rw[WayOf.uniq t m hb w.tail w'.tail]
theorem WayOf.ex (t:Tree n rs)(m:Met rs (pl n) f){a b:Int}(ha:a∈pl n)(hb:b∈pl n):∃ws,WayOf n rs f a b ws:=by
 refine Met.ind t m hb (P:=fun a=>∃ws,WayOf n rs f a b ws) ⟨[b],fun i p q _ h=>by simp at h,rfl,rfl,fun x hx=>by rw[List.mem_singleton.mp hx];exact hb⟩ (fun r hr p q hp hq j e=>?_) a ha
 rintro⟨ws,w⟩;have wl:ws≠[]:=by rintro rfl;have:=w.first;simp at this
 have lp:=List.length_pos_iff.mpr wl;refine⟨q::ws,fun i u v h1 h2=>?_,rfl,?_,fun x hx=>?_⟩
 . cases i with
   | zero =>
    have e1:q=u:=by simpa using h1
    have e2:some p=some v:=by rw[←w.first];simpa using h2
    cases e2;subst e1;exact⟨r,hr,j.symm,e⟩
   | succ i=>exact w.d i u v (by simpa using h1) (by simpa using h2)
 . have:=w.last;show(q::ws)[ws.length+1 - 1]? = some b;rw[Nat.add_sub_cancel,show ws.length=ws.length - 1+1 by omega]
   simpa using this
 . rcases List.mem_cons.mp hx with rfl | hx
   . exact hq
   . exact w.rng x hx
theorem WayOf.cat (t:Tree n rs)(m:Met rs (pl n) f){a q b:Int}{ws ws':List Int}(ha:a∈pl n)(hq:q∈pl n)(hb:b∈pl n)(w:WayOf n rs f a q ws)(w':WayOf n rs f q b (q::ws'))(e:f a b=f a q+f q b):WayOf n rs f a b (ws++ws'):=by
 have wl:ws≠[]:=by rintro rfl;have:=w.first;simp at this
 have lp:=List.length_pos_iff.mpr wl;have on:∀y∈ws,f b y=f b q+f q y:=fun y hy=>by
  have yp:=w.rng y hy;have e1:=(WayOf.mem t m hq yp w).mp hy;have t1:=Met.tri t m yp ha hb;have t2:=Met.tri t m hq yp hb;have s1:=m.sym y yp q hq;have s2:=m.sym q hq b hb;have s3:=m.sym b hb y yp;omega
 refine⟨fun i u v h1 h2=>?_,by rw[List.getElem?_append_left lp];exact w.first,?_,fun x hx=>?_⟩
 . by_cases c:i+1 < ws.length
   . rw[List.getElem?_append_left (by omega)]at h1
     rw[List.getElem?_append_left c]at h2;obtain⟨r,hr,j,e'⟩:=w.d i u v h1 h2;refine⟨r,hr,j,?_⟩;rw[on u (List.mem_of_getElem? h1),on v (List.mem_of_getElem? h2)];omega
   . by_cases c2:i < ws.length
     . have ei:i=ws.length - 1:=by omega
       rw[List.getElem?_append_left c2,ei,w.last]at h1;cases h1;rw[List.getElem?_append_right (by omega)]at h2
       exact w'.d 0 q v rfl (by rw[List.getElem?_cons_succ,←h2];congr 1;omega)
     . rw[List.getElem?_append_right (by omega)]at h1 h2
       refine w'.d (i - ws.length+1) u v (by rw[List.getElem?_cons_succ];exact h1) ?_
       rw[List.getElem?_cons_succ,←h2]
       congr 1
       omega
 . have hl:=w'.last;rw[List.length_append];cases ws' with
   | nil =>
    have e2:q=b:=by simpa using hl
    rw[List.append_nil,List.length_nil,Nat.add_zero,←e2];exact w.last
   | cons z l =>
    rw[List.getElem?_append_right (by rw[List.length_cons];omega)]
    have:(q::z::l)[(z::l).length - 1+1]? = some b:=by
     rw[←hl]
     congr 1
    rw[List.getElem?_cons_succ]at this;rw[←this]
    congr 1
    rw[List.length_cons];omega
 . rcases List.mem_append.mp hx with hx | hx
   . exact w.rng x hx
   . exact w'.rng x (List.mem_cons_of_mem _ hx)
end Tw
namespace Tw
variable {n:Nat}{rs:List Road}{f:Int->Int->Int}
def sd (f:Int->Int->Int)(r:Road)(x:Int):Bool:=decide (f r.2.1 x < f r.1 x)
theorem kh (t:Tree n rs)(m:Met rs (pl n) f){a b:Int}(ha:a∈pl n)(hb:b∈pl n):f a b=(rs.map fun r=>if sd f r a=sd f r b then 0 else r.2.2).sum:=by
 have h1:=jh t m (fun x=>f a x) a ha;have h2:=jh t m (fun x=>f a x) b hb;have z:=m.zero a ha;have h3:lift rs f (fun r=>f a r.2.1 - f a r.1) b=lift rs f (fun r=>f a r.2.1 - f a r.1) a+(rs.map fun r=>if sd f r a=sd f r b then 0 else r.2.2).sum:=by
  unfold lift;rw[←eD];refine bU fun r hr=>?_;obtain⟨hp,hq,hl⟩:=Met.joins t hr (.inl ⟨rfl,rfl⟩:Joins r r.1 r.2.1);have e1:=m.road a ha r hr;have s1:=m.sym a ha r.1 hp;have s2:=m.sym a ha r.2.1 hq;unfold sd;dsimp only;by_cases ca:f r.2.1 a < f r.1 a
  . by_cases cb:f r.2.1 b < f r.1 b
    . rw[if_pos cb,if_pos ca,decide_eq_true ca,decide_eq_true cb,if_pos rfl];omega
    . rw[if_neg cb,if_pos ca,decide_eq_true ca,decide_eq_false cb,if_neg (by decide)]
      rcases e1 with e | e<;>omega
  . by_cases cb:f r.2.1 b < f r.1 b
    . rw[if_pos cb,if_neg ca,decide_eq_false ca,decide_eq_true cb,if_neg (by decide)]
      rcases e1 with e | e<;>omega
    . rw[if_neg cb,if_neg ca,decide_eq_false ca,decide_eq_false cb,if_pos rfl];omega
 have h1:f a a=lift rs f (fun r=>f a r.2.1 - f a r.1) a+(f a 0 - lift rs f (fun r=>f a r.2.1 - f a r.1) 0):=h1;have h2:f a b=lift rs f (fun r=>f a r.2.1 - f a r.1) b+(f a 0 - lift rs f (fun r=>f a r.2.1 - f a r.1) 0):=h2;omega
def ax (f:Int->Int->Int):List Int->Int
 | a::b::t=>f a b+ax f (b::t)
 | _=>0
def chg (c:Int->Bool):List Int->Int
 | a::b::t=>(if c a=c b then 0 else 1)+chg c (b::t)
 | _=>0
theorem jg (t:Tree n rs)(m:Met rs (pl n) f):∀{l:List Int},(∀x∈l,x∈pl n)->ax f l=(rs.map fun r=>r.2.2*chg (sd f r) l).sum
 | [],_=>by
  show 0=_;rw[←gT rs];exact bU fun r _=>by show 0=r.2.2*0;omega
 | [a],_=>by
  show 0=_;rw[←gT rs];exact bU fun r _=>by show 0=r.2.2*0;omega
 | a::b::l,h=>by
  show f a b+ax f (b::l)=_;rw[jg t m (l:=b::l) fun x hx=>h x (List.mem_cons_of_mem _ hx),kh t m (h a (by simp)) (h b (by simp)),←eD]
  refine bU fun r _=>?_;show _=r.2.2*((if sd f r a=sd f r b then 0 else 1)+chg (sd f r) (b::l))
  by_cases c:sd f r a=sd f r b
  . rw[if_pos c,if_pos c,Int.zero_add,Int.zero_add]
  . rw[if_neg c,if_neg c,Int.mul_add,Int.mul_one]
def bI (b:Bool):Int:=if b=true then 1 else 0
theorem jt {c:Int->Bool}{k:Bool}:∀{l:List Int},(∀x∈l,c x=k)->chg c l=0
 | [],_=>rfl
 | [_],_=>rfl
 | a::b::l,h=>by
  show(if c a=c b then 0 else 1)+chg c (b::l)=0
  rw[jt (l:=b::l) fun x hx=>h x (List.mem_cons_of_mem _ hx),if_pos (by rw[h a (by simp),h b (by simp)])];rfl
theorem chg_down {c:Int->Bool}{s:Bool}{a:Int}{l:List Int}(ha:c a≠s)(h:l.Pairwise fun b d=>c d≠s->c b≠s):chg c (a::l)=bI (decide (c ((a::l).getLast (by simp))=s)):=by
 induction l generalizing a with
 | nil=>show 0=_;rw[List.getLast_singleton,decide_eq_false ha];rfl
 | cons b l ih =>
  obtain⟨h1,h2⟩:=List.pairwise_cons.mp h;show(if c a=c b then 0 else 1)+chg c (b::l)=_
  rw[List.getLast_cons (by simp)]
  by_cases cb:c b=s
  . have all:∀x∈b::l,c x=s:=fun x hx=>by
     rcases List.mem_cons.mp hx with e | e
     . rw[e];exact cb
     . exact Classical.byContradiction fun q=>h1 x e q cb
    rw[jt all,if_neg (fun q=>ha (q.trans cb)),all _ (List.getLast_mem _),decide_eq_true rfl];rfl
  . rw[ih cb h2,if_pos]
    . omega
    . revert ha cb;cases c a<;>cases c b<;>cases s<;>decide
theorem chg_line {c:Int->Bool}{s:Bool}{K:Int->Int}{a:Int}{l:List Int}(ha:c a=s)(h:l.Pairwise fun x y=>K x≤K y)(hb:∀x∈l,∀y∈l,∀z∈l,K x≤K y->K y≤K z->c x≠s->c z≠s->c y≠s):chg c (a::l)=2*bI (l.any fun y=>decide (c y≠s)) - bI (decide (c ((a::l).getLast (by simp))≠s)):=by
 induction l generalizing a with
 | nil=>show 0=_;rw[List.getLast_singleton,decide_eq_false (fun q=>q ha)];rfl
 | cons b l ih =>
  obtain⟨h1,h2⟩:=List.pairwise_cons.mp h;show(if c a=c b then 0 else 1)+chg c (b::l)=_
  rw[List.getLast_cons (by simp),List.any_cons]
  by_cases cb:c b=s
  . rw[if_pos (ha.trans cb.symm),ih cb h2 fun x hx y hy z hz=>hb x (List.mem_cons_of_mem _ hx) y (List.mem_cons_of_mem _ hy) z (List.mem_cons_of_mem _ hz),decide_eq_false (show ¬c b≠s from fun q=>q cb),Bool.false_or]
    omega
  . rw[if_neg (fun q=>cb (q.symm.trans ha)),decide_eq_true (show c b≠s from cb),Bool.true_or]
    have hd:l.Pairwise fun x z=>c z≠s->c x≠s:=by
     refine(List.pairwise_iff_forall_sublist.mpr fun{x z} hs=>?_);have mx:x∈l:=hs.subset (by simp)
     have mz:z∈l:=hs.subset (by simp)
     have hxz:K x≤K z:=List.pairwise_iff_forall_sublist.mp h2 hs;exact fun cz=>hb b (by simp) x (List.mem_cons_of_mem _ mx) z (List.mem_cons_of_mem _ mz) (h1 x mx) hxz cb cz
    rw[chg_down cb hd];show 1+bI (decide (c ((b::l).getLast (by simp))=s))=2*1 - bI (decide (c ((b::l).getLast (by simp))≠s))
    by_cases q:c ((b::l).getLast (by simp))=s
    . rw[decide_eq_true q,decide_eq_false (fun z=>z q)];rfl
    . rw[decide_eq_false q,decide_eq_true (show c ((b::l).getLast (by simp))≠s from q)];rfl
def bQ (f:Int->Int->Int)(s:Int)(l:List Int)(r:Road):Bool:=l.any fun y=>decide (sd f r y≠sd f r s)
theorem line_len (t:Tree n rs)(m:Met rs (pl n) f){K:Int->Int}{s:Int}{l:List Int}(hs:s∈pl n)(hl:∀x∈l,x∈pl n)(h:l.Pairwise fun x y=>K x≤K y)(hb:∀r∈rs,∀x∈l,∀y∈l,∀z∈l,K x≤K y->K y≤K z->sd f r x≠sd f r s->sd f r z≠sd f r s->sd f r y≠sd f r s):ax f (s::l)=2*((rs.filter (bQ f s l)).map fun r=>r.2.2).sum - f s ((s::l).getLast (by simp)):=by
 have hlast:(s::l).getLast (by simp)∈pl n:=by
  rcases List.mem_cons.mp (List.getLast_mem (l:=s::l) (by simp))with e | e
  . rw[e];exact hs
  . exact hl _ e
 rw[jg t m (fun x hx=>by
  rcases List.mem_cons.mp hx with e | e
  . rw[e];exact hs
  . exact hl x e),kh t m hs hlast]
 have e1:∀(p:Road->Bool) (k:List Road),((k.filter p).map fun r=>r.2.2).sum=(k.map fun r=>if p r=true then r.2.2 else 0).sum:=by
  intro p k
  induction k with
  | nil=>rfl
  | cons r k ih =>
   rw[List.filter_cons,List.map_cons,List.sum_cons];by_cases c:p r=true
   . rw[if_pos c,if_pos c,List.map_cons,List.sum_cons,ih]
   . rw[if_neg c,if_neg c,ih];omega
 rw[e1];have e2:∀(g:Road->Int),2*(rs.map g).sum=(rs.map fun r=>g r+g r).sum:=fun g=>by rw[eD];omega
 rw[e2];have e3:(rs.map fun r=>r.2.2*chg (sd f r) (s::l)).sum+(rs.map fun r=>if sd f r s=sd f r ((s::l).getLast (by simp))then 0 else r.2.2).sum=(rs.map fun r=>(if bQ f s l r=true then r.2.2 else 0)+(if bQ f s l r=true then r.2.2 else 0)).sum:=by
  rw[←eD];refine bU fun r hr=>?_;rw[chg_line (c:=sd f r) (s:=sd f r s) (K:=K) rfl h (hb r hr)];show r.2.2*(2*bI (bQ f s l r) - _)+_=_;by_cases c:bQ f s l r=true
  . rw[if_pos c,c];by_cases q:sd f r s=sd f r ((s::l).getLast (by simp))
    . rw[if_pos q,decide_eq_false (fun z=>z q.symm)];show r.2.2*(2*1 - 0)+0=_;omega
    . rw[if_neg q,decide_eq_true (show sd f r ((s::l).getLast (by simp))≠sd f r s from fun z=>q z.symm)]
      show r.2.2*(2*1 - 1)+r.2.2=_;omega
  . have c':bQ f s l r=false:=by simpa using c
    have all:∀y∈l,sd f r y=sd f r s:=fun y hy=>by
     have:=List.any_eq_false.mp c' y hy;simpa using this
    have q:sd f r s=sd f r ((s::l).getLast (by simp)):=by
     rcases List.mem_cons.mp (List.getLast_mem (l:=s::l) (by simp))with e | e
     . rw[e]
     . exact(all _ e).symm
    rw[if_neg c,c',if_pos q,decide_eq_false (fun z=>z q.symm)];show r.2.2*(2*0 - 0)+0=_;omega
 omega
end Tw
namespace Tw
variable {n:Nat}{rs:List Road}{f:Int->Int->Int}
theorem eN:∀{l k:List Int} (h:l≠[]),ax f (l++k)=ax f l+ax f (l.getLast h::k)
 | [a],k,_=>by show ax f (a::k)=0+ax f (a::k);omega
 | a::b::l,k,_=>by
  show f a b+ax f (b::l++k)=f a b+ax f (b::l)+_;rw[eN (l:=b::l) (List.cons_ne_nil _ _),List.getLast_cons (List.cons_ne_nil b l)];omega
theorem WayOf.line (t:Tree n rs)(m:Met rs (pl n) f){b:Int}(hb:b∈pl n):∀{ws:List Int} {a:Int},WayOf n rs f a b ws->ax f ws=f a b
 | [],a,w=>by have:=w.first;simp at this
 | [x],a,w=>by
  have e1:x=a:=by simpa using w.first
  have e2:x=b:=by simpa using w.last
  have:=m.zero b hb;show 0=f a b;rw[←e1,e2,this]
 | x::y::l,a,w=>by
  have e1:x=a:=by simpa using w.first
  subst e1;have hx:x∈pl n:=w.rng x (by simp)
  have hy:y∈pl n:=w.rng y (by simp)
  obtain⟨r,hr,j,e⟩:=w.d 0 x y rfl rfl;have ih:=WayOf.line t m hb w.tail;show f x y+ax f (y::l)=f x b;rw[ih];have s1:=m.sym b hb x hx;have s2:=m.sym b hb y hy;have t1:=m.two hx hr j;have z:=m.zero x hx;have nn:=m.nn x hx y hy;have l1:=t.len r hr;rcases t1 with q | q<;>omega
theorem jM (t:Tree n rs)(m:Met rs (pl n) f){s:Int}(hs:s∈pl n){W:Int->List Int}(hW:∀x∈pl n,WayOf n rs f s x (W x)){b y:Int}(hy:y∈pl n)(h:b∈W y):W b <+: W y:=by
 have hb:=(hW y hy).rng b h;have e:=(WayOf.mem t m hy hb (hW y hy)).mp h;obtain⟨ws',w'⟩:=WayOf.ex t m hb hy;cases ws' with
 | nil=>have:=w'.first;simp at this
 | cons z l =>
  have ez:z=b:=by simpa using w'.first
  subst ez;have:=WayOf.uniq t m hy (hW y hy) (WayOf.cat t m hs hb hy (hW z hb) w' (by omega))
  rw[this];exact List.prefix_append _ _
theorem ig (t:Tree n rs)(m:Met rs (pl n) f){s:Int}(hs:s∈pl n){W:Int->List Int}(hW:∀x∈pl n,WayOf n rs f s x (W x)){r:Road}{p q:Int}(hr:r∈rs)(j:Joins r p q)(e0:f s q=f s p+r.2.2){x:Int}(hx:x∈pl n):f q x < f p x<->W q <+: W x:=by
 obtain⟨hp,hq,l1⟩:=Met.joins t hr j;have s1:=m.sym x hx p hp;have s2:=m.sym x hx q hq;have qm:q∈W q:=List.mem_of_getElem? (hW q hq).last;constructor
 . intro h;have e1:f p x=f q x+r.2.2:=by
    rcases m.two hx hr j with z | z<;>omega
   have e2:=Met.cut t m hr j hs hx e0 e1;exact jM t m hs hW hx ((WayOf.mem t m hx hq (hW x hx)).mpr (by omega))
 . intro h;have e1:=(WayOf.mem t m hx hq (hW x hx)).mp (h.subset qm);have t1:=Met.tri t m hp hs hx;rcases m.two hx hr j with z | z<;>omega
theorem sd_pre (t:Tree n rs)(m:Met rs (pl n) f){s:Int}(hs:s∈pl n){W:Int->List Int}(hW:∀x∈pl n,WayOf n rs f s x (W x)){r:Road}(hr:r∈rs):∃P:List Int,∀x∈pl n,sd f r x≠sd f r s<->P <+: W x:=by
 obtain⟨hp,hq,hl⟩:=Met.joins t hr (.inl ⟨rfl,rfl⟩:Joins r r.1 r.2.1);have y1:=m.sym s hs r.1 hp;have y2:=m.sym s hs r.2.1 hq;rcases m.road s hs r hr with e | e
 . refine⟨W r.1,fun x hx=>?_⟩;rw[←ig t m hs hW hr (.inr ⟨rfl,rfl⟩:Joins r r.2.1 r.1) e hx];have z1:=m.sym x hx r.1 hp;have z2:=m.sym x hx r.2.1 hq;have:=m.road x hx r hr;unfold sd;rw[decide_eq_true (show f r.2.1 s < f r.1 s by omega)]
   by_cases c:f r.2.1 x < f r.1 x
   . rw[decide_eq_true c];exact⟨fun q=>absurd rfl q,fun q=>by omega⟩
   . rw[decide_eq_false c];exact⟨fun _=>by rcases this with z | z<;>omega,fun _=>by decide⟩
 . refine⟨W r.2.1,fun x hx=>?_⟩;rw[←ig t m hs hW hr (.inl ⟨rfl,rfl⟩:Joins r r.1 r.2.1) e hx];unfold sd;rw[decide_eq_false (show ¬f r.2.1 s < f r.1 s by omega)]
   by_cases c:f r.2.1 x < f r.1 x
   . rw[decide_eq_true c];exact⟨fun _=>c,fun _=>by decide⟩
   . rw[decide_eq_false c];exact⟨fun q=>absurd rfl q,fun q=>absurd q c⟩
theorem way_ix (t:Tree n rs)(m:Met rs (pl n) f){s:Int}(hs:s∈pl n){W:Int->List Int}(hW:∀x∈pl n,WayOf n rs f s x (W x)){x y b:Int}(hx:x∈pl n)(hy:y∈pl n){i k:Nat}(h1:(W x)[i]? = some b)(h2:(W y)[k]? = some b):i=k:=by
 have hb:=(hW x hx).rng b (List.mem_of_getElem? h1);have key:∀{z:Int} {i:Nat},z∈pl n->(W z)[i]? = some b->i=(W b).length - 1:=fun{z i} hz h=>by
  have pre:=jM t m hs hW hz (List.mem_of_getElem? h);have l:=(hW b hb).last;have hl:(W b).length - 1 < (W b).length:=(List.getElem?_eq_some_iff.mp l).1;obtain⟨u,e⟩:=pre;have l2:(W z)[(W b).length - 1]? = some b:=by rw[←e,List.getElem?_append_left hl];exact l
  have nd:=(hW z hz).d.nodup t.len;exact(List.getElem?_inj (List.getElem?_eq_some_iff.mp h).1 nd).mp (h.trans l2.symm)
 rw[key hx h1,key hy h2]
theorem needB_iff {s:Int}{S l:List Int}(hs:s∈S)(hl:∀x,x∈l<->x∈S){r:Road}:bQ f s l r=true<->∃a∈S,∃b∈S,sd f r a≠sd f r b:=by
 unfold bQ;rw[List.any_eq_true];constructor
 . rintro⟨y,hy,q⟩;exact⟨y,(hl y).mp hy,s,hs,of_decide_eq_true q⟩
 . rintro⟨a,ha,b,hb,ne⟩;by_cases c:sd f r a=sd f r s
   . exact⟨b,(hl b).mpr hb,decide_eq_true fun q=>ne (c.trans q.symm)⟩
   . exact⟨a,(hl a).mpr ha,decide_eq_true c⟩
end Tw
namespace L2
open PySem PySem.Spec PyProof.Rows
end L2
namespace L2
open PySem PySem.Spec PyProof.Rows
end L2
namespace L2
open PySem PySem.Spec PyProof.Rows Tw
open PySem.W (tabObj CodeHd kla_obj kla_fn envX)
theorem codeAmong_app {pos:Pos}{a b:Int}{c cv:Value}(l:List Value)(h:TriplesOk l):codeAmong pos (l++[rawInt a,rawInt b,c])=some cv->codeAmong pos l=some cv∨cv=c:=by
 fun_induction TriplesOk l with
 | case1 =>
  intro e;simp only[List.nil_append,rawInt,codeAmong]at e
  split at e
  . exact .inr (Option.some.inj e).symm
  . cases e
 | case2 a' t b' u x rest ih =>
  intro e;simp only[List.cons_append,codeAmong]at e⊢
  split at e
  . rename_i hh
    left
    rw[if_pos hh];exact e
  . rename_i hh;rw[if_neg hh];exact ih h e
 | case3=>exact h.elim
section
variable {X:Cx}{pins:List (Addr×Obj)}{σ:St}{H:Hp}{s:Shared}{h':Heap}
theorem Inv.coded {P c':Addr}{qs:Array Value}{t':Nat}{ps:Array Value}{l c:Int}(I:Inv X pins σ H s)(hP:H P=some (.tbl qs))(hx:Heap.ExtBut P s.heap h')(hge:s.heap.objs.size≤c')(hrec:h'.CodeRec (.ref c') (qOf qs))(h0:s.heap.get? P=some (tabObj ps))(htb:h'.get? P=some (tabObj (ps++#[rawInt l,rawInt c,.ref c']))):Inv X pins σ (upd H c' (.cod (qOf qs))) { s with heap:=h',toks:=t' }:=by
 have hn:H c'=none:=I.hok.fresh hge;have neP:∀b,H b=none->b≠P:=fun b n z=>by rw[z,hP]at n;cases n
 have neC:∀b o,s.heap.get? b=some o->b≠c':=fun b o e=>Nat.ne_of_lt (Nat.lt_of_lt_of_le (Heap.lt_size e) hge);refine I.un ⟨fun b o e n _ _=>hx b o (neP b n) e,fun b o e n _ _=>⟨o.slots,hx b o (neP b n) e⟩,fun b o e n _=>by rw[ac (neC b o e)];exact n,fun b o e _=>?_,fun b xs q=>by rw[ac (a8 q hn)];exact q,
  fun b o u q=>by rw[ac (a8 q hn)];exact q,fun b p q=>⟨#[],by rw[ac (a8 q hn),q];simp⟩⟩ fun b u e=>?_
 . by_cases hb:b=P
   . exact⟨_,hb▸htb⟩
   . exact⟨o,hx b o hb e⟩
 . by_cases hb:b=c'
   . subst hb;rw[a9]at e;cases e;exact hrec
   . rw[ac hb]at e;by_cases hbP:b=P
     . subst hbP;rw[hP]at e;cases e;obtain⟨ps',e',tr,f⟩:=(show ObjOk X.prog X.w H s.heap b (.tbl qs)from I.hok b _ hP)
       have e2:=h0.symm.trans e';have:ps=ps':=by injection e2 with e2;injection e2 with _ _ e3;injection e3
       subst this;have el:(ps++#[rawInt l,rawInt c,Value.ref c']).toList=ps.toList++[rawInt l,rawInt c,Value.ref c']:=by simp
       refine⟨_,htb,by rw[el];exact TriplesOk_snoc _ _ _ _ tr,fun pos cv hc=>?_⟩
       rw[el]at hc;rcases codeAmong_app _ tr hc with hc | hc
       . obtain⟨cc,e1,e2⟩:=f pos cv hc;exact⟨cc,e1,by rw[ac (a8 e2 hn)];exact e2⟩
       . exact⟨c',hc,a9⟩
     . refine(I.hok b u e).stay (fun d v hd q=>hx d v ?_ q) (fun d q=>by rw[ac (a8 q hn)];exact q) fun d v _ q=>by rw[ac (a8 q hn)];exact q
       rcases hd with rfl | hd
       . exact hbP
       . intro z;rw[z,hP]at hd;cases hd
theorem ji {params:Arguments}{body:Expr}{scope:Scope}{pos:Pos}{c P:Addr}{qs:Array Value}{clos:List (Str×Addr)}{Q:Value->Shared->Prop}{E:Value->Shared->Prop}{A:Around}(I:Inv X pins σ H s)(hP:H P=some (.tbl qs))(hq:X.env.qual ++ "<lambda>" = qOf qs)(hcode:X.env.code = .ref c)(C:CodeHd X.base c P)(hdef:defaultsOf params X.env=([],[]))(hcl:closureFor scope X.env=pure clos)(h:∀(f c':Addr) (ctv:Value) (s':Shared) (H':Hp),Inv X pins σ H' s'->Same H H'->s'.heap.get? f=some (kla_obj "<lambda>" (qOf qs) params body scope clos ((X.mg "__name__").getD .none) c' ctv)->H' f=none->s.heap.objs.size≤f->f < s'.heap.objs.size->H' c'=some (.cod (qOf qs))->Q (.ref f) s'):wpAny (model X.prog X.w) A (eval (.Lambda params body scope pos) X.env) Q E s:=by
 obtain⟨ps,e0,tr,fP⟩:=(show ObjOk X.prog X.w H s.heap P (.tbl qs)from I.hok P _ hP)
 have hg:s.heap.Ns mainGlobals X.mg:=I.mod.glob.keeps I.bk;have neP:∀b o,X.base.get? b=some o->b≠P:=fun b o e z=>by
  have:=(I.bs b o e).2;rw[z,hP]at this;cases this
 obtain⟨og,es,ep,eg,dg,_⟩:=id I.mod.glob;have hgP:mainGlobals≠P:=neP _ _ eg;have hb:s.heap.BuiltinsAt X.mg P:=by
  obtain⟨bm,ob,b1,b2,b3,b4,b5,b6⟩:=I.mod.bmain;refine⟨bm,ob,b1,b2,fun z=>?_,neP _ _ b3,I.bk _ _ b3,b4,b5,b6⟩;rw[z,eg]at b3;cases b3;rw[dg]at b6;cases b6
 have C':=C.keeps I.bk;refine PySem.W.kla_eval hdef ?_;rw[hq];cases hc:codeAmong pos ps.toList with
 | none =>
  refine PySem.W.kla_makeFunction hcl I.ok.glob hg hcode C' e0 tr hc hgP hb fun c' ctv h1 tk hx hge hlt hrec htb=>?_;have I1:Inv X pins σ (upd H c' (.cod (qOf qs))) { s with heap:=h1,toks:=s.toks }:=I.coded hP hx hge hrec e0 htb
  have I2:=I1.kept (h':=h1.push (kla_obj "<lambda>" (qOf qs) params body scope clos ((X.mg "__name__").getD .none) c' ctv)) (t':=tk) (fun b u e=>Heap.get?_push_of_some _ e);refine h h1.objs.size c' ctv _ _ I2 (aj (I.hok.fresh hge)) (Heap.get?_push_size _ rfl) (I1.hok.fresh (Nat.le_refl _)) (Nat.le_of_lt (Nat.lt_of_le_of_lt hge hlt)) (by show _ < (h1.push _).objs.size;rw[Heap.size_push];omega) a9
 | some cv =>
  obtain⟨c',rfl,hc'⟩:=fP pos cv hc;refine PySem.W.kla_makeFunctionHit hcl I.ok.glob hg hcode C' e0 tr hc hb fun ctv h1 tk hk hsz=>?_;have I1:Inv X pins σ H { s with heap:=h1,toks:=s.toks }:=I.kept hk
  have I2:=I1.kept (h':=h1.push (kla_obj "<lambda>" (qOf qs) params body scope clos ((X.mg "__name__").getD .none) c' ctv)) (t':=tk) (fun b u e=>Heap.get?_push_of_some _ e);exact h h1.objs.size c' ctv _ _ I2 (Same.refl _) (Heap.get?_push_size _ rfl) (I1.hok.fresh (Nat.le_refl _)) hsz (by show _ < (h1.push _).objs.size;rw[Heap.size_push];omega) hc'
end
end L2
namespace L2
open PySem PySem.Spec PyProof.Rows Tw
open PySem.W (tabObj CodeHd kla_obj kla_fn envX)
def dz (P:Program)(w:World)(K:PySem.W.Frag)(mg:Str->Option Value)(base:Heap)(M:List Str)(q:Str)(scope:Scope)(f:Addr)(cd:Value)(clos:List (Str×Addr))(A:Around)(outer:List Env)(s:Shared)(H:Hp):Cx where
 prog:=P
 w:=w
 K:=K
 mg:=mg
 base:=base
 A:=A.deeper (envX q scope s.heap.objs.size f cd clos)
 N:=M
 s₀:=s
 H₀:=H
 env:=envX q scope s.heap.objs.size f cd clos
 outer:=outer
 stack:=envX q scope s.heap.objs.size f cd clos::outer
 ex:=[]
 fn:=fun _=>false
 calm:=true
 pn:=[]
 xe:=fun _ _=>False
structure LamScope (sc:Scope) (x:Str):Prop where
 kind:sc.kind = .function
 co:sc.isCoroutine=false
 gen:sc.isGenerator=false
 nocell:∀y∈sc.names,y.2≠.cell
 par:sc.names.lookup x=some .local
theorem ka {P:Program}{w:World}{K:PySem.W.Frag}{mg:Str->Option Value}{base:Heap}{M:List Str}{q x:Str}{params:Arguments}{body:Expr}{scope:Scope}{clos:List (Str×Addr)}{pm ctv:Value}{f c':Addr}{A:Around}{outer:List Env}{s:Shared}{H:Hp}{k:Nat}{u:Value}{σ':St}{te:TE}{Qv:VK}(S:LamScope scope x)(e0:Env0 P w K mg base A outer s H)(hr:Room (k+1) A)(ho:s.heap.get? f=some (kla_obj "<lambda>" q params body scope clos pm c' ctv))(hrec:s.heap.CodeRec (.ref c') q)(hbind:bindArgs (kla_fn "<lambda>" q params body scope clos pm (.ref c') ctv) ⟨[u],[]⟩=pure [(x,u)])(hcell:∀y c,clos.lookup y=some c->(∃v,s.heap.IsCell c v)/\H c=none)(hinj:∀y z c,clos.lookup y=some c->clos.lookup z=some c->y=z)(hhas:∀y,scope.names.lookup y=some .free->∃c,clos.lookup y=some c)(hσ:∀(i:Nat) (y:Str) (vv:V),M[i]? = some y->σ'[i]? = some (some vv)->Vis scope y->(y=x/\RelV vv u)∨(scope.names.lookup y=some .free/\∃c uu,clos.lookup y=some c/\s.heap.IsCell c (some uu)/\RelV vv uu))(hlen:σ'.length=M.length)(ht:PE (dz P w K mg base M q scope f (.ref c') clos A outer s H) body te)(hq:te σ' H Qv):codeAny (model P w) A (.call (.ref f) ⟨[u],[]⟩) (CR CX0 outer P w H s Qv E0) s:=by
 have lim:s.heap.NoLimit:=e0.mod.nolimit.keeps fun b o e=>(e0.bs b o e).1;refine PySem.W.kla_callFunE hr.depth ho rfl S.co S.gen rfl hrec ?_;rw[hbind];refine wpAny_pure (wpAny_newFunctionEnv S.nocell (fun y hy=>by rw[List.mem_singleton.mp hy];exact S.par) (fun h₁ hns hsb=>⟨lim.fresh _ hsb,?_⟩) S.kind)
 show codeAny _ _ (.expr body (envX q scope s.heap.objs.size f (.ref c') clos)) _ _;have hk₁:∀b o,s.heap.get? b=some o->h₁.get? b=some o:=fun b o e=>hsb.extBut b o (Nat.ne_of_lt (Heap.lt_size e)) (Heap.get?_push_of_some _ e);have cellK:∀{c:Addr} {v:Option Value},s.heap.IsCell c v->h₁.IsCell c v:=fun⟨o,e,d⟩=>⟨o,hk₁ _ _ e,d⟩;have noA:∀b:Addr,b∉(dz P w K mg base M q scope f (.ref c') clos A outer s H).ex:=fun b z=>absurd (show b∈([]:List Addr)from z) (by simp)
 have I:Inv (dz P w K mg base M q scope f (.ref c') clos A outer s H) [] σ' H { s with heap:=h₁,toks:=s.toks+1 }:=by
  refine⟨⟨e0.mod,S.kind,rfl,rfl,Nat.le_refl _,fun y z c h1 h2=>hinj y z c h1 h2,fun y hy=>?_,fun y c z _=>(Bool.noConfusion z),fun _=>hr.hd,Around.frames_deeper e0.frames,.inr ⟨rfl,rfl⟩,fun b z=>absurd z (noA b),e0.bs,e0.bsz,fun b _ _=>noA b,fun b z=>absurd z (noA b),e0.funs,e0.frf⟩,
   rfl,e0.bare,Un.kept hk₁,⟨_,hns,fun i y v h1 h2 h3=>?_⟩,fun y c h=>?_,e0.hok.fresh (Nat.le_refl _),fun y c h=>(hcell y c h).2,fun p hp=>absurd (show p∈([]:List (Addr×Obj))from hp) (by simp),e0.hok.kept hk₁,hlen⟩
  . have hy:scope.names.lookup y=some .cell∨scope.names.lookup y=some .free:=hy;rcases hy with hy | hy
    . exact absurd rfl (S.nocell _ (PySem.mem_of_lookup hy))
    . exact hhas y hy
  . rcases hσ i y v h1 h2 h3 with⟨rfl,r⟩ | ⟨kf,c,uu,hc,ic,r⟩
    . exact⟨u,r,.inl ⟨S.par,by simp⟩⟩
    . exact⟨uu,r,.inr ⟨.inr kf,c,hc,cellK ic⟩⟩
  . obtain⟨v,ic⟩:=(hcell y c h).1;exact⟨v,cellK ic⟩
 refine PySem.W.kla_codeExpr (wpAny_mono (ht [] _ σ' H _ I hq) (fun v s' hs=>?_) fun _ _ z=>False.elim z);obtain⟨vv,H',J,rv,q'⟩:=hs;exact⟨vv,H',J.os,J.bare,J.base,J.hok,rv,q'⟩
end L2
namespace L2
open PySem PySem.Spec PyProof.Rows Tw
open PySem.W (tabObj CodeHd kla_obj kla_fn envX)
theorem iL {env:Env}:∀(names:List (Str×NameKind)) (cs:List (Str×Addr)),(∀y∈names,y.2 = .free->∃c,env.cells.lookup y.1=some c)->(∀y c,cs.lookup y=some c->env.cells.lookup y=some c) →
 ∃clos,(forIn (m:=Sem) names cs fun x r=>do
  if x.2 == .free then
   let c ←cellOf env x.1
   pure (ForInStep.yield ((x.1,c)::r))
  else pure (ForInStep.yield r))=pure clos/\(∀y c,clos.lookup y=some c->env.cells.lookup y=some c)/\(∀y c,cs.lookup y=some c->∃c',clos.lookup y=some c')/\∀y,(y,NameKind.free)∈names->∃c,clos.lookup y=some c
 | [],cs,_,hc=>⟨cs,rfl,hc,fun y c h=>⟨c,h⟩,fun y h=>nomatch h⟩
 | (n,k)::names,cs,h,hc=>by
  by_cases hk:k = .free
  . subst hk;obtain⟨c,e⟩:=h (n,.free) (.head _) rfl;obtain⟨clos,e1,e2,e3,e4⟩:=iL (env:=env) names ((n,c)::cs) (fun y hy=>h y (.tail _ hy)) (fun y d hd=>by
     rw[List.lookup_cons]at hd;cases hb:y == n with
     | true=>rw[hb]at hd;cases hd;rw[eq_of_beq hb];exact e
     | false=>rw[hb]at hd;exact hc y d hd)
    refine⟨clos,?_,e2,fun y d hd=>?_,fun y hy=>?_⟩
    . rw[List.forIn_cons,←e1];simp only[beq_self_eq_true,if_true];have:cellOf env n=pure c:=by unfold cellOf;rw[e]
      rw[this];rfl
    . cases hb:y == n with
      | true=>exact e3 y c (by rw[List.lookup_cons,hb])
      | false=>exact e3 y d (by rw[List.lookup_cons,hb];exact hd)
    . rcases List.mem_cons.mp hy with z | z
      . cases z;exact e3 n c (by rw[List.lookup_cons];simp)
      . exact e4 y z
  . obtain⟨clos,e1,e2,e3,e4⟩:=iL (env:=env) names cs (fun y hy=>h y (.tail _ hy)) hc;refine⟨clos,?_,e2,e3,fun y hy=>?_⟩
    . rw[List.forIn_cons,←e1];have:(k == NameKind.free)=false:=by
       cases k<;>first | rfl | exact absurd rfl hk
      simp only[this,Bool.false_eq_true,if_false];rfl
    . rcases List.mem_cons.mp hy with z | z
      . cases z;exact absurd rfl hk
      . exact e4 y z
theorem kr {scope:Scope}{env:Env}(h:∀y∈scope.names,y.2 = .free->∃c,env.cells.lookup y.1=some c):∃clos,closureFor scope env=pure clos/\(∀y c,clos.lookup y=some c->env.cells.lookup y=some c)/\∀y,(y,NameKind.free)∈scope.names->∃c,clos.lookup y=some c:=by
 obtain⟨clos,e1,e2,_,e4⟩:=iL (env:=env) scope.names [] h (fun y c z=>nomatch z);refine⟨clos,?_,e2,e4⟩;have z:(forIn (m:=Sem) scope.names [] (fun x r=>if x.2 == NameKind.free then do
  let c ←cellOf env x.1
  pure (ForInStep.yield ((x.1,c)::r))
  else pure (ForInStep.yield r)) >>= fun r=>pure r)=pure clos:=by rw[e1];rfl
 exact z
structure LamNames (X:Cx) (scope:Scope) (x:Str) (M1:List Str):Prop where
 free:∀y∈scope.names,y.1=x∨y.2 = .free
 cap:∀y∈scope.names,y.2 = .free->X.env.kindOf y.1=some .cell∨X.env.kindOf y.1=some .free
 nx:∀y∈scope.names,y.2 = .free->y.1≠x
 nm:x∉M1
 len:M1.length=X.N.length
 same:∀(i:Nat) (y:Str),M1[i]? = some y->X.N[i]? = some y∨scope.names.lookup y=none
section
variable {X:Cx}{pins:List (Addr×Obj)}{σ:St}{H:Hp}{s:Shared}
theorem key_call {A:Around}{k:Nat}{q x:Str}{M1:List Str}{params:Arguments}{body:Expr}{scope:Scope}{clos:List (Str×Addr)}{pm ctv:Value}{f c':Addr}{v:V}{u:Value}{tb:TE}{Qv:VK}{E:Value->Shared->Prop}(I:Inv X pins σ H s)(e0:Env0 X.prog X.w X.K X.mg X.base A X.stack s H)(hr:Room (k+1) A)(hpin:(f,kla_obj "<lambda>" q params body scope clos pm c' ctv)∈pins)(hc':H c'=some (.cod q))(S:LamScope scope x)(N:LamNames X scope x M1)(hcl:∀y c,clos.lookup y=some c->X.env.cells.lookup y=some c)(hcl2:∀y,(y,NameKind.free)∈scope.names->∃c,clos.lookup y=some c)(hbind:bindArgs (kla_fn "<lambda>" q params body scope clos pm (.ref c') ctv) ⟨[u],[]⟩=pure [(x,u)])(rv:RelV v u)(ht:PE (dz X.prog X.w X.K X.mg X.base (M1++[x]) q scope f (.ref c') clos A X.stack s H) body tb)(hq:tb (σ++[some v]) H Qv):wpAny (model X.prog X.w) A (call (.ref f) [u]) (EP X pins σ Qv) E s:=by
 have lenσ:=I.len;have lk:∀{y:Str} {kd:NameKind},scope.names.lookup y=some kd->(y,kd)∈scope.names:=fun h=>PySem.mem_of_lookup h;refine wpAny_call (codeAny_mono (ka (M:=M1++[x]) (σ':=σ++[some v]) S e0 hr (I.pin _ (List.mem_append_right _ hpin)).1 (show ObjOk X.prog X.w H s.heap c' (.cod q)from I.hok c' _ hc') hbind
  (fun y c h=>⟨I.cell y c (hcl y c h),I.freeC y c (hcl y c h)⟩) (fun y z c h1 h2=>I.ok.inj y z c (hcl y c h1) (hcl z c h2)) (fun y h=>hcl2 y (lk h)) (fun i y vv h1 h2 h3=>?_) (by rw[List.length_append,List.length_append,lenσ,N.len];rfl) ht hq) fun r s' hq=>?_)
 . by_cases hi:i < M1.length
   . rw[List.getElem?_append_left hi]at h1;rw[List.getElem?_append_left (by rw[lenσ,←N.len];exact hi)]at h2
     rcases N.same i y h1 with e | e
     . have hm:∃kd,(y,kd)∈scope.names:=by
        rcases h3 with h | h | h
        . exact⟨_,lk h⟩
        . exact⟨_,lk h⟩
        . exact⟨_,lk h⟩
       obtain⟨kd,hm⟩:=hm;by_cases hyx:y=x
       . exfalso;subst hyx;exact N.nm (List.mem_of_getElem? h1)
       . have hf:=(N.free _ hm).resolve_left hyx;have hf':kd = .free:=hf;subst hf';have hlk:scope.names.lookup y=some .free:=by
          rcases h3 with h | h | h
          . have:=(N.free _ (lk h)).resolve_left hyx;cases this
          . exact absurd rfl (S.nocell _ (lk h))
          . exact h
         have kc:=N.cap _ hm rfl;obtain⟨m,hn,hl⟩:=I.loc;have hv:Vis X.env.scope y:=kc.elim (fun z=>.inr (.inl z)) (fun z=>.inr (.inr z));obtain⟨uu,ru,lo⟩:=hl i y vv e h2 hv;rcases lo with⟨z,_⟩ | ⟨_,c,ec,ic⟩
         . rcases kc with kc | kc
           . rw[show X.env.kindOf y=some .cell from kc]at z;cases z
           . rw[show X.env.kindOf y=some .free from kc]at z;cases z
         . obtain⟨c2,e2⟩:=hcl2 y hm;have:=hcl y c2 e2;rw[ec]at this;cases this;exact .inr ⟨hlk,c,uu,e2,ic,ru⟩
     . rcases h3 with h | h | h<;>rw[e]at h<;>cases h
   . rw[List.getElem?_append_right (by omega)]at h1
     rw[List.getElem?_append_right (by rw[lenσ,←N.len];omega),lenσ,←N.len]at h2
     have z:i - M1.length=0:=by
      have:=(List.getElem?_eq_some_iff.mp h1).1;simp at this;omega
     rw[z]at h1 h2;simp at h1 h2;subst h1;subst h2;exact .inl ⟨rfl,rv⟩
 . cases r with
   | error e=>exact False.elim hq
   | ok fl =>
    cases fl with
    | ret u=>exact I.after hq
    | next=>exact False.elim hq
    | brk=>exact False.elim hq
    | cont=>exact False.elim hq
end
end L2
namespace L2
open PySem PySem.Spec PyProof.Rows
section
variable {X:Cx}
end
end L2
namespace Tw
open PySem PyProof.Rows
def ky (k:Keyed->Int)(xs:Array Keyed)(i:Nat):Int:=((xs[i]?).map k).getD 0
theorem kb {k:Keyed->Int}{xs:Array Keyed}{i:Nat}{y:Keyed}(h:xs[i]? = some y):ky k xs i=k y:=by unfold ky;rw[h];rfl
theorem dw {k:Keyed->Int}{xs ys:Array Keyed}{i j:Nat}(h:xs[i]? = ys[j]?):ky k xs i=ky k ys j:=by unfold ky;rw[h]
structure Ask (M:Model) (A:Around) (E:Value->Shared->Prop) (s:Shared) (kd:SortKind) (k:Keyed->Int) (P:Keyed->Prop):Prop where
 ask:∀(st:SortSt) (x y:Keyed) (Q:Option Bool->SortSt->Prop),kindOf st=kd->P x->P y->Q (some (decide (k x < k y))) st->wpS M A E s (lt' x y) Q st
def All (P:Keyed->Prop)(xs:Array Keyed)(a b:Nat):Prop:=∀i,a≤i->i < b->∃y,xs[i]? = some y/\P y
def Rise (f:Nat->Int)(a b:Nat):Prop:=∀i j,a≤i->i≤j->j < b->f i≤f j
section
variable {M:Model}{A:Around}{E:Value->Shared->Prop}{s:Shared}{kd:SortKind}{k:Keyed->Int}{P:Keyed->Prop}
theorem ki {xs:Array Keyed}{i:Nat}{y:Keyed}{Q:Keyed->SortSt->Prop}{st:SortSt}(h:xs[i]? = some y)(q:Q y st):wpS M A E s (elem' xs i) Q st:=by
 rw[elem'_eq,h];exact wpS_pure q
end
end Tw
namespace Tw
open PySem PyProof.Rows
def Its (P:Keyed->Prop)(xs:Array Keyed):Prop:=∀y,y∈xs->P y
def Fall (f:Nat->Int)(a b:Nat):Prop:=∀i j,a≤i->i≤j->j < b->f j≤f i
structure Chg (st st':SortSt) (a b:Nat):Prop where
 kind:kindOf st'=kindOf st
 pend:pendingOf st'=pendingOf st
 fail:failedOf st'=failedOf st
 perm:(arrOf st').Perm (arrOf st)
 out:∀i,(i < a∨b≤i)->(arrOf st')[i]? = (arrOf st)[i]?
theorem Chg.refl (st:SortSt)(a b:Nat):Chg st st a b:=⟨rfl,rfl,rfl,.refl _,fun _ _=>rfl⟩
theorem Chg.trans {st st' st'':SortSt}{a b:Nat}(h:Chg st st' a b)(h':Chg st' st'' a b):Chg st st'' a b:=
 ⟨h'.kind.trans h.kind,h'.pend.trans h.pend,h'.fail.trans h.fail,h'.perm.trans h.perm,fun i hi=>(h'.out i hi).trans (h.out i hi)⟩
theorem Chg.mono {st st':SortSt}{a b c d:Nat}(h:Chg st st' a b)(h1:c≤a)(h2:b≤d):Chg st st' c d:=
 ⟨h.kind,h.pend,h.fail,h.perm,fun i hi=>h.out i (by omega)⟩
theorem Chg.size {st st':SortSt}{a b:Nat}(h:Chg st st' a b):(arrOf st').size=(arrOf st).size:=h.perm.size_eq
theorem Chg.its {st st':SortSt}{a b:Nat}{P:Keyed->Prop}(h:Chg st st' a b)(i:Its P (arrOf st)):Its P (arrOf st'):=fun y hy=>i y (h.perm.mem_iff.mp hy)
theorem Its.all {P:Keyed->Prop}{xs:Array Keyed}(h:Its P xs){a b:Nat}(hb:b≤xs.size):All P xs a b:=fun i _ hi=>⟨xs[i]'(by omega),by rw[getElem?_pos xs i (by omega)],h _ (Array.getElem_mem _)⟩
section
variable {M:Model}{A:Around}{E:Value->Shared->Prop}{s:Shared}{kd:SortKind}{k:Keyed->Int}{P:Keyed->Prop}
theorem cq (C:Ask M A E s kd k P){st:SortSt}(hk:kindOf st=kd)(hI:Its P (arrOf st)){i j:Nat}(hi:i < (arrOf st).size)(hj:j < (arrOf st).size){Q:Option Bool->SortSt->Prop}(h:Q (some (decide (ky k (arrOf st) i < ky k (arrOf st) j))) st):wpS M A E s (ltAt' i j) Q st:=by
 obtain⟨x,hx,px⟩:=hI.all (Nat.le_refl _) i (Nat.zero_le _) hi;obtain⟨y,hy,py⟩:=hI.all (Nat.le_refl _) j (Nat.zero_le _) hj;rw[kb hx,kb hy]at h;rw[ltAt'_eq];refine wpS_bind (wpS_get ?_);exact wpS_bind (ki hx (wpS_bind (ki hy (C.ask st x y Q hk px py h))))
structure Rev (k:Keyed->Int) (st st':SortSt) (a b:Nat):Prop where
 chg:Chg st st' a b
 key:∀t,ky k (arrOf st') t=if a≤t/\t < b then ky k (arrOf st) (a+b - 1 - t)else ky k (arrOf st) t
theorem c5 {st:SortSt}{a b:Nat}{Q:Unit->SortSt->Prop}(hb:b≤(arrOf st).size)(h:∀st',Rev k st st' a b->Q () st'):wpS M A E s (reverseSlice' a b) Q st:=by
 rw[reverseSlice'_eq];refine wpS_modify (h _ ⟨⟨rfl,rfl,rfl,mirror_perm _ _ _ _,fun i hi=>?_⟩,fun t=>?_⟩)
 . exact(getElem?_mirror_all hb i).trans (if_neg (by omega))
 . have e:(arrOf (setArr st (mirror (arrOf st) a b ((b - a) / 2))))[t]? = _:=getElem?_mirror_all hb t
   split
   . rename_i h1;rw[if_pos h1]at e;exact dw e
   . rename_i h1;rw[if_neg h1]at e;exact dw e
theorem Rev.rise {st st':SortSt}{a b:Nat}(v:Rev k st st' a b)(f:Fall (ky k (arrOf st)) a b):Rise (ky k (arrOf st')) a b:=fun i j h1 h2 h3=>by
 rw[v.key,v.key,if_pos (by omega),if_pos (by omega)]
 exact f _ _ (by omega) (by omega) (by omega)
theorem Rev.same {st st':SortSt}{a b:Nat}{x:Int}(v:Rev k st st' a b)(h:∀t,a≤t->t < b->ky k (arrOf st) t=x)(t:Nat):ky k (arrOf st') t=ky k (arrOf st) t:=by
 rw[v.key]
 split
 . rename_i q;rw[h _ (by omega) (by omega),h t q.1 q.2]
 . rfl
theorem dA {st:SortSt}{lo a nrem:Nat}{f:Nat->Option (Option Nat)×Nat->StateT SortSt Sem (ForInStep (Option (Option Nat)×Nat))}(hf:∀i n (R:ForInStep (Option (Option Nat)×Nat)->SortSt->Prop),1≤n->n < nrem->(ky k (arrOf st) (lo+n) < ky k (arrOf st) (lo+n - 1)->R (.done (none,n)) st)->(¬ky k (arrOf st) (lo+n) < ky k (arrOf st) (lo+n - 1)->R (.yield (none,n+1)) st)->wpS M A E s (f i (none,n)) R st)(ha:1≤a)(han:a≤nrem)(hs:Rise (ky k (arrOf st)) lo (lo+a)):wpS M A E s (forIn [a:nrem] (none,a) f) (fun c st'=>∃n,st=st'/\c=(none,n)/\a≤n/\n≤nrem/\Rise (ky k (arrOf st)) lo (lo+n)/\(n=nrem∨ky k (arrOf st) (lo+n) < ky k (arrOf st) (lo+n - 1))) st:=by
 refine wpS_forRange (I:=fun x c st'=>st=st'/\c=(none,x)/\Rise (ky k (arrOf st)) lo (lo+x)) ?_ ?_ ⟨rfl,rfl,hs⟩
 . rintro i c st' h1 h2 ⟨rfl,rfl,r⟩;refine hf i i _ (by omega) h2 (fun hc=>⟨i,rfl,rfl,h1,by omega,r,.inr hc⟩) fun hc=>⟨rfl,rfl,fun x y x1 x2 x3=>?_⟩
   by_cases e:y < lo+i
   . exact r x y x1 x2 e
   . have e':y=lo+i:=by omega
     by_cases e2:x=y
     . rw[e2];exact Int.le_refl _
     . have:=r x (lo+i - 1) x1 (by omega) (by omega)
       rw[e'];omega
 . rintro c st' ⟨rfl,rfl,r⟩;rw[show max a nrem=nrem by omega]at r⊢
   exact⟨nrem,rfl,rfl,han,Nat.le_refl _,r,.inl rfl⟩
theorem i3 {st:SortSt}{lo a nrem:Nat}{f:Nat->Option (Option Nat)×Nat×Nat->StateT SortSt Sem (ForInStep (Option (Option Nat)×Nat×Nat))}(hf:∀i n q st1 (R:ForInStep (Option (Option Nat)×Nat×Nat)->SortSt->Prop),kindOf st1=kd->Its P (arrOf st1)->lo+n < (arrOf st1).size->1≤n->(ky k (arrOf st1) (lo+n) < ky k (arrOf st1) (lo+n - 1)->q > 0->∀st2,Rev k st1 st2 (lo+n - (q+1)) (lo+n)->R (.yield (none,n+1,0)) st2)->(ky k (arrOf st1) (lo+n) < ky k (arrOf st1) (lo+n - 1)->q=0->R (.yield (none,n+1,0)) st1)->(ky k (arrOf st1) (lo+n - 1) < ky k (arrOf st1) (lo+n)->R (.done (none,n,q)) st1)->(ky k (arrOf st1) (lo+n)=ky k (arrOf st1) (lo+n - 1)->R (.yield (none,n+1,q+1)) st1)->wpS M A E s (f i (none,n,q)) R st1)(ha:1≤a)(han:a≤nrem)(hz:lo+nrem≤(arrOf st).size)(hk:kindOf st=kd)(hI:Its P (arrOf st))(hs:Fall (ky k (arrOf st)) lo (lo+a)):wpS M A E s (forIn [a:nrem] (none,a,0) f) (fun c st'=>∃n q,c=(none,n,q)/\a≤n/\n≤nrem/\Chg st st' lo (lo+n)/\Fall (ky k (arrOf st')) lo (lo+n)/\q+1≤n/\∀t,lo+n - (q+1)≤t->t < lo+n->ky k (arrOf st') t=ky k (arrOf st') (lo+n - 1)) st:=by
 refine wpS_forRange (I:=fun n c st'=>∃q,c=(none,n,q)/\Chg st st' lo (lo+n)/\Fall (ky k (arrOf st')) lo (lo+n)/\q+1≤n/\∀t,lo+n - (q+1)≤t->t < lo+n->ky k (arrOf st') t=ky k (arrOf st') (lo+n - 1)) ?_ ?_ ⟨0,rfl,.refl _ _ _,hs,by omega,fun t h1 h2=>by rw[show t=lo+a - 1 by omega]⟩
 . rintro n c st1 h1 h2 ⟨q,rfl,g,r,hq,he⟩;have ext:∀xs:Nat->Int,(∀t,xs t=ky k (arrOf st1) t)->ky k (arrOf st1) (lo+n)≤ky k (arrOf st1) (lo+n - 1)->Fall xs lo (lo+(n+1)):=fun xs e hl x y x1 x2 x3=>by
    rw[e,e];by_cases ey:y < lo+n
    . exact r x y x1 x2 ey
    . have e':y=lo+n:=by omega
      by_cases e2:x=y
      . rw[e2];exact Int.le_refl _
      . have:=r x (lo+n - 1) x1 (by omega) (by omega)
        rw[e'];omega
   refine hf n n q st1 _ (by rw[g.kind,hk]) (g.its hI) (by rw[g.size];omega) (by omega) (fun hc hq0 st2 v=>⟨0,rfl,(g.trans (v.chg.mono (by omega) (by omega))).mono (by omega) (by omega),ext _ (v.same he) (by omega),by omega,fun t t1 t2=>by rw[show t=lo+(n+1) - 1 by omega]⟩)
    (fun hc hq0=>⟨0,rfl,g.mono (by omega) (by omega),ext _ (fun _=>rfl) (by omega),by omega,fun t t1 t2=>by rw[show t=lo+(n+1) - 1 by omega]⟩) (fun hc=>⟨n,q,rfl,h1,by omega,g,r,hq,he⟩)
    fun hc=>⟨q+1,rfl,g.mono (by omega) (by omega),ext _ (fun _=>rfl) (by omega),by omega,fun t t1 t2=>?_⟩
   by_cases e:t=lo+n
   . rw[e]
     congr 1
   . rw[he t (by omega) (by omega),show lo+(n+1) - 1=lo+n by omega]
     exact hc.symm
 . rintro c st1 ⟨q,rfl,g,r,hq,he⟩;rw[show max a nrem=nrem by omega]at *
   exact⟨nrem,q,rfl,han,Nat.le_refl _,g,r,hq,he⟩
theorem wpS_count (C:Ask M A E s kd k P){st:SortSt}{lo nrem:Nat}{Q:Option Nat->SortSt->Prop}(hk:kindOf st=kd)(hI:Its P (arrOf st))(h1:1≤nrem)(hz:lo+nrem≤(arrOf st).size)(h:∀m st',1≤m->m≤nrem->Chg st st' lo (lo+nrem)->Rise (ky k (arrOf st')) lo (lo+m)->Q (some m) st'):wpS M A E s (countRun' lo nrem) Q st:=by
 rw[countRun'_eq];refine wpS_bind (wpS_mono (dA (k:=k) (st:=st) (lo:=lo) (fun i n2 R x1 x2 r1 r2=>?_) (Nat.le_refl 1) h1 (fun x y x1 x2 x3=>by rw[show x=y by omega];exact Int.le_refl _)) ?_)
 . dsimp only;refine wpS_bind (cq C hk hI (by omega) (by omega) ?_)
   by_cases hc:ky k (arrOf st) (lo+n2) < ky k (arrOf st) (lo+n2 - 1)
   . simp only[hc,decide_true,if_true];exact wpS_pure (r1 hc)
   . simp only[hc,decide_false,Bool.false_eq_true,if_false];exact wpS_pure (r2 hc)
 rintro _ _ ⟨n,rfl,rfl,a1,a2,a3,a4⟩;dsimp only;by_cases hn:n=nrem
 . subst hn;simp only[BEq.rfl,if_true];exact wpS_pure (h _ _ a1 (Nat.le_refl _) (.refl _ _ _) a3)
 have hb:(n == nrem)=false:=by simp[hn]
 simp only[hb,Bool.false_eq_true,if_false];have hlt:=a4.resolve_left hn;by_cases h2:n > 1
 . rw[if_pos h2];refine wpS_bind (cq C hk hI (by omega) (by omega) ?_)
   by_cases hc:ky k (arrOf st) lo < ky k (arrOf st) (lo+n - 1)
   . simp only[hc,decide_true,if_true];exact wpS_pure (h _ _ a1 a2 (.refl _ _ _) a3)
   simp only[hc,decide_false,Bool.false_eq_true,if_false];have eq:∀t,lo≤t->t < lo+n->ky k (arrOf st) t=ky k (arrOf st) lo:=fun t t1 t2=>by
    have:=a3 lo t (Nat.le_refl _) t1 t2;have:=a3 t (lo+n - 1) t1 (by omega) (by omega)
    omega
   refine wpS_bind (c5 (k:=k) (by omega) fun st1 v1=>?_)
   have c1:Chg st st1 lo (lo+nrem):=v1.chg.mono (Nat.le_refl _) (by omega)
   have f1:Fall (ky k (arrOf st1)) lo (lo+(n+1)):=fun x y x1 x2 x3=>by
    rw[v1.same eq,v1.same eq];by_cases e:y < lo+n
    . rw[eq x x1 (by omega),eq y (by omega) e]
      exact Int.le_refl _
    . have e':y=lo+n:=by omega
      by_cases e2:x=y
      . rw[e2];exact Int.le_refl _
      . rw[e',eq x x1 (by omega)]
        rw[eq (lo+n - 1) (by omega) (by omega)]at hlt
        omega
   refine wpS_bind (wpS_lift (wpAny_rule ⟨rfl,?_⟩));refine wpS_bind (wpS_mono (i3 (kd:=kd) (P:=P) (st:=st1) (lo:=lo) (fun i n2 q2 st2 R k2 i2 z2 h1 r1 r2 r3 r4=>?_) (by omega) (by omega) (by rw[c1.size];omega) (by rw[c1.kind,hk]) (c1.its hI) f1) ?_)
   . dsimp only;refine wpS_bind (cq C k2 i2 (by omega) (by omega) ?_)
     by_cases hc:ky k (arrOf st2) (lo+n2) < ky k (arrOf st2) (lo+n2 - 1)
     . simp only[hc,decide_true,if_true];by_cases hq:q2 > 0
       . rw[if_pos hq];exact wpS_bind (c5 (k:=k) (by omega) fun st3 v3=>wpS_pure (r1 hc hq st3 v3))
       . rw[if_neg hq];exact wpS_pure (r2 hc (by omega))
     . simp only[hc,decide_false,Bool.false_eq_true,if_false];refine wpS_bind (cq C k2 i2 (by omega) (by omega) ?_)
       by_cases hd:ky k (arrOf st2) (lo+n2 - 1) < ky k (arrOf st2) (lo+n2)
       . simp only[hd,decide_true,if_true];exact wpS_pure (r3 hd)
       . simp only[hd,decide_false,Bool.false_eq_true,if_false];exact wpS_pure (r4 (by omega))
   . rintro _ stb ⟨n2,q2,rfl,b1,hn2,b3,b4,b5,b6⟩;dsimp only;by_cases hq:q2 > 0
     . rw[if_pos hq];refine wpS_bind (c5 (k:=k) (by rw[b3.size,c1.size];omega) fun st2 v2=>?_)
       have c2:Chg st st2 lo (lo+nrem):=(c1.trans (b3.mono (Nat.le_refl _) (by omega))).trans (v2.chg.mono (by omega) (by omega))
       have f2:Fall (ky k (arrOf st2)) lo (lo+n2):=fun i j x1 x2 x3=>by
        rw[v2.same (fun t y1 y2=>b6 t y1 y2),v2.same (fun t y1 y2=>b6 t y1 y2)];exact b4 i j x1 x2 x3
       refine wpS_bind (c5 (k:=k) (by rw[c2.size];omega) fun st3 v3=>?_)
       have c3:=c2.trans (v3.chg.mono (Nat.le_refl _) (by omega))
       refine wpS_bind (wpS_mono (dA (st:=st3) (lo:=lo) (fun i n2 R h1 h2 r1 r2=>?_) (by omega) hn2 (v3.rise f2)) ?_)
       . dsimp only;refine wpS_bind (cq C (by rw[c3.kind,hk]) (c3.its hI) (by rw[c3.size];omega) (by rw[c3.size];omega) ?_)
         by_cases hc:ky k (arrOf st3) (lo+n2) < ky k (arrOf st3) (lo+n2 - 1)
         . simp only[hc,decide_true,if_true];exact wpS_pure (r1 hc)
         . simp only[hc,decide_false,Bool.false_eq_true,if_false];exact wpS_pure (r2 hc)
       . rintro _ _ ⟨n3,rfl,rfl,a1,a2,a3,-⟩;exact wpS_pure (h n3 _ (by omega) a2 c3 a3)
     . rw[if_neg hq];have c2:Chg st stb lo (lo+nrem):=c1.trans (b3.mono (Nat.le_refl _) (by omega))
       have f2:=b4;refine wpS_bind (c5 (k:=k) (by rw[c2.size];omega) fun st3 v3=>?_)
       have c3:=c2.trans (v3.chg.mono (Nat.le_refl _) (by omega))
       refine wpS_bind (wpS_mono (dA (st:=st3) (lo:=lo) (fun i n2 R h1 h2 r1 r2=>?_) (by omega) hn2 (v3.rise f2)) ?_)
       . dsimp only;refine wpS_bind (cq C (by rw[c3.kind,hk]) (c3.its hI) (by rw[c3.size];omega) (by rw[c3.size];omega) ?_)
         by_cases hc:ky k (arrOf st3) (lo+n2) < ky k (arrOf st3) (lo+n2 - 1)
         . simp only[hc,decide_true,if_true];exact wpS_pure (r1 hc)
         . simp only[hc,decide_false,Bool.false_eq_true,if_false];exact wpS_pure (r2 hc)
       . rintro _ _ ⟨n3,rfl,rfl,a1,a2,a3,-⟩;exact wpS_pure (h n3 _ (by omega) a2 c3 a3)
 . rw[if_neg h2];have c1:Chg st st lo (lo+nrem):=.refl _ _ _;have f1:Fall (ky k (arrOf st)) lo (lo+(n+1)):=fun x y x1 x2 x3=>by
    by_cases e2:x=y
    . rw[e2];exact Int.le_refl _
    . rw[show x=lo+n - 1 by omega,show y=lo+n by omega]
      omega
   refine wpS_bind (wpS_lift (wpAny_rule ⟨rfl,?_⟩));refine wpS_bind (wpS_mono (i3 (kd:=kd) (P:=P) (st:=st) (lo:=lo) (fun i n2 q2 st2 R k2 i2 z2 h1 r1 r2 r3 r4=>?_) (by omega) (by omega) (by rw[c1.size];omega) (by rw[c1.kind,hk]) (c1.its hI) f1) ?_)
   . dsimp only;refine wpS_bind (cq C k2 i2 (by omega) (by omega) ?_)
     by_cases hc:ky k (arrOf st2) (lo+n2) < ky k (arrOf st2) (lo+n2 - 1)
     . simp only[hc,decide_true,if_true];by_cases hq:q2 > 0
       . rw[if_pos hq];exact wpS_bind (c5 (k:=k) (by omega) fun st3 v3=>wpS_pure (r1 hc hq st3 v3))
       . rw[if_neg hq];exact wpS_pure (r2 hc (by omega))
     . simp only[hc,decide_false,Bool.false_eq_true,if_false];refine wpS_bind (cq C k2 i2 (by omega) (by omega) ?_)
       by_cases hd:ky k (arrOf st2) (lo+n2 - 1) < ky k (arrOf st2) (lo+n2)
       . simp only[hd,decide_true,if_true];exact wpS_pure (r3 hd)
       . simp only[hd,decide_false,Bool.false_eq_true,if_false];exact wpS_pure (r4 (by omega))
   . rintro _ stb ⟨n2,q2,rfl,b1,hn2,b3,b4,b5,b6⟩;dsimp only;by_cases hq:q2 > 0
     . rw[if_pos hq];refine wpS_bind (c5 (k:=k) (by rw[b3.size,c1.size];omega) fun st2 v2=>?_)
       have c2:Chg st st2 lo (lo+nrem):=(c1.trans (b3.mono (Nat.le_refl _) (by omega))).trans (v2.chg.mono (by omega) (by omega))
       have f2:Fall (ky k (arrOf st2)) lo (lo+n2):=fun i j x1 x2 x3=>by
        rw[v2.same (fun t y1 y2=>b6 t y1 y2),v2.same (fun t y1 y2=>b6 t y1 y2)];exact b4 i j x1 x2 x3
       refine wpS_bind (c5 (k:=k) (by rw[c2.size];omega) fun st3 v3=>?_)
       have c3:=c2.trans (v3.chg.mono (Nat.le_refl _) (by omega))
       refine wpS_bind (wpS_mono (dA (st:=st3) (lo:=lo) (fun i n2 R h1 h2 r1 r2=>?_) (by omega) hn2 (v3.rise f2)) ?_)
       . dsimp only;refine wpS_bind (cq C (by rw[c3.kind,hk]) (c3.its hI) (by rw[c3.size];omega) (by rw[c3.size];omega) ?_)
         by_cases hc:ky k (arrOf st3) (lo+n2) < ky k (arrOf st3) (lo+n2 - 1)
         . simp only[hc,decide_true,if_true];exact wpS_pure (r1 hc)
         . simp only[hc,decide_false,Bool.false_eq_true,if_false];exact wpS_pure (r2 hc)
       . rintro _ _ ⟨n3,rfl,rfl,a1,a2,a3,-⟩;exact wpS_pure (h n3 _ (by omega) a2 c3 a3)
     . rw[if_neg hq];have c2:Chg st stb lo (lo+nrem):=c1.trans (b3.mono (Nat.le_refl _) (by omega))
       have f2:=b4;refine wpS_bind (c5 (k:=k) (by rw[c2.size];omega) fun st3 v3=>?_)
       have c3:=c2.trans (v3.chg.mono (Nat.le_refl _) (by omega))
       refine wpS_bind (wpS_mono (dA (st:=st3) (lo:=lo) (fun i n2 R h1 h2 r1 r2=>?_) (by omega) hn2 (v3.rise f2)) ?_)
       . dsimp only;refine wpS_bind (cq C (by rw[c3.kind,hk]) (c3.its hI) (by rw[c3.size];omega) (by rw[c3.size];omega) ?_)
         by_cases hc:ky k (arrOf st3) (lo+n2) < ky k (arrOf st3) (lo+n2 - 1)
         . simp only[hc,decide_true,if_true];exact wpS_pure (r1 hc)
         . simp only[hc,decide_false,Bool.false_eq_true,if_false];exact wpS_pure (r2 hc)
       . rintro _ _ ⟨n3,rfl,rfl,a1,a2,a3,-⟩;exact wpS_pure (h n3 _ (by omega) a2 c3 a3)
theorem wpS_bins (C:Ask M A E s kd k P){st:SortSt}{lo n ok:Nat}{Q:Bool->SortSt->Prop}(hk:kindOf st=kd)(hI:Its P (arrOf st))(h1:1≤n)(hok:ok≤n)(hz:lo+n≤(arrOf st).size)(hs:Rise (ky k (arrOf st)) lo (lo+ok))(h:∀st',Chg st st' lo (lo+n)->Rise (ky k (arrOf st')) lo (lo+n)->Q true st'):wpS M A E s (binarySort' lo n ok) Q st:=by
 rw[binarySort'_eq];refine wpS_bind (wpS_mono (wpS_forRange (I:=fun m c st'=>c=(none,())/\Chg st st' lo (lo+n)/\Rise (ky k (arrOf st')) lo (lo+m)) (Q:=fun c st'=>c=(none,())/\Chg st st' lo (lo+n)/\Rise (ky k (arrOf st')) lo (lo+n)) ?_ ?_ ⟨rfl,.refl _ _ _,?_⟩) ?_)
 . rintro m c st1 x1 x2 ⟨rfl,g,r⟩;dsimp only;refine wpS_bind (wpS_mono (wpS_forRange (I:=fun i c st'=>∃u v,st1=st'/\c=(none,u,v)/\u≤v/\v≤m/\(∀t,lo≤t->t < lo+u->ky k (arrOf st1) t≤ky k (arrOf st1) (lo+m))/\(∀t,lo+v≤t->t < lo+m->ky k (arrOf st1) (lo+m)≤ky k (arrOf st1) t)/\v≤u+(m - i))
    (Q:=fun c st'=>∃u,st1=st'/\c=(none,u,u)/\u≤m/\(∀t,lo≤t->t < lo+u->ky k (arrOf st1) t≤ky k (arrOf st1) (lo+m))/\(∀t,lo+u≤t->t < lo+m->ky k (arrOf st1) (lo+m)≤ky k (arrOf st1) t)) ?_ ?_ ⟨0,m,rfl,rfl,by omega,by omega,fun t t1 t2=>by omega,fun t t1 t2=>by omega,by omega⟩) ?_)
   . rintro i c _ - x3 ⟨u,v,rfl,rfl,b1,b2,b3,b4,b5⟩;dsimp only;by_cases hc:u ≥ v
     . rw[if_pos hc];have e:u=v:=by omega
       subst e;exact wpS_pure ⟨u,rfl,rfl,b2,b3,b4⟩
     . rw[if_neg hc];refine wpS_bind (cq C (by rw[g.kind,hk]) (g.its hI) (by rw[g.size];omega) (by rw[g.size];omega) ?_)
       by_cases hd:ky k (arrOf st1) (lo+m) < ky k (arrOf st1) (lo+(u+v) / 2)
       . simp only[hd,decide_true,if_true];refine wpS_pure ⟨u,(u+v) / 2,rfl,rfl,by omega,by omega,b3,fun t t1 t2=>?_,by omega⟩
         have:=r (lo+(u+v) / 2) t (by omega) t1 t2
         omega
       . simp only[hd,decide_false,Bool.false_eq_true,if_false];refine wpS_pure ⟨(u+v) / 2+1,v,rfl,rfl,by omega,by omega,fun t t1 t2=>?_,b4,by omega⟩
         have:=r t (lo+(u+v) / 2) t1 (by omega) (by omega)
         omega
   . rintro c _ ⟨u,v,rfl,rfl,b1,b2,b3,b4,b5⟩;have e:u=v:=by omega
     subst e;exact⟨u,rfl,rfl,b2,b3,b4⟩
   . rintro c _ ⟨u,rfl,rfl,b2,b3,b4⟩;dsimp only;rw[moveDown'_eq];have hz1:lo+m < (arrOf st1).size:=by rw[g.size];omega
     have G:∀t,(bubble (arrOf st1) (lo+m) (lo+m - (lo+u)))[t]? = _:=getElem?_bubble hz1 (lo+m - (lo+u)) (by omega)
     refine wpS_bind (wpS_modify (wpS_pure ⟨rfl,g.trans ⟨rfl,rfl,rfl,bubble_perm _ _ _,fun i hi=>?_⟩,fun x y y1 y2 y3=>?_⟩))
     . exact(G i).trans ((if_neg (by omega)).trans (if_neg (by omega)))
     . have key:∀t,ky k (bubble (arrOf st1) (lo+m) (lo+m - (lo+u))) t=if t=lo+u then ky k (arrOf st1) (lo+m)else if lo+u < t/\t≤lo+m then ky k (arrOf st1) (t - 1)else ky k (arrOf st1) t:=fun t=>by
        have e:=G t;rw[show lo+m - (lo+m - (lo+u))=lo+u by omega]at e
        split
        . rename_i q;rw[if_pos q]at e;exact dw e
        . rename_i q;rw[if_neg q]at e
          split
          . rename_i q2;rw[if_pos q2]at e;exact dw e
          . rename_i q2;rw[if_neg q2]at e;exact dw e
       show ky k (bubble (arrOf st1) (lo+m) (lo+m - (lo+u))) x≤ky k (bubble (arrOf st1) (lo+m) (lo+m - (lo+u))) y;rw[key,key]
       repeat' split
       all_goals first | exact Int.le_refl _ | (exfalso;omega) | exact b4 _ (by omega) (by omega) | exact b3 _ (by omega) (by omega) | exact r _ _ (by omega) (by omega) (by omega)
 . rintro c st1 ⟨rfl,g,r⟩;rw[show max (max ok 1) n=n by omega]at r
   exact⟨rfl,g,r⟩
 . intro x y x1 x2 x3;by_cases e:ok=0
   . rw[show x=y by omega]
     exact Int.le_refl _
   . exact hs x y x1 x2 (by omega)
 . rintro c st1 ⟨rfl,g,r⟩;exact wpS_pure (h _ g r)
end
end Tw
namespace Tw
open PySem PyProof.Rows
theorem minRun_few {n:Nat}(h1:1≤n)(h:n < 64):minRun' n n 0=n:=by
 obtain⟨m,rfl⟩:∃m,n=m+1:=⟨n - 1,by omega⟩
 rw[minRun'_succ,if_pos h]
structure SB (kd:SortKind) (a₀:Array Keyed) (st:SortSt):Prop where
 kind:kindOf st=kd
 perm:(arrOf st).Perm a₀
 fail:failedOf st=none
section
variable {M:Model}{A:Around}{E:Value->Shared->Prop}{s:Shared}{kd:SortKind}{k:Keyed->Int}{a₀:Array Keyed}{st:SortSt}{lo:Nat}
theorem SB.its (B:SB kd a₀ st):Its (·∈a₀) (arrOf st):=fun y hy=>B.perm.mem_iff.mp hy
theorem SB.size (B:SB kd a₀ st):(arrOf st).size=a₀.size:=B.perm.size_eq
theorem SB.moved (B:SB kd a₀ st){st':SortSt}{a b:Nat}(g:Chg st st' a b):SB kd a₀ st':=⟨g.kind.trans B.kind,g.perm.trans B.perm,g.fail.trans B.fail⟩
theorem iM (C:Ask M A E s kd k (·∈a₀)){Q:Unit->SortSt->Prop}(hk:kindOf st=kd)(hp:(arrOf st).Perm a₀)(hf:failedOf st=none)(hq:pendingOf st = #[])(h2:2≤a₀.size)(h:∀st',(arrOf st').Perm a₀->failedOf st'=none->Rise (ky k (arrOf st')) 0 a₀.size->Q () st')(h64:a₀.size < 64):wpS M A E s sortRuns' Q st:=by
 have B0:SB kd a₀ st:=⟨hk,hp,hf⟩;rw[sortRuns'_eq];refine wpS_bind (wpS_get ?_);dsimp only;rw[B0.size,minRun_few (by omega) h64]
 refine wpS_bind (wpS_mono (wpS_forRange (I:=fun x c st'=>(x=0/\c=(none,0)/\SB kd a₀ st'/\pendingOf st' = #[])∨(1≤x/\c=(none,a₀.size)/\SB kd a₀ st'/\(pendingOf st').size≤1/\Rise (ky k (arrOf st')) 0 a₀.size)) (Q:=fun c st'=>c=(none,a₀.size)/\SB kd a₀ st'/\(pendingOf st').size≤1/\Rise (ky k (arrOf st')) 0 a₀.size) ?_ ?_ (.inl ⟨rfl,rfl,B0,hq⟩)) ?_)
 . rintro x c st1 - hx h1;rcases h1 with⟨rfl,rfl,B,hq1⟩ | ⟨x1,rfl,B,hs,ri⟩
   . dsimp only;have sz:=B.size;rw[if_neg (show ¬0 ≥ a₀.size by omega)]
     refine wpS_bind (wpS_count C B.kind B.its (by omega) (by omega) fun n st2 n1 n2 g r=>?_)
     dsimp only;have B2:=B.moved g;have hq2:pendingOf st2 = #[]:=g.pend.trans hq1;by_cases c2:n < a₀.size
     . rw[if_pos c2];refine wpS_bind (wpS_lift (wpAny_rule ⟨rfl,?_⟩));refine wpS_bind (wpS_bins C B2.kind B2.its (by omega) (by omega) (by rw[B2.size];omega) r fun st3 g3 r3=>?_)
       simp only[Bool.not_true,Bool.false_eq_true,if_false];have B3:=B2.moved g3;have hq3:pendingOf st3 = #[]:=g3.pend.trans hq2;rw[show min (a₀.size - 0) a₀.size=a₀.size by omega]at r3⊢
       refine wpS_bind (wpS_get ?_);rw[show(pendingOf st3).back? = none by rw[hq3];rfl]
       dsimp only;refine wpS_bind (wpS_modify (wpS_pure (.inr ⟨by omega,by rw[Nat.zero_add],⟨B3.kind,B3.perm,B3.fail⟩,?_,?_⟩)))
       . show((pendingOf st3).push _).size≤1;rw[hq3];exact Nat.le_refl _
       . rw[Nat.zero_add]at r3;exact r3
     . rw[if_neg c2];have e:n=a₀.size:=by omega
       subst e;refine wpS_bind (wpS_get ?_);rw[show(pendingOf st2).back? = none by rw[hq2];rfl]
       dsimp only;refine wpS_bind (wpS_modify (wpS_pure (.inr ⟨by omega,by rw[Nat.zero_add],⟨B2.kind,B2.perm,B2.fail⟩,?_,?_⟩)))
       . show((pendingOf st2).push _).size≤1;rw[hq2];exact Nat.le_refl _
       . rw[Nat.zero_add]at r;exact r
   . dsimp only;rw[if_pos (Nat.le_refl _)];exact wpS_pure ⟨rfl,B,hs,ri⟩
 . rintro c st1 h1;rcases h1 with⟨e,_⟩ | ⟨_,rfl,B,hs,ri⟩
   . exact absurd e (by omega)
   . exact⟨rfl,B,hs,ri⟩
 . rintro c st1 ⟨rfl,B,hs,ri⟩;dsimp only;refine wpS_bind (wpS_mono (wpS_forRange (I:=fun x c st'=>c=(none,())/\SB kd a₀ st'/\(pendingOf st').size≤1/\Rise (ky k (arrOf st')) 0 a₀.size) (Q:=fun c st'=>c=(none,())/\SB kd a₀ st'/\Rise (ky k (arrOf st')) 0 a₀.size) ?_ ?_ ⟨rfl,B,hs,ri⟩) ?_)
   . rintro x c st2 - hx ⟨rfl,B2,hs2,ri2⟩;refine wpS_bind (wpS_get ?_);rw[if_pos hs2];exact wpS_pure ⟨rfl,B2,ri2⟩
   . rintro c st2 ⟨rfl,B2,hs2,ri2⟩;exact⟨rfl,B2,ri2⟩
   . rintro c st2 ⟨rfl,B2,ri2⟩;exact wpS_pure (h _ B2.perm B2.fail ri2)
end
end Tw
namespace L2
open PySem PySem.Spec PyProof.Rows Tw
theorem ask_ints {prog:Program}{w:World}{A:Around}{E:Value->Shared->Prop}{s:Shared}{P:Keyed->Prop}(hP:∀p,P p->∃n t,p.1 = .int n t):Ask (model prog w) A E s oneType' (fun p=>numOf p.1) P:=⟨fun st x y Q hk px py h=>by
 obtain⟨n,t,e⟩:=hP x px;obtain⟨m,u,e'⟩:=hP y py;rw[e,e']at h;rw[lt'_eq];refine wpS_bind (wpS_get ?_);rw[hk,keyLt'_oneType,e,e'];exact wpS_bind (wpS_lift (wpAny_attempt (oneLt_int ⟨rfl,wpS_pure h⟩)))⟩
theorem lh (xs:Array Keyed)(i:Nat):ky (fun p=>numOf p.1) xs i=K xs i:=by
 unfold ky K;cases xs[i]?<;>rfl
section
variable {prog:Program}{w:World}{A:Around}{E:Value->Shared->Prop}{s:Shared}{g0:Heap}{L:Addr}{mm:Str->Option Value}{ws:List (Addr×Obj)}{D kS:Addr}{b:Bool}{us:List Value}{zs:List Int}{ks:Array Value}{e e1:Nat}{R:PySem.Fin->Shared->Prop}
end
end L2
namespace L2
open PySem PySem.Spec PyProof.Rows Tw
section
variable {prog:Program}{w:World}{A:Around}{E:Value->Shared->Prop}{s:Shared}
theorem list_sort_any {D:Addr}{us:List Value}{zs:List Int}{c:Nat}{R:PySem.Fin->Shared->Prop}(hD:s.heap.get? D=some (seqObj "list" us.toArray c))(hI:IntsAre us zs)(lim:us.length < 64)(h:∀(o:Array Value) (zs':List Int),IntsAre o.toList zs'->zs'.Perm zs->zs'.Pairwise (·≤·)->R (.done (.ret .none)) { s with heap:=sortedHeap s.heap D us o }):wpAny (model prog w) A (Builtin.«list.sort» ⟨[.ref D],[]⟩) R E s:=by
 rw[list_sort_plain];have dl:D < s.heap.objs.size:=Heap.lt_size hD;refine wpAny_bind (listItems_at hD rfl (wpAny_bind (listUpdate_at hD rfl ?_ (by rw[List.size_toArray,sizeLine_eq];omega) (Nat.zero_le _))))
 obtain⟨e1,x1⟩:∃e1,(s.heap.update D (Obj.mapSeq fun _=>(#[]:Array Value))).get? D=some (seqObj "list" #[] e1):=⟨_,get?_update_seq hD fun _=>#[]⟩;refine wpAny_bind (seqEpoch_at x1 rfl (wpAny_bind (wpAny_newTuple ?_ (by show us.length≤_;rw[sizeLine_eq];omega))))
 refine wpAny_bind (wpAny_newList (wpAny_holding ?_) (Nat.zero_le _));have x2:(((s.heap.update D (Obj.mapSeq fun _=>(#[]:Array Value))).push (seqObj "tuple" us.toArray 0)).push (seqObj "list" #[] 0)).get? D=some (seqObj "list" #[] e1):=Heap.get?_push_of_some _ (Heap.get?_push_of_some _ x1);have zp:(us.toArray.zip us.toArray).size=us.length:=by simp
 have fin:∀st2:SortSt,(arrOf st2).Perm (pairsOf us)->SortedTo (arrOf st2) (pairsOf us).size->R (.done (.ret .none)) { s with heap:=sortedHeap s.heap D us ((arrOf st2).map (·.2)) }:=fun st2 q1 q2=>by
  obtain⟨zs',a1,a2,a3⟩:=sorted_out hI q1 q2;exact h _ zs' a1 a2 a3
 show wpAny (model prog w) A _ R E { s with heap:=((s.heap.update D (Obj.mapSeq fun _=>(#[]:Array Value))).push (seqObj "tuple" us.toArray 0)).push (seqObj "list" #[] 0) }
 dsimp only;by_cases c2:us.toArray.size < 2
 . rw[if_pos c2,if_pos c2];refine wpAny_bind (wpAny_pure ?_);rw[StateT.run_pure];refine wpAny_bind (wpAny_pure (wpAny_bind (seqEpoch_at x2 rfl ?_)));refine wpAny_bind (listUpdate_at x2 rfl ?_ (Nat.zero_le _) (by rw[Array.size_map];refine Nat.le_trans (Nat.le_of_eq zp) ?_;rw[sizeLine_eq];omega))
   simp only[bne_self_eq_false,Bool.false_eq_true,if_false];refine wpAny_pure (fin (SortSt.mk' general' (us.toArray.zip us.toArray) #[] 7 none) (.refl _) fun i j hij hj=>?_);rw[pairsOf_size]at hj;rw[List.size_toArray]at c2;rw[show i=j by omega]
   exact Int.le_refl _
 . rw[if_neg c2,if_neg c2];rw[List.size_toArray]at c2;have hI':IntsAre us.toArray.toList zs:=by rw[List.toList_toArray];exact hI
   rw[ksk_kind hI' (by rw[List.size_toArray];omega)]
   refine wpAny_bind (wpAny_pure (wpAny_bind ?_));have go:=iM (a₀:=pairsOf us) (st:=SortSt.mk' oneType' (us.toArray.zip us.toArray) #[] 7 none) (Q:=fun _ st2=>(arrOf st2).Perm (pairsOf us)/\failedOf st2=none/\Rise (ky (fun p=>numOf p.1) (arrOf st2)) 0 (pairsOf us).size)
    (ask_ints (prog:=prog) (w:=w) (A:=A) (E:=E) (s:={ s with heap:=((s.heap.update D (Obj.mapSeq fun _=>(#[]:Array Value))).push (seqObj "tuple" us.toArray 0)).push (seqObj "list" #[] 0) }) fun p hp=>hI.intKeys p (Array.mem_toList_iff.mpr hp)) rfl (.refl _) rfl rfl (by rw[pairsOf_size];omega) (fun st2 a1 a2 a3=>⟨a1,a2,a3⟩) (by first | omega | (rw[pairsOf_size];omega))
   refine wpAny_mono go ?_ fun _ _ z=>z;rintro⟨⟨⟩,st2⟩ s2 ⟨rfl,q1,q2,q3⟩;dsimp only;refine wpAny_bind (seqEpoch_at x2 rfl ?_);refine wpAny_bind (listUpdate_at x2 rfl ?_ (Nat.zero_le _) (by rw[Array.size_map,q1.size_eq,pairsOf_size,sizeLine_eq];omega))
   rw[q2];simp only[bne_self_eq_false,Bool.false_eq_true,if_false];refine wpAny_pure (fin st2 q1 fun i j hij hj=>?_);have:=q3 i j (Nat.zero_le _) hij hj
   rwa [lh,lh]at this
end
section
variable {X:Cx}
end
end L2
namespace L2
open PySem PySem.Spec PyProof.Rows Tw
theorem firstOfTuple'_eq (v:Value):firstOfTuple' v=(do
 if (←typeOf v) != .type "tuple" then return none
 return (←Builtin.List.listItems v)[0]?):=rfl
section
variable {prog:Program}{w:World}{A:Around}{E:Value->Shared->Prop}{s:Shared}
theorem iD {α β:Type}{f:α->Sem β}{R:α->β->Prop}:∀(l:List α) {Q:List β->Shared->Prop},(∀x∈l,∀(Q':β->Shared->Prop),(∀y,R x y->Q' y s)->wpAny (model prog w) A (f x) Q' E s)->(∀ys,ys.length=l.length->(∀y∈ys,∃x∈l,R x y)->Q ys s)->wpAny (model prog w) A (l.mapM f) Q E s
 | [],Q,_,q=>by
  rw[List.mapM_nil];exact wpAny_pure (q [] rfl fun y h=>nomatch h)
 | x::l,Q,h,q=>by
  rw[List.mapM_cons];refine wpAny_bind (h x (List.mem_cons_self ..) _ fun y hy=>wpAny_bind (iD l (fun z hz=>h z (List.mem_cons_of_mem _ hz)) fun ys e1 e2=>wpAny_pure (q (y::ys) (by rw[List.length_cons,List.length_cons,e1]) fun z hz=>?_)))
  rcases List.mem_cons.mp hz with rfl | hz
  . exact⟨x,List.mem_cons_self ..,hy⟩
  . obtain⟨u,hu,r⟩:=e2 z hz;exact⟨u,List.mem_cons_of_mem _ hu,r⟩
end
section
variable {X:Cx}
def iV:Value->Addr
 | .ref t=>t
 | _=>0
theorem jT:∀{ts:List Addr} {us:List Value},Vals (ts.map V.ref) us->us=ts.map Value.ref
 | [],_,h=>by cases h;rfl
 | t::ts,_,h=>by
  cases h with
  | cons r h =>
   cases r;rw[jT h];rfl
end
end L2
namespace L2
open PySem PySem.Spec PyProof.Rows Tw
open PySem.AutoSeq1 (wpAny_loadPart')
open PySem.MeetsSeq PySem.MeetsSeq2 PySem.MeetsSeq3
def lexB:List Int->List Int->Bool
 | [],[]=>false
 | [],_::_=>true
 | _::_,[]=>false
 | x::a,y::b=>if x=y then lexB a b else decide (x < y)
section
variable {prog:Program}{w:World}{A:Around}{E:Value->Shared->Prop}{s:Shared}
end
end L2
namespace Tw
open L2
end Tw
namespace L2
open PySem PySem.Spec PyProof.Rows Tw
section
variable {prog:Program}{w:World}{A:Around}{E:Value->Shared->Prop}{s:Shared}
end
section
variable {prog:Program}{w:World}{A:Around}{E:Value->Shared->Prop}{s:Shared}{g0:Heap}{L:Addr}{mm:Str->Option Value}{ws:List (Addr×Obj)}{D kS:Addr}{us:List Value}{ks:Array Value}{e e1:Nat}{R:PySem.Fin->Shared->Prop}{lf:Value->List Int}
end
end L2
namespace L2
open PySem PySem.Spec PyProof.Rows Tw
open PySem.AutoSeq1 (wpAny_loadPart')
open PySem.MeetsSeq PySem.MeetsSeq2 PySem.MeetsSeq3
open PySem.SeqAt (EqAt RcAt)
def LtAt (A:Around)(s:Shared)(y x:Value)(b:Bool):Prop:=
 ∀(prog:Program) (w:World) (E:Value->Shared->Prop) (Q:Value->Shared->Prop),Q (.bool b) s->wpAny (model prog w) A (richCompare .Lt y x) Q E s
section
variable {A:Around}{s:Shared}
theorem LtAt.ints (a b:Int)(t u:Tok):LtAt A s (.int a t) (.int b u) (decide (a < b)):=fun prog w E Q h=>by
 show wpAny _ _ (compareOp .Lt _ _) _ _ _;exact lt_int h
theorem LtAt.bools (p q:Bool):LtAt A s (.bool p) (.bool q) (decide (b2i p < b2i q)):=fun prog w E Q h=>by
 show wpAny _ _ (compareOp .Lt _ _) _ _ _;exact lt_bool h
end
def lexT (e l:Nat->Bool)(n1 n2:Nat):List Nat->Bool
 | []=>decide (n1 < n2)
 | i::r=>if e i=true then lexT e l n1 n2 r else l i
theorem tuple_ltAt (l b:Addr)(items items2:Array Value)(n n2:Nat)(dd dd2:Option Addr)(sl sl2:Array (Option Value))(e lt:Nat->Bool):Meets (Builtin.«tuple.__lt__» ⟨[.ref l,.ref b],[]⟩) (fun A R s=>s.heap.get? l=some { cls:=.type "tuple",dict:=dd,data:=.seq items n,slots:=sl }/\s.heap.get? b=some { cls:=.type "tuple",dict:=dd2,data:=.seq items2 n2,slots:=sl2 } ∧
 (∀j (h1:j < items.size) (h2:j < items2.size),EqAt A.in1 s items[j] items2[j] (e j))/\(∀j (h1:j < items.size) (h2:j < items2.size),LtAt A.in1 s items[j] items2[j] (lt j)) ∧
 R (.ok (.ret (.bool (lexT e lt items.size items2.size (List.range (min items.size items2.size)))))) s):=by
 intro prog w A R s h;obtain⟨hp,g,d,tk,os⟩:=s;obtain⟨hl,hb,he,ht,h⟩:=h;have f3:=AutoSeq1.sub_tuple_tuple;have hZ:(items.toList.zip items2.toList).length=min items.size items2.size:=by simp
 wp_walk using wpAny_loadPart' hl,wpAny_loadPart' hb,wpAny_forIn_list _ (fun rest b s'=>b.1=none/\s'=⟨hp,g,d,tk,os⟩/\∃i,rest=(items.toList.zip items2.toList).drop i ∧
  R (.ok (.ret (.bool (lexT e lt items.size items2.size ((List.range (min items.size items2.size)).drop i))))) ⟨hp,g,d,tk,os⟩) _
 case turn =>
  rintro⟨y,x⟩ rest b s' ⟨hb',rfl,i,hz,hR⟩;have hlt:i < (items.toList.zip items2.toList).length:=by
   rcases Nat.lt_or_ge i (items.toList.zip items2.toList).length with h' | h'
   . exact h'
   . rw[List.drop_of_length_le h']at hz;cases hz
  have hm:i < min items.size items2.size:=hZ▸hlt;have h1:i < items.size:=Nat.lt_of_lt_of_le hm (Nat.min_le_left _ _);have h2:i < items2.size:=Nat.lt_of_lt_of_le hm (Nat.min_le_right _ _);rw[List.drop_eq_getElem_cons hlt]at hz;injection hz with hyx hrest
  have hy:y=items[i]:=by have:=congrArg Prod.fst hyx;simpa using this
  have hx:x=items2[i]:=by have:=congrArg Prod.snd hyx;simpa using this
  subst hy hx;have hd:(List.range (min items.size items2.size)).drop i=i::(List.range (min items.size items2.size)).drop (i+1):=by simp[List.drop_eq_getElem_cons,hm]
  rw[hd,lexT]at hR;refine wpAny_bind (he i h1 h2 prog w _ _ ?_);cases hy:e i with
  | true =>
   rw[hy]at hR
   wp_walk
   exact⟨rfl,rfl,i+1,hrest,by simpa using hR⟩
  | false =>
   rw[hy]at hR;simp only[Bool.not_false,if_true];refine wpAny_bind (wpAny_rule (wpAny_bind (ht i h1 h2 prog w _ _ (wpAny_bind (wpAny_pure (wpAny_pure ?_))))));show wpAny _ _ (pure _) _ _ _;exact wpAny_pure (by simpa using hR)
 case fin =>
  rintro⟨b1,b2⟩ s' ⟨hb',rfl,i,hz,hR⟩;simp only at hb';subst hb';have hge:min items.size items2.size≤i:=by
   rcases Nat.lt_or_ge i (items.toList.zip items2.toList).length with h' | h'
   . rw[List.drop_eq_getElem_cons h']at hz;cases hz
   . exact hZ▸h'
  rw[List.drop_of_length_le (by simpa using hge),lexT]at hR
  wp_walk
  simpa [Builtin.Tuple.tupleCompareSizes] using hR
 case h =>
  exact⟨rfl,rfl,0,rfl,by simpa using h⟩
theorem lt_loopAt (l b:Addr)(items items2:Array Value)(n n2:Nat)(dd dd2:Option Addr)(sl sl2:Array (Option Value))(e lt:Nat->Bool)(k:Nat):∀i:Nat,min items.size items2.size - i=k->i≤min items.size items2.size->Meets (Builtin.«list.__eq__.loop» ⟨[.ref l,.ref b,rawInt i,rawInt 0],[]⟩) (fun A R s=>s.heap.get? l=some { cls:=.type "list",dict:=dd,data:=.seq items n,slots:=sl }/\s.heap.get? b=some { cls:=.type "list",dict:=dd2,data:=.seq items2 n2,slots:=sl2 } ∧
 (∀j (h1:j < items.size) (h2:j < items2.size),EqAt A.in1 s items[j] items2[j] (e j))/\(∀j (h1:j < items.size) (h2:j < items2.size),LtAt A.in1 s items[j] items2[j] (lt j)) ∧
 R (.ok (.ret (.bool (lexT e lt items.size items2.size ((List.range (min items.size items2.size)).drop i))))) s):=by
 induction k with
 | zero =>
  intro i hk hle prog w A R s h;obtain⟨hp,g,d,tk,os⟩:=s;obtain⟨hl,hb,he,ht,h⟩:=h;have hd:(List.range (min items.size items2.size)).drop i=[]:=by simp;omega
  rw[hd,lexT]at h
  wp_walk using wpAny_loadPart' hl,wpAny_loadPart' hb
  by_cases c:i < items.size
  . have hi1:items[((i:Nat):Int).toNat]? = some items[i]:=by simp[c]
    have hi2:items2[((i:Nat):Int).toNat]? = none:=by simp;omega
    rw[hi1,hi2]
    wp_walk using wpAny_loadPart' hl,wpAny_loadPart' hb
    exact h
  . have hi1:items[((i:Nat):Int).toNat]? = none:=by simp;omega
    rw[hi1]
    wp_walk using wpAny_loadPart' hl,wpAny_loadPart' hb
    exact h
 | succ k ih =>
  intro i hk hle prog w A R s h;obtain⟨hp,g,d,tk,os⟩:=s;obtain⟨hl,hb,he,ht,h⟩:=h
  wp_walk using wpAny_loadPart' hl,wpAny_loadPart' hb
  have hlt:i < items.size:=by omega
  have hlt2:i < items2.size:=by omega
  have hi1:items[((i:Nat):Int).toNat]? = some items[i]:=by simp[hlt]
  have hi2:items2[((i:Nat):Int).toNat]? = some items2[i]:=by simp[hlt2]
  have hd:(List.range (min items.size items2.size)).drop i=i::(List.range (min items.size items2.size)).drop (i+1):=by
   rw[List.drop_eq_getElem_cons (by rw[List.length_range];omega)];simp
  have hc:((i:Int)+1)=((i+1:Nat):Int):=by push_cast;rfl
  rw[hd,lexT]at h;rw[hi1,hi2];refine wpAny_bind (he i hlt hlt2 prog w _ _ ?_);cases hb':e i with
  | true =>
   rw[hb']at h
   wp_walk
   rw[hc];exact⟨plainId_quiet plain_eq_loop _,codeAny_builtin entry_eq_loop (by
    rw[Around.under_plainId plain_eq_loop _];exact ih (i+1) (by omega) (by omega) prog w A R _ ⟨hl,hb,he,ht,by simpa using h⟩)⟩
  | false =>
   rw[hb']at h
   wp_walk using wpAny_loadPart' hl,wpAny_loadPart' hb
   rw[hi1,hi2];refine wpAny_bind (ht i hlt hlt2 prog w _ _ (wpAny_pure ?_));simpa using h
theorem LtAt.tuples {A:Around}{s:Shared}{l b:Addr}{items items2:Array Value}{e lt:Nat->Bool}(hl:s.heap.IsTuple l items)(hb:s.heap.IsTuple b items2)(hu:A.units < cLine)(he:∀j (h1:j < items.size) (h2:j < items2.size),EqAt A.in1 s items[j] items2[j] (e j))(ht:∀j (h1:j < items.size) (h2:j < items2.size),LtAt A.in1 s items[j] items2[j] (lt j)):LtAt A s (.ref l) (.ref b) (lexT e lt items.size items2.size (List.range (min items.size items2.size))):=fun prog w E Q h=>by
 obtain⟨⟨cls,dd,data,sl⟩,ho,hc,n,hd⟩:=id hl;obtain⟨⟨cls2,dd2,data2,sl2⟩,ho2,hc2,n2,hd2⟩:=id hb;simp only at hc hd hc2 hd2;subst hc hd hc2 hd2;exact richCompare_meets_room (op:=.Lt) ⟨_,ho,rfl⟩ ⟨_,ho2,rfl⟩ F.slot_tuple_lt F.entry_tuple_lt (F.args_tuple_lt_2 _ _) (tuple_ltAt l b items items2 n n2 dd dd2 sl sl2 e lt)
  ⟨ho,ho2,he,ht,show Value.bool _≠Value.notImplemented/\Q (.bool _) s from⟨(fun x=>nomatch x),h⟩⟩ hu
end L2
namespace L2
open PySem PySem.Spec PyProof.Rows Tw
open PySem.AutoSeq1 (wpAny_loadPart')
open PySem.MeetsSeq PySem.MeetsSeq2 PySem.MeetsSeq3
open PySem.SeqAt (EqAt RcAt)
def TupB (h:Heap)(v:Value)(d:Int):Prop:=∃(t:Addr) (b:Bool) (p:Int) (tk:Tok),v = .ref t/\h.IsTuple t #[.bool b,.int p tk]/\0≤p/\p < 12/\d=12*b2i b+p
section
variable {A:Around}{s:Shared}
theorem TupB.uniq {h:Heap}{t:Addr}{d d':Int}(x:TupB h (.ref t) d)(y:TupB h (.ref t) d'):d=d':=by
 obtain⟨t1,b,p,tk,e1,⟨o1,ho1,hc1,n1,hd1⟩,_,_,rfl⟩:=x;obtain⟨t2,b',p',tk',e2,⟨o2,ho2,hc2,n2,hd2⟩,_,_,rfl⟩:=y;cases e1;cases e2;rw[ho1]at ho2;cases ho2;rw[hd1]at hd2;injection hd2 with h1 _
 have h1:([Value.bool b,.int p tk]:List Value)=[.bool b',.int p' tk']:=congrArg Array.toList h1;injection h1 with q1 q2
 injection q2 with q2 _
 injection q1 with q1
 injection q2 with q2 _
 rw[q1,q2]
theorem gL (b:Bool):0≤b2i b/\b2i b≤1:=by cases b<;>decide
theorem TupB.eqAt {v u:Value}{d d':Int}(x:TupB s.heap v d)(y:TupB s.heap u d')(hu:A.units < cLine):EqAt A s v u (decide (d=d')):=by
 obtain⟨t1,b,p,tk,rfl,i1,p0,p1,e1⟩:=id x;obtain⟨t2,b',p',tk',rfl,i2,q0,q1,e2⟩:=id y;by_cases c:t1=t2
 . subst c;rw[decide_eq_true (x.uniq y)];exact EqAt.same _
 . have hb:=gL b;have hb':=gL b';have e:decide (d=d')=((List.range (min (#[Value.bool b,.int p tk]:Array Value).size (#[Value.bool b',.int p' tk']:Array Value).size)).all (fun j=>if j=0 then eqV (.bl b) (.bl b')else eqV (.int p) (.int p'))&&(#[Value.bool b,.int p tk]:Array Value).size == (#[Value.bool b',.int p' tk']:Array Value).size):=by
    show _=((List.range 2).all _&&true);rw[show List.range 2=[0,1]from rfl,List.all_cons,List.all_cons,List.all_nil,Bool.and_true,Bool.and_true]
    show _=((b == b')&&(p == p'));rw[Bool.eq_iff_iff,decide_eq_true_iff,Bool.and_eq_true,beq_iff_eq,beq_iff_eq,e1,e2];constructor
    . intro q;have:b2i b=b2i b':=by omega
      have:b=b':=by revert this;cases b<;>cases b'<;>decide
      exact⟨this,by omega⟩
    . rintro⟨rfl,rfl⟩;rfl
   rw[e];refine EqAt.of_refs c (RcAt.tuples i1 i2 hu fun j h1 h2=>?_)
   match j,h1,h2 with
   | 0,_,_=>exact fg (y:=.bl b) (x:=.bl b') rfl rfl rfl rfl
   | 1,_,_=>exact fg (y:=.int p) (x:=.int p') ⟨_,rfl⟩ ⟨_,rfl⟩ rfl rfl
   | j+2,h1,_=>exact absurd h1 (by simp)
theorem TupB.ltAt {v u:Value}{d d':Int}(x:TupB s.heap v d)(y:TupB s.heap u d')(hu:A.units < cLine):LtAt A s v u (decide (d < d')):=by
 obtain⟨t1,b,p,tk,rfl,i1,p0,p1,e1⟩:=id x;obtain⟨t2,b',p',tk',rfl,i2,q0,q1,e2⟩:=id y;have e:decide (d < d')=lexT (fun j=>if j=0 then eqV (.bl b) (.bl b')else eqV (.int p) (.int p')) (fun j=>if j=0 then decide (b2i b < b2i b')else decide (p < p')) (#[Value.bool b,.int p tk]:Array Value).size (#[Value.bool b',.int p' tk']:Array Value).size (List.range (min (#[Value.bool b,.int p tk]:Array Value).size (#[Value.bool b',.int p' tk']:Array Value).size)):=by
  show _=lexT _ _ 2 2 [0,1];show _=if (b == b')=true then (if (p == p')=true then false else decide (p < p'))else decide (b2i b < b2i b')
  subst e1 e2;cases b<;>cases b'
  . show decide (12*0+p < 12*0+p')=if (p == p')=true then false else decide (p < p')
    by_cases c:p=p'
    . rw[if_pos (beq_iff_eq.mpr c)];exact decide_eq_false (by omega)
    . rw[if_neg (fun q=>c (beq_iff_eq.mp q))];exact decide_eq_decide.mpr ⟨fun _=>by omega,fun _=>by omega⟩
  . show decide (12*0+p < 12*1+p')=true;exact decide_eq_true (by omega)
  . show decide (12*1+p < 12*0+p')=false;exact decide_eq_false (by omega)
  . show decide (12*1+p < 12*1+p')=if (p == p')=true then false else decide (p < p')
    by_cases c:p=p'
    . rw[if_pos (beq_iff_eq.mpr c)];exact decide_eq_false (by omega)
    . rw[if_neg (fun q=>c (beq_iff_eq.mp q))];exact decide_eq_decide.mpr ⟨fun _=>by omega,fun _=>by omega⟩
 rw[e];refine LtAt.tuples i1 i2 hu (fun j h1 h2=>?_) (fun j h1 h2=>?_)
 . match j,h1,h2 with
   | 0,_,_=>exact fg (y:=.bl b) (x:=.bl b') rfl rfl rfl rfl
   | 1,_,_=>exact fg (y:=.int p) (x:=.int p') ⟨_,rfl⟩ ⟨_,rfl⟩ rfl rfl
   | j+2,h1,_=>exact absurd h1 (by simp)
 . match j,h1,h2 with
   | 0,_,_=>exact LtAt.bools b b'
   | 1,_,_=>exact LtAt.ints p p' tk tk'
   | j+2,h1,_=>exact absurd h1 (by simp)
end
def ListT (h:Heap)(v:Value)(l:List Int):Prop:=∃(t:Addr) (items:Array Value) (n:Nat) (dd:Option Addr) (sl:Array (Option Value)),v = .ref t/\h.get? t=some { cls:=.type "list",dict:=dd,data:=.seq items n,slots:=sl }/\items.size=l.length/\∀(i:Nat) (v:Value) (d:Int),items.toList[i]? = some v->l[i]? = some d->TupB h v d
theorem lb {a b:List Int}:∀(k i:Nat),min a.length b.length - i=k->i≤min a.length b.length->lexT (fun j=>decide (a.getD j 0=b.getD j 0)) (fun j=>decide (a.getD j 0 < b.getD j 0)) a.length b.length ((List.range (min a.length b.length)).drop i)=lexB (a.drop i) (b.drop i)
 | 0,i,hk,hle=>by
  have hd:(List.range (min a.length b.length)).drop i=[]:=by simp;omega
  rw[hd,lexT];by_cases c1:i < a.length
  . rw[List.drop_eq_getElem_cons c1,List.drop_eq_nil_of_le (as:=b) (by omega)]
    exact decide_eq_false (by omega)
  . rw[List.drop_eq_nil_of_le (as:=a) (by omega)]
    by_cases c2:i < b.length
    . rw[List.drop_eq_getElem_cons c2];exact decide_eq_true (by omega)
    . rw[List.drop_eq_nil_of_le (as:=b) (by omega)]
      exact decide_eq_false (by omega)
 | k+1,i,hk,hle=>by
  have hd:(List.range (min a.length b.length)).drop i=i::(List.range (min a.length b.length)).drop (i+1):=by
   rw[List.drop_eq_getElem_cons (by rw[List.length_range];omega)];simp
  have d1:a.drop i=a.getD i 0::a.drop (i+1):=by rw[List.drop_eq_getElem_cons (by omega),List.getD_eq_getElem?_getD,List.getElem?_eq_getElem (by omega)];rfl
  have d2:b.drop i=b.getD i 0::b.drop (i+1):=by rw[List.drop_eq_getElem_cons (by omega),List.getD_eq_getElem?_getD,List.getElem?_eq_getElem (by omega)];rfl
  rw[hd,lexT,d1,d2,lb k (i+1) (by omega) (by omega)]
  show(if decide (a.getD i 0=b.getD i 0)=true then _ else _)=if a.getD i 0=b.getD i 0 then _ else _
  by_cases c:a.getD i 0=b.getD i 0
  . rw[if_pos c,if_pos (decide_eq_true c)]
  . rw[if_neg c,if_neg (by rw[decide_eq_false c];decide)]
section
variable {prog:Program}{w:World}{A:Around}{E:Value->Shared->Prop}{s:Shared}
theorem ListT.at {h:Heap}{items:Array Value}{l:List Int}(hs:items.size=l.length)(hi:∀(i:Nat) (v:Value) (d:Int),items.toList[i]? = some v->l[i]? = some d->TupB h v d)(j:Nat)(hj:j < items.size):TupB h items[j] (l.getD j 0):=by
 refine hi j _ _ (by rw[Array.getElem?_toList];exact Array.getElem?_eq_getElem hj) ?_
 rw[List.getD_eq_getElem?_getD,List.getElem?_eq_getElem (by omega)];rfl
theorem oneLt_listT {x y:Value}{a b:List Int}{Q:Bool->Shared->Prop}(hu:A.units+2 < cLine)(hx:ListT s.heap x a)(hy:ListT s.heap y b)(h:Q (lexB a b) s):wpAny (model prog w) A (oneLt' true x y) Q E s:=by
 obtain⟨t,items,n,dd,sl,rfl,ho,hs,hi⟩:=hx;obtain⟨t',items',n',dd',sl',rfl,ho',hs',hi'⟩:=hy;have e0:=lb (a:=a) (b:=b) _ 0 rfl (Nat.zero_le _);rw[List.drop_zero,List.drop_zero,List.drop_zero]at e0;rw[oneLt'_eq];simp only[if_true];refine wpAny_bind (wpAny_cRoomFor (by omega) ?_)
 refine wpAny_bind (wpAny_callSpecialIfBound?_slot (T:="list") ⟨_,ho,rfl⟩ PySem.F.slot_list_lt (call_meets PySem.F.slot_list_lt ⟨_,ho,rfl⟩ PySem.F.entry_list_lt (PySem.F.args_list_lt_2 _ _) (S:=fun A R s=>s.heap.get? t=some { cls:=.type "list",dict:=dd,data:=.seq items n,slots:=sl }/\s.heap.get? t'=some { cls:=.type "list",dict:=dd',data:=.seq items' n',slots:=sl' }/\(∀j (h1:j < items.size) (h2:j < items'.size),EqAt A.in1 s items[j] items'[j] (decide (a.getD j 0=b.getD j 0)))/\(∀j (h1:j < items.size) (h2:j < items'.size),LtAt A.in1 s items[j] items'[j] (decide (a.getD j 0 < b.getD j 0)))/\R (.ok (.ret (.bool (lexB a b)))) s) ?_ ⟨ho,ho',fun j h1 h2=>(ListT.at hs hi j h1).eqAt (ListT.at hs' hi' j h2) ?_,fun j h1 h2=>(ListT.at hs hi j h1).ltAt (ListT.at hs' hi' j h2) ?_,?_⟩))
 . intro prog w A R s h;obtain⟨hp,g,d,tk,os⟩:=s;obtain⟨hl,hb,he,ht,h⟩:=h;have f3:=PySem.AutoSeq1.sub_list_list
   wp_walk using wpAny_loadPart' hl,wpAny_loadPart' hb
   exact⟨plainId_quiet plain_eq_loop _,codeAny_builtin entry_eq_loop (by
    rw[Around.under_plainId plain_eq_loop _];refine lt_loopAt t t' items items' n n' dd dd' sl sl' (fun j=>decide (a.getD j 0=b.getD j 0)) (fun j=>decide (a.getD j 0 < b.getD j 0)) _ 0 rfl (Nat.zero_le _) prog w A R _ ⟨hl,hb,he,ht,?_⟩;rw[List.drop_zero,hs,hs',e0];exact h)⟩
 . show A.units+1 < cLine;omega
 . show A.units+1 < cLine;omega
 . exact wpAny_truthy_bool h
end
end L2
namespace Tw
open L2
def encT:Nat->List Int->Int
 | _,[]=>0
 | 0,_::_=>0
 | m+1,x::r=>(x+1)*25 ^ m+encT m r
def ShortT (m:Nat)(l:List Int):Prop:=l.length≤m/\∀x∈l,0≤x/\x < 24
theorem j5 (m:Nat):(0:Int) < 25 ^ m:=Int.pow_pos (by decide)
theorem ShortT.tail {m:Nat}{x:Int}{l:List Int}(h:ShortT (m+1) (x::l)):ShortT m l:=⟨by have:=h.1;rw[List.length_cons]at this;omega,fun y hy=>h.2 y (List.mem_cons_of_mem _ hy)⟩
theorem eQ:∀{m:Nat} {l:List Int},ShortT m l->0≤encT m l/\encT m l < 25 ^ m
 | m,[],_=>⟨by cases m<;>exact Int.le_refl _,by cases m<;>exact j5 _⟩
 | 0,x::l,h=>absurd h.1 (by simp)
 | m+1,x::l,h=>by
  have ih:=eQ h.tail;have hx:=h.2 x (List.mem_cons_self ..);have p:=j5 m;show 0≤(x+1)*25 ^ m+encT m l/\(x+1)*25 ^ m+encT m l < 25 ^ (m+1);have e:(25:Int) ^ (m+1)=25*25 ^ m:=by rw[Int.pow_succ,Int.mul_comm]
  rw[e];have a:=Int.mul_le_mul_of_nonneg_right (show x+1≤24 by omega) (Int.le_of_lt p)
  have b:=Int.mul_nonneg (show 0≤x+1 by omega) (Int.le_of_lt p)
  exact⟨by omega,by omega⟩
theorem dq:∀{m:Nat} {a b:List Int},ShortT m a->ShortT m b->lexB a b=decide (encT m a < encT m b)
 | m,[],[],_,_=>by
  have:¬encT m [] < encT m []:=Int.lt_irrefl _;rw[decide_eq_false this];rfl
 | 0,[],y::b,_,h=>absurd h.1 (by simp)
 | m+1,[],y::b,_,h=>by
  have p:=j5 m;have hy:=h.2 y (List.mem_cons_self ..);have bb:=eQ h.tail;have b1:=Int.mul_le_mul_of_nonneg_right (show(1:Int)≤y+1 by omega) (Int.le_of_lt p)
  have:encT (m+1) [] < encT (m+1) (y::b):=by
   show(0:Int) < (y+1)*25 ^ m+encT m b;omega
  rw[decide_eq_true this];rfl
 | 0,x::a,_,h,_=>absurd h.1 (by simp)
 | m+1,x::a,[],h,_=>by
  have p:=j5 m;have hx:=h.2 x (List.mem_cons_self ..);have aa:=eQ h.tail;have b1:=Int.mul_nonneg (show(0:Int)≤x+1 by omega) (Int.le_of_lt p)
  have:¬encT (m+1) (x::a) < encT (m+1) []:=by
   show ¬(x+1)*25 ^ m+encT m a < (0:Int);omega
  rw[decide_eq_false this];rfl
 | m+1,x::a,y::b,ha,hb=>by
  have p:=j5 m;have ba:=eQ ha.tail;have bb:=eQ hb.tail;show(if x=y then lexB a b else decide (x < y))=decide ((x+1)*25 ^ m+encT m a < (y+1)*25 ^ m+encT m b)
  by_cases e:x=y
  . rw[if_pos e,dq ha.tail hb.tail,e,decide_eq_decide];omega
  . rw[if_neg e,decide_eq_decide];constructor
    . intro h;have:=Int.mul_le_mul_of_nonneg_right (show x+1+1≤y+1 by omega) (Int.le_of_lt p)
      rw[Int.add_mul (x+1) 1]at this;omega
    . intro h;refine Int.not_le.mp fun h'=>?_;have:=Int.mul_le_mul_of_nonneg_right (show y+1+1≤x+1 by omega) (Int.le_of_lt p)
      rw[Int.add_mul (y+1) 1]at this;omega
end Tw
namespace L2
open PySem PySem.Spec PyProof.Rows Tw
section
variable {prog:Program}{w:World}{A:Around}{E:Value->Shared->Prop}{s:Shared}
theorem ask_listsT {P:Keyed->Prop}{lf:Value->List Int}(hu:A.units+2 < cLine)(hP:∀p,P p->ListT s.heap p.1 (lf p.1)/\ShortT 12 (lf p.1)):Ask (model prog w) A E s oneType' (fun p=>encT 12 (lf p.1)) P:=⟨fun st x y Q hk px py h=>by
 obtain⟨h1,h2⟩:=hP x px;obtain⟨h3,h4⟩:=hP y py;rw[←dq h2 h4]at h;rw[lt'_eq];refine wpS_bind (wpS_get ?_);rw[hk,keyLt'_oneType];exact wpS_bind (wpS_lift (wpAny_attempt (oneLt_listT hu h1 h3 ⟨rfl,wpS_pure h⟩)))⟩
theorem kind_listsT {vs:List Value}{Q:SortKind->Shared->Prop}(h2:2≤vs.length)(hv:∀v∈vs,∃l,ListT s.heap v l)(h:Q oneType' s):wpAny (model prog w) A (keyKind' vs.toArray) Q E s:=by
 rw[keyKind'_eq,List.mapM_toArray];refine wpAny_bind ?_;rw[map_eq_pure_bind];refine wpAny_bind (iD (R:=fun _ y=>y=none) vs (fun v hv' Q' q=>?_) fun ys l1 e1=>wpAny_pure ?_)
 . obtain⟨l,t,items,n,dd,sl,rfl,ho,hi,_⟩:=hv v hv';rw[firstOfTuple'_eq];refine wpAny_bind (wpAny_typeOf (T:="list") ⟨_,ho,rfl⟩ ?_);rw[if_pos (by decide)]
   exact wpAny_pure (q _ rfl)
 . cases ys with
   | nil=>rw[List.length_nil]at l1;omega
   | cons y ys =>
    obtain⟨_,_,rfl⟩:=e1 y (List.mem_cons_self ..);rw[if_neg (by simp),if_neg (by simp)]
    refine wpAny_bind ?_;rw[oneTypeOnly'_eq,List.mapM_toArray];refine wpAny_bind ?_;rw[map_eq_pure_bind];refine wpAny_bind (iD (R:=fun _ y=>y=Value.type "list") vs (fun v hv' Q' q=>?_) fun ts l2 e2=>wpAny_pure ?_)
    . obtain⟨l,t,items,n,dd,sl,rfl,ho,hi,_⟩:=hv v hv';exact wpAny_typeOf (T:="list") ⟨_,ho,rfl⟩ (q _ rfl)
    . cases ts with
      | nil=>rw[List.length_nil]at l2;omega
      | cons z l =>
       obtain⟨_,_,rfl⟩:=e2 z (List.mem_cons_self ..);have all2:((Value.type "list" :: l).toArray.all fun x=>x == Value.type "list")=true:=by
        rw[List.all_toArray,List.all_eq_true];intro z hz;obtain⟨_,_,rfl⟩:=e2 z hz;rfl
       show wpAny _ _ (pure (if ((Value.type "list" :: l).toArray.all fun x=>x == Value.type "list")=true then some (Value.type "list")else none)) _ _ s
       rw[if_pos all2];exact wpAny_pure (wpAny_pure h)
end
section
variable {prog:Program}{w:World}{A:Around}{E:Value->Shared->Prop}{s:Shared}{g0:Heap}{L:Addr}{mm:Str->Option Value}{ws:List (Addr×Obj)}{D kS:Addr}{us:List Value}{ks:Array Value}{e e1:Nat}{R:PySem.Fin->Shared->Prop}{lf:Value->List Int}
theorem lK {st:SortSt}{m:Nat}(hl:ks.size=us.length)(hp:(arrOf st).Perm (ks.zip us.toArray))(so:Rise (ky (fun p=>encT 12 (lf p.1)) (arrOf st)) 0 m)(hm:m=us.length):KskOut false (ks.toList.map fun v=>encT 12 (lf v)) us ((arrOf st).map (·.2)).toList:=by
 have hp':(arrOf st).toList.Perm (ks.toList.zip us):=by
  have:=Array.perm_iff_toList_perm.mp hp;rw[Array.toList_zip,List.toList_toArray]at this;exact this
 refine⟨(arrOf st).toList.map fun p=>(encT 12 (lf p.1),p.2),?_,?_,?_⟩
 . have:=hp'.map fun p:Value×Value=>(encT 12 (lf p.1),p.2);rw[List.zip_map_left];exact this
 . rw[Array.toList_map,List.map_map];rfl
 . rw[List.pairwise_map,List.pairwise_iff_getElem];intro i j hi hj hij;have hsz:(arrOf st).toList.length=us.length:=by
    rw[hp'.length_eq,List.length_zip,Array.length_toList];omega
   have:=so i j (Nat.zero_le _) (by omega) (by rw[hm,←hsz];exact hj)
   rw[kb (y:=(arrOf st).toList[i]) (by rw[←Array.getElem?_toList];exact List.getElem?_eq_getElem hi),kb (y:=(arrOf st).toList[j]) (by rw[←Array.getElem?_toList];exact List.getElem?_eq_getElem hj)]at this
   exact this
theorem kx {st:SortSt}(F:Fr g0 L s.heap mm)(N:News g0 L s.heap (ws++[(kS,seqObj "list" ks e),(D,seqObj "list" #[] e1)]))(n1:kS≠D)(n2:∀q∈ws,q.1≠kS)(n3:∀q∈ws,q.1≠D)(zk:ks.size=us.length)(lim:us.length < 64)(hp:(arrOf st).Perm (ks.zip us.toArray))(nf:failedOf st=none)(ko:KskOut false (ks.toList.map fun v=>encT 12 (lf v)) us ((arrOf st).map (·.2)).toList)(h:∀h2 tk o c,Fr g0 L h2 mm->News g0 L h2 ((D,seqObj "list" o c)::ws)->KskOut false (ks.toList.map fun v=>encT 12 (lf v)) us o.toList->R (.done (.ret .none)) { s with heap:=h2,toks:=tk }):wpAny (model prog w) A (ksk_tail D false e1 (.ref kS) st) R E s:=by
 have x1:=N (kS,seqObj "list" ks e) (List.mem_append_right _ (.head _));have x2:=N (D,seqObj "list" #[] e1) (List.mem_append_right _ (.tail _ (.head _)));have za:(arrOf st).size=us.length:=by rw[hp.size_eq,Array.size_zip,zk,List.size_toArray,Nat.min_self]
 generalize ho:(arrOf st).map (·.2)=o at ko;have zo:o.size=us.length:=by rw[←ho,Array.size_map,za]
 have t1:=Heap.SameBut.update s.heap kS (Obj.mapSeq fun _=>(#[]:Array Value));have y2:(s.heap.update kS (Obj.mapSeq fun _=>(#[]:Array Value))).get? D=some (seqObj "list" #[] e1):=(t1.2 D n1.symm).trans x2.1;have t2:=Heap.SameBut.update (s.heap.update kS (Obj.mapSeq fun _=>(#[]:Array Value))) D (Obj.mapSeq fun _=>o);obtain⟨c2,y3⟩:∃c2,((s.heap.update kS (Obj.mapSeq fun _=>(#[]:Array Value))).update D (Obj.mapSeq fun _=>o)).get? D=some (seqObj "list" o c2):=⟨_,get?_update_seq y2 fun _=>o⟩;have N2:=ksk_news (ksk_news (fun q hq=>N q (List.mem_append_left _ hq):News g0 L s.heap ws) t1 n2) t2 n3;unfold ksk_tail;dsimp only;refine wpAny_bind (listUpdate_at x1.1 rfl ?_ (by rw[zk,sizeLine_eq];omega) (Nat.zero_le _))
 refine wpAny_bind (wpAny_letGo (wpAny_bind (seqEpoch_at y2 rfl ?_)));rw[if_neg (by simp),ho]
 refine wpAny_bind (listUpdate_at y2 rfl ?_ (Nat.zero_le _) (Nat.le_trans (Nat.le_of_eq zo) (by rw[sizeLine_eq];omega)))
 rw[nf];simp only[bne_self_eq_false,Bool.false_eq_true,if_false];refine wpAny_pure (h _ _ o c2 (ksk_fr (ksk_fr F t1 x1.2.1 x1.2.2) t2 x2.2.1 x2.2.2) (fun q hq=>?_) ko);rcases List.mem_cons.mp hq with rfl | hq
 . exact⟨y3,x2.2⟩
 . exact N2 q hq
theorem endLT (hu:A.units+2 < cLine)(F:Fr g0 L s.heap mm)(N:News g0 L s.heap (ws++[(kS,seqObj "list" ks e),(D,seqObj "list" #[] e1)]))(n1:kS≠D)(n2:∀q∈ws,q.1≠kS)(n3:∀q∈ws,q.1≠D)(zk:ks.size=us.length)(hk:∀v∈ks.toList,ListT s.heap v (lf v)/\ShortT 12 (lf v))(lim:us.length < 64)(h:∀h2 tk o c,Fr g0 L h2 mm->News g0 L h2 ((D,seqObj "list" o c)::ws)->KskOut false (ks.toList.map fun v=>encT 12 (lf v)) us o.toList->R (.done (.ret .none)) { s with heap:=h2,toks:=tk }):wpAny (model prog w) A (ksk_end D false us.toArray e1 (.ref kS) ks) R E s:=by
 have zz:(ks.zip us.toArray).size=us.length:=by rw[Array.size_zip,zk,List.size_toArray,Nat.min_self]
 unfold ksk_end;dsimp only;simp only[Bool.false_eq_true,if_false];by_cases c:us.toArray.size < 2
 . rw[if_pos c,if_pos c];refine wpAny_bind (wpAny_pure ?_);rw[StateT.run_pure];have c':=c;rw[List.size_toArray]at c';refine wpAny_bind (wpAny_pure (kx (lf:=lf) (st:=SortSt.mk' general' (ks.zip us.toArray) #[] 7 none) F N n1 n2 n3 zk lim (.refl _) rfl (lK (m:=us.length) zk (.refl _) (fun i j _ hij hj=>?_) rfl) h));rw[show i=j by omega]
   exact Int.le_refl _
 . rw[if_neg c,if_neg c];rw[List.size_toArray]at c;have ek:ks=ks.toList.toArray:=by rw[Array.toArray_toList]
   have kk:∀{Q:SortKind->Shared->Prop},Q oneType' s->wpAny (model prog w) A (keyKind' ks) Q E s:=fun{Q} q=>by
    rw[ek];exact kind_listsT (by rw[Array.length_toList];omega) (fun v hv=>⟨_,(hk v hv).1⟩) q
   refine wpAny_bind (kk (wpAny_bind ?_));have go:=iM (a₀:=ks.zip us.toArray) (st:=SortSt.mk' oneType' (ks.zip us.toArray) #[] 7 none) (Q:=fun _ st2=>(arrOf st2).Perm (ks.zip us.toArray)/\failedOf st2=none/\Rise (ky (fun p=>encT 12 (lf p.1)) (arrOf st2)) 0 (ks.zip us.toArray).size)
    (ask_listsT (prog:=prog) (w:=w) (A:=A) (E:=E) (s:=s) (lf:=lf) hu fun p hp=>by
      have hp':=Array.mem_toList_iff.mpr hp;rw[Array.toList_zip,List.toList_toArray]at hp';exact hk _ (List.of_mem_zip (a:=p.1) (b:=p.2) hp').1) rfl (.refl _) rfl rfl (by omega) (fun st2 a1 a2 a3=>⟨a1,a2,a3⟩) (by first | omega | (rw[pairsOf_size];omega))
   refine wpAny_mono go ?_ fun _ _ z=>z;rintro⟨⟨⟩,st2⟩ s2 ⟨rfl,q1,q2,q3⟩;exact kx F N n1 n2 n3 zk lim q1 q2 (lK zk q1 q3 zz) h
end
end L2
namespace L2
open PySem PySem.Spec PyProof.Rows Tw
open PySem.W (tabObj CodeHd kla_obj kla_fn envX)
theorem eF {α β:Type}{g:α->β}{ps qs:List β}(h:ps.Perm qs):∀l:List α,l.map g=qs->∃l':List α,l'.Perm l/\l'.map g=ps:=by
 induction h with
 | nil=>intro l e;exact⟨l,.refl _,e⟩
 | cons x _ ih =>
  intro l e;cases l with
  | nil=>cases e
  | cons y l =>
   rw[List.map_cons]at e;injection e with e1 e2
   obtain⟨l',p,e'⟩:=ih l e2;exact⟨y::l',p.cons y,by rw[List.map_cons,e1,e']⟩
 | swap x y r =>
  intro l e
  match l,e with
  | [],e=>cases e
  | [_],e=>simp at e
  | a::b::l,e =>
   simp only[List.map_cons,List.cons.injEq]at e;exact⟨b::a::l,List.Perm.swap _ _ _,by simp only[List.map_cons,e.1,e.2.1,e.2.2]⟩
 | trans _ _ ih1 ih2 =>
  intro l e;obtain⟨l2,p2,e2⟩:=ih2 l e;obtain⟨l1,p1,e1⟩:=ih1 l2 e2;exact⟨l1,p1.trans p2,e1⟩
theorem sort_out {b:Bool}{kf:V->Int}{xs:List V}{its out:List Value}(rv:Vals xs its)(h:KskOut b (xs.map kf) its out):∃ys:List V,ys.Perm xs/\Vals ys out/\ys.Pairwise fun y z=>if b then kf z≤kf y else kf y≤kf z:=by
 obtain⟨ps,p,rfl,w⟩:=h;have hl:=rv.length;have e:(xs.zip its).map (fun q=>(kf q.1,q.2))=(xs.map kf).zip its:=by
  rw[List.zip_map_left];rfl
 obtain⟨l',p',e'⟩:=eF (g:=fun q:V×Value=>(kf q.1,q.2)) p (xs.zip its) e;refine⟨l'.map (·.1),?_,?_,?_⟩
 . have:=p'.map (·.1);rw[List.map_fst_zip (by omega)]at this
   exact this
 . have mem:∀q∈l',RelV q.1 q.2:=fun q hq=>by
    have hm:=p'.mem_iff.mp hq;obtain⟨i,hi⟩:=List.mem_iff_getElem?.mp hm;rw[List.getElem?_zip_eq_some]at hi;obtain⟨u,hu,r⟩:=rv.get hi.1;rw[hi.2]at hu;cases hu;exact r
   rw[←e',List.map_map];clear e' p' w p
   induction l' with
   | nil=>exact .nil
   | cons q r ih=>exact .cons (mem q (.head _)) (ih fun z hz=>mem z (.tail _ hz))
 . rw[←e',List.pairwise_map]at w;rw[List.pairwise_map];exact w
section
variable {X:Cx}{pins:List (Addr×Obj)}{σ:St}{H:Hp}{s:Shared}{h':Heap}
theorem Inv.sorted {D kS:Addr}{ys:List V}{out:Array Value}{c:Nat}{tk:Nat}(I:Inv X pins σ H s)(fD:FpOk X pins H D)(fk:FpOk X pins H kS)(hDk:kS≠D)(k:∀b o,b≠D->b≠kS->b≠X.env.locals->s.heap.get? b=some o->h'.get? b=some o)(ns:∀m,s.heap.Ns X.env.locals m->h'.Ns X.env.locals m)(rv:Vals ys out.toList)(hz:ys.length≤sizeLine)(hD:h'.get? D=some (seqObj "list" out c)):Inv X pins σ (upd H D (.lst ys)) { s with heap:=h',toks:=tk }:=by
 have hn:=fD.1;have ne:∀b u,H b=some u->b≠D/\b≠kS/\b≠X.env.locals:=fun b u e=>⟨a8 e hn,a8 e fk.1,a8 e I.free⟩;refine I.step (g':=s.gens) (d':=s.drawn) (ch:=[D,kS]) (fun b hb=>?_) (fun b o hL _ hc e _=>k b o (fun z=>hc (by simp[z])) (fun z=>hc (by simp[z])) hL e) (fun b o hL _ hc e _=>⟨o.slots,k b o (fun z=>hc (by simp[z])) (fun z=>hc (by simp[z])) hL e⟩)
  (fun b o hc _ n=>by rw[ac (fun z=>hc (by simp[z]))];exact n) (fun b o hc e=>?_) (fun b xs q=>by rw[ac (a8 q hn)];exact q) (fun b o u q=>by rw[ac (a8 q hn)];exact q) (fun b p q=>⟨#[],by rw[ac (a8 q hn),q];simp⟩) ns (fun b u e=>?_) I.bare
 . rcases List.mem_cons.mp hb with rfl | hb
   . exact⟨fD.2.2.2.1,fD.2.1,fD.2.2.2.2.1,fD.2.2.2.2.2⟩
   . rw[List.mem_singleton.mp hb];exact⟨fk.2.2.2.1,fk.2.1,fk.2.2.2.2.1,fk.2.2.2.2.2⟩
 . by_cases hL:b=X.env.locals
   . obtain⟨m',hm,_⟩:=I.loc;obtain⟨o',_,_,e',_⟩:=ns m' hm;exact⟨o',hL▸e'⟩
   . exact⟨o,k b o (fun z=>hc (by simp[z])) (fun z=>hc (by simp[z])) hL e⟩
 . by_cases hb:b=D
   . subst hb;rw[a9]at e;cases e;exact⟨hz,out.toList,c,rv,by rw[hD]⟩
   . rw[ac hb]at e;refine(I.hok b u e).stay (fun d v hd q=>k d v ?_ ?_ ?_ q) (fun d q=>by rw[ac (a8 q hn)];exact q) fun d v _ q=>by rw[ac (a8 q hn)];exact q
     all_goals
      rcases hd with rfl | hd
      . first | exact(ne _ u e).1 | exact(ne _ u e).2.1 | exact(ne _ u e).2.2
      . first | exact(ne _ _ hd).1 | exact(ne _ _ hd).2.1 | exact(ne _ _ hd).2.2
theorem FpOk.pin {D:Addr}{o:Obj}{pins':List (Addr×Obj)}(I:Inv X pins σ H s)(f:FpOk X pins H D)(e:s.heap.get? D=some o)(hd:∀v,o.data≠.cell v)(hp:∀p∈pins',p=(D,o)∨p∈pins):Inv X pins' σ H s:=
 I.pins_of fun p h=>by
  rcases hp p h with rfl | h
  . exact⟨e,f.1,f.2.1,f.2.2.1,hd⟩
  . exact I.pin p (List.mem_append_right _ h)
theorem FpOk.base (I:Inv X pins σ H s){D:Addr}(f:FpOk X pins H D):X.base.get? D=none:=by
 rcases f.2.2.2.1 with z | z
 . cases q:X.base.get? D with
   | none=>rfl
   | some o=>exact absurd z (I.ok.noex D o q)
 . exact Heap.get?_none_of_le (Nat.le_trans I.ok.bsz z)
end
end L2
namespace L2
open PySem PySem.Spec PyProof.Rows Tw
open PySem.W (tabObj CodeHd kla_obj kla_fn envX)
section
variable {X:Cx}{pins:List (Addr×Obj)}{σ:St}{H:Hp}{s:Shared}
structure Tab (K:PySem.W.Frag) (cdv:Value) (P:Addr):Prop where
 ex:∃c,cdv = .ref c/\∀h:Heap,K.In h->CodeHd h c P
structure LamOk (X:Cx) (params:Arguments) (body:Expr) (scope:Scope) (q x:Str) (M1:List Str) (P:Addr) (tb:TE):Prop where
 tab:Tab X.K X.env.code P
 qual:X.env.qual ++ "<lambda>" = q
 sc:LamScope scope x
 nm:LamNames X scope x M1
 dflt:defaultsOf params X.env=([],[])
 bind:∀clos pm c' ctv u,bindArgs (kla_fn "<lambda>" q params body scope clos pm (.ref c') ctv) ⟨[u],[]⟩=pure [(x,u)]
 body:∀f c' clos A outer s H,PE (dz X.prog X.w X.K X.mg X.base (M1++[x]) q scope f (.ref c') clos A outer s H) body tb
end
end L2
namespace L2
open PySem PySem.Spec PyProof.Rows Tw
open PySem.W (tabObj CodeHd kla_obj kla_fn envX)
section
variable {X:Cx}
theorem sq_same {K:PySem.W.Frag}{H H1:Hp}{a:Addr}{xs:List V}(h:SqL K H a xs)(s:Same H H1):SqL K H1 a xs:=s.seq h
end
end L2
namespace L2
open PySem PySem.Spec PyProof.Rows Tw
open PySem.W (tabObj CodeHd tabIn)
def lamQ (n:Str):Str:=n ++ ".<locals>." ++ "<lambda>"
def iN (n:Str):HO:=.tbl #[.str (lamQ n) 0]
def io (K:PySem.W.Frag)(names:List Str):Bool:=
 (names.all fun n=>match tabIn K n with
   | some (_,P)=>(K.lookup P).isNone
   | none=>false)&&decide ((names.filterMap fun n=>(tabIn K n).map (·.2)).Nodup)
def cg (K:PySem.W.Frag)(names:List Str)(b:Addr):Option Str:=names.find? fun n=>decide ((tabIn K n).map (·.2)=some b)
theorem g6 {K:PySem.W.Frag}:∀{names:List Str} {n:Str} {c P:Addr},(names.filterMap fun n=>(tabIn K n).map (·.2)).Nodup->n∈names->tabIn K n=some (c,P)->cg K names P=some n
 | [],_,_,_,_,h,_=>nomatch h
 | m::names,n,c,P,nd,h,e=>by
  unfold cg;rw[List.find?_cons];cases hm:tabIn K m with
  | none =>
   have:decide ((none:Option (Addr×Addr)).map (·.2)=some P)=false:=by simp
   rw[this];rw[List.filterMap_cons,hm]at nd;rcases List.mem_cons.mp h with rfl | h
   . rw[e]at hm;cases hm
   . exact g6 nd h e
  | some r =>
   obtain⟨c',P'⟩:=r;rw[List.filterMap_cons,hm]at nd;have nd':=List.nodup_cons.mp nd;by_cases hP:P'=P
   . subst hP;have:decide (((some (c',P')):Option (Addr×Addr)).map (·.2)=some P')=true:=by simp
     rw[this];rcases List.mem_cons.mp h with rfl | h
     . rfl
     . exact absurd (List.mem_filterMap.mpr ⟨n,h,by rw[e];rfl⟩) nd'.1
   . have:decide (((some (c',P')):Option (Addr×Addr)).map (·.2)=some P)=false:=by simp[hP]
     rw[this];rcases List.mem_cons.mp h with rfl | h
     . rw[e]at hm;cases hm;exact absurd rfl hP
     . exact g6 nd'.2 h e
theorem tabAt_mem {K:PySem.W.Frag}{names:List Str}{n:Str}{P:Addr}(h:cg K names P=some n):n∈names/\∃c,tabIn K n=some (c,P):=by
 refine⟨List.mem_of_find?_eq_some h,?_⟩;have:=List.find?_some h;have e:=of_decide_eq_true this;cases ht:tabIn K n with
 | none=>rw[ht]at e;cases e
 | some r =>
  rw[ht]at e;obtain⟨c,P'⟩:=r;cases e;exact⟨c,rfl⟩
def Tabs (K:PySem.W.Frag)(names:List Str)(H:Hp):Prop:=∀n∈names,∀c P,tabIn K n=some (c,P)->H P=some (iN n)
theorem law_callT {P:Program}{w:World}{K:PySem.W.Frag}{mg mb:Str->Option Value}{k:Nat}{fa a:Addr}{fd:FuncData}{x:Str}{sp:Sp}{s₁:Shared}{vs:List Value}{ns:List Int}{names:List Str}(KX:K.In s₁.heap)(hns:s₁.heap.Ns mainGlobals mg)(hb:s₁.heap.Ns builtinsNs mb)(hbb:∀x:Str,x ≠ "__name__"->mb x=bootBuiltins x)(hlim:s₁.heap.NoLimit)(hbm:∃bm ob,mg "__builtins__" = some (.ref bm)/\bm≠builtinsNs/\s₁.heap.get? bm=some ob/\ob.cls = .type "module"/\ob.dict=some builtinsNs/\ob.data = .plain)(hg:s₁.gens = #[])(ha:s₁.heap.get? a=some { cls:=.type "list",data:=.seq vs.toArray })(hi:IntsAre vs ns)(hl:ns.length≤sizeLine)(hr:Room k callerA)
 (htk:io K names=true) (htab:∀n∈names,∀c P,tabIn K n=some (c,P)->CodeHd s₁.heap c P/\s₁.heap.get? P=some (tabObj #[]))
 (F:∀base:Heap,K.In base->base.Ns mainGlobals mg->FnOk P w K mg base CX0 k fa fd [x] sp) (hbind:∀(s:Shared) (u:Value),BindsTo s fd ⟨[u],[]⟩ [(x,u)])
 (hsp:∀H:Hp,Tabs K names H->SqL K H a (ns.map V.int)->sp [.ref a] H (fun v _=>v = .bl true) fun _ _ _=>False) :
 codeAny (model P w) callerA (.call (.ref fa) ⟨[.ref a],[]⟩) (fun r s'=>r = .ok (.ret (.bool true))/\OldK s₁.heap s'.heap/\s'.os=s₁.os/\AllBare s'.gens) s₁:=by
 have rv:=dB hi;have lenV:=hi.length;have nd:(names.filterMap fun n=>(tabIn K n).map (·.2)).Nodup:=of_decide_eq_true (Bool.and_eq_true_iff.mp htk).2;have hKt:∀n∈names,∀c P,tabIn K n=some (c,P)->K.lookup P=none:=fun n hn c P e=>by
  have:=List.all_eq_true.mp (Bool.and_eq_true_iff.mp htk).1 n hn;rw[e]at this;exact Option.isNone_iff_eq_none.mp this
 have tabO:∀{b:Addr} {n:Str},cg K names b=some n->s₁.heap.get? b=some (tabObj #[])/\K.lookup b=none/\∃c,CodeHd s₁.heap c b:=fun{b n} h=>by
  obtain⟨h1,c,h2⟩:=tabAt_mem h;exact⟨(htab n h1 c b h2).2,hKt n h1 c b h2,c,(htab n h1 c b h2).1⟩
 have core:∀(H:Hp),(∀b,cg K names b=none->H b=none∨(b=a/\K.lookup a=none/\H b=some (.frz { cls:=.type "list",data:=.seq vs.toArray } (.lst (ns.map V.int)))))->(∀b n,cg K names b=some n->H b=some (iN n))->SqL K H a (ns.map V.int) →
  codeAny (model P w) callerA (.call (.ref fa) ⟨[.ref a],[]⟩) (fun r s'=>r = .ok (.ret (.bool true))/\OldK s₁.heap s'.heap/\s'.os=s₁.os/\AllBare s'.gens) s₁:=by
  intro H hA hT hS;have hok:HOk P w H s₁.heap:=fun b u e=>by
   cases ht:cg K names b with
   | some n =>
    rw[hT b n ht]at e;cases e;exact⟨#[],(tabO ht).1,trivial,fun pos cv hc=>by simp[codeAmong]at hc⟩
   | none =>
    rcases hA b ht with z | ⟨rfl,_,z⟩
    . rw[z]at e;cases e
    . rw[z]at e;cases e;exact⟨ha,by rw[List.length_map];exact hl,vs,_,rv,ha⟩
  have kind:∀{b:Addr} {o:Obj} {u:HO},s₁.heap.get? b=some o->H b=some u->o={ cls:=.type "list",data:=.seq vs.toArray }∨o=tabObj #[]:=fun{b o u} e q=>by
   cases ht:cg K names b with
   | some n=>rw[(tabO ht).1]at e;cases e;exact .inr rfl
   | none =>
    rcases hA b ht with z | ⟨rfl,_,_⟩
    . rw[z]at q;cases q
    . rw[ha]at e;cases e;exact .inl rfl
  have base_of:∀{b:Addr} {o:Obj},s₁.heap.get? b=some o->H b=none->(hidT s₁.heap H).get? b=some o:=fun e n=>hidT_get e n;have noA:∀{b:Addr} {o:Obj} {es:Array DictEntry} {ep:Nat},s₁.heap.get? b=some o->o.data = .dict es ep->H b=none:=fun{b o es ep} e d=>by
   cases q:H b with
   | none=>rfl
   | some u=>rcases kind e q with z | z<;>rw[z]at d<;>cases d
  have nsK:∀{b:Addr} {m:Str->Option Value},s₁.heap.Ns b m->(hidT s₁.heap H).Ns b m:=fun{b m} ⟨o,es,ep,e,d,r⟩=>⟨o,es,ep,base_of e (noA e d),d,r⟩;have hKb:K.In (hidT s₁.heap H):=fun b o e=>base_of (KX b o e) (by
   cases ht:cg K names b with
   | some n=>rw[(tabO ht).2.1]at e;cases e
   | none =>
    rcases hA b ht with z | ⟨rfl,z,_⟩
    . exact z
    . rw[z]at e;cases e)
  have hM:Mod K mg (hidT s₁.heap H):=⟨hKb,nsK hns,⟨mb,nsK hb,hbb⟩,let ⟨mc,h1,h2⟩:=hlim;⟨mc,nsK h1,h2⟩,by
   obtain⟨bm,ob,b1,b2,b3,b4⟩:=hbm;refine⟨bm,ob,b1,b2,base_of b3 ?_,b4⟩;cases q:H bm with
   | none=>rfl
   | some u =>
    rcases kind b3 q with z | z
    . exact absurd b4.1 (by rw[z];show ¬Value.type "list" = .type "module"; decide +kernel)
    . exact absurd b4.1 (by rw[z];intro z';cases z')⟩
  have e0:Env0 P w K mg (hidT s₁.heap H) callerA [] s₁ H:=⟨rfl,hM,fun b o e=>of_hidT e,Nat.le_of_eq (hidT_size _ _),trivial,fun b hb=>absurd (show b∈([]:List Addr)from hb) (by simp),hok,.of_eq hg⟩
  have hTabs:Tabs K names H:=fun n hn c Pt e=>hT Pt n (g6 nd hn e);refine codeAny_mono ((F _ hKb (nsK hns)).run callerA [] s₁ H ⟨[.ref a],[]⟩ [.ref a] [.ref a] _ _ hr e0 (hbind s₁ (.ref a)) (.cons rfl .nil) (hsp H hTabs hS)) fun r s' h=>?_;cases r with
  | error e=>exact False.elim h
  | ok fl =>
   cases fl with
   | next=>exact False.elim h
   | brk=>exact False.elim h
   | cont=>exact False.elim h
   | ret u =>
    obtain⟨v,H',os,bare,un,hok',r',q⟩:=h;have q':v = .bl true:=q;subst q';obtain rfl:u=Value.bool true:=r';have old:∀b o,s₁.heap.get? b=some o->asItWas s₁.heap s'.heap b o/\∃o',s'.heap.get? b=some o':=fun b o e=>by
     cases q:H b with
     | none =>
      have:=un.keep b o e q (by intro z;exact absurd (show b∈([]:List Addr)from z) (by simp)) (by simp)
      exact⟨.inl this,_,this⟩
     | some u =>
      cases ht:cg K names b with
      | some n =>
       rw[hT b n ht]at q;cases q;obtain⟨more,z2⟩:=un.tbls b _ (hT b n ht);obtain⟨ps,e2,_⟩:=(show ObjOk P w H' s'.heap b (.tbl (#[.str (lamQ n) 0]++more))from hok' b _ z2)
       obtain⟨e1,_,c,C⟩:=tabO ht;rw[e]at e1;cases e1;refine⟨.inr (.inl ⟨(C.tab e).isCodeTable,rfl,#[],ps,rfl,?_⟩),_,e2⟩;rw[e2];simp
      | none =>
       rcases hA b ht with z | ⟨rfl,_,z⟩
       . rw[z]at q;cases q
       . have z2:=un.frzs b _ _ z;obtain⟨e2,_⟩:=hok' b _ z2;rw[ha]at e;cases e;exact⟨.inl e2,_,e2⟩
    exact⟨rfl,⟨fun b o e=>(old b o e).1,fun b o e=>(old b o e).2⟩,os,bare⟩
 have aT:cg K names a=none:=by
  cases ht:cg K names a with
  | none=>rfl
  | some n =>
   have:=(tabO ht).1;rw[ha]at this;cases this
 cases hk:K.lookup a with
 | some o =>
  have e:=KX a o hk;rw[ha]at e;cases e;refine core (fun b=>(cg K names b).map iN) (fun b hb=>.inl (by rw[hb];rfl)) (fun b n hb=>by show(cg K names b).map iN=_;rw[hb];rfl) (.inr ⟨_,vs.toArray,_,hk,rfl,rfl,rfl,by rw[List.size_toArray,lenV];exact hl,by simpa using rv⟩)
 | none =>
  refine core (fun b=>if b=a then some (.frz { cls:=.type "list",data:=.seq vs.toArray } (.lst (ns.map V.int)))else (cg K names b).map iN) (fun b hb=>?_) (fun b n hb=>?_) (.inl (.inr ⟨{ cls:=.type "list",data:=.seq vs.toArray },if_pos rfl⟩))
  . by_cases e:b=a
    . exact .inr ⟨e,hk,if_pos e⟩
    . exact .inl (by show(if b=a then _ else _)=_;rw[if_neg e,hb];rfl)
  . have e:b≠a:=fun z=>by rw[z,aT]at hb;cases hb
    show(if b=a then _ else _)=_
    rw[if_neg e,hb];rfl
theorem walk_bitsT {l:PySem.W.OpenLaw}{n k:Nat}{q:Program}{loose:List Str}{XP:(Str->Option Value)->Heap->Prop}{YP:World->Heap->Prop}{d:DefRec}{K:Params->PySem.W.Frag}{sp:PySem.W.Frag->Sp}{x:Str}{names:List Str}(hn:l.most=some n)(hn2:n≤sizeLine)(hdf:d.params.defaults=[])(hr:Room k callerA)(hY:∀(w:World) (h:Heap),YP w h->(K w.params).In h)(hT:∀w:World,io (K w.params) names=true)(hR:∀n∈names,((recsOf q).find? (fun e=>e.name == n)).isSome=true)(F:∀(w:World) (mg:Str->Option Value) (fa:Addr) (h:Heap),(K w.params).In h->h.Ns mainGlobals mg->(∀n∈names,∀c P,tabIn (K w.params) n=some (c,P)->CodeHd h c P)->mg d.name=some (.ref fa)->∃fd:FuncData,(∀(s:Shared) (u:Value),BindsTo s fd ⟨[u],[]⟩ [(x,u)])/\∀base:Heap,(K w.params).In base->base.Ns mainGlobals mg->FnOk l.prog w (K w.params) mg base CX0 k fa fd [x] (sp (K w.params)))(hsp:∀(K:PySem.W.Frag) (H:Hp) (a:Addr) (ns:List Int),ns.length≤n->(∀n∈ns,Bits n)->Tabs K names H->SqL K H a (ns.map V.int)->sp K [.ref a] H (fun v _=>v = .bl true) fun _ _ _=>False):PySem.W.WalkO q loose XP YP l.row.toRowW d [] (fun f vs=>PySem.call f vs):=by
 refine Att.attach_bits hn hdf fun w s₀ s₁ mg mb fa o pm cd doc a vs ns G Y ho hd hcd hmg hobj hints hlen hbits hg=>?_;have KX:=hY w _ Y;have tabs:∀n∈names,∀c P,tabIn (K w.params) n=some (c,P)->CodeHd s₁.heap c P/\s₁.heap.get? P=some (tabObj #[]):=fun n hn c P e=>by
  obtain⟨d',hd'⟩:=Option.isSome_iff_exists.mp (hR n hn);exact PySem.W.tab_of G.T KX hd' e
 obtain⟨fd,hb,hF⟩:=F w mg fa _ KX G.T.g (fun n hn c P e=>(tabs n hn c P e).1) hmg;exact law_callT KX G.T.g G.T.b G.T.builtins G.T.nolimit G.T.bmain hg hobj hints (Nat.le_trans hlen hn2) hr (hT w) tabs hF hb (fun H hO hS=>hsp _ H a ns hlen hbits hO hS)
theorem tab_mk {K:PySem.W.Frag}{h:Heap}{n:Str}{f c P:Addr}{oc:Value}{od:Option Addr}{osl:Array (Option Value)}{fd:FuncData}(KX:K.In h)(C:CodeHd h c P)(a:PySem.W.nsIn K mainGlobals n=some (some (.ref f)))(l:K.lookup f=some ⟨oc,od,.func fd,osl⟩)(t:tabIn K n=some (c,P)):Tab K fd.code P:=by
 unfold tabIn at t;rw[a]at t;simp only[l]at t
 split at t
 . rename_i c' hc
   split at t
   . rename_i vs hlk
     split at t
     . rename_i P' hP;cases t;refine⟨c,hc,fun h' KX'=>?_⟩;obtain⟨o,vs',file,tf,flags,tg,inF,text,tt,e1,r⟩:=C;have e2:=KX _ _ hlk;rw[e1]at e2;cases e2;exact⟨_,vs',file,tf,flags,tg,inF,text,tt,KX' _ _ hlk,r⟩
     . cases t
   . cases t
 . cases t
section
variable {P:Program}{w:World}{K:PySem.W.Frag}{mg:Str->Option Value}{base:Heap}
theorem Fun.okL {x qual:Str}{st:Stmt}{f T:Addr}{fd:FuncData}{N ps:List Str}{k:Nat}{sp:Sp}(F:Fun K x qual st f fd)(tb:Tab K fd.code T)(S:FnScope N ps (ae st))(len:∀vs H Q E,sp vs H Q E->vs.length=ps.length)(hbody:∀(cdv:Value),Tab K cdv T->∀(A:Around) (outer:List Env) (s:Shared) (H:Hp) (vs:List V) (Q:VK) (E:XK),Room k (A.deeper (envOfC qual (ae st) s.heap.objs.size f cdv))->sp vs H Q E->∃t,PSs (cxOf CX0 P w K mg base N qual (ae st) f cdv A outer s H E).nox (aq st) t/\t { nx:=fun _ H'=>Q .non H',rt:=Q } (start N vs) H):FnOk P w K mg base CX0 (k+1) f fd ps sp:=by
 obtain⟨oc,od,kV,doc,pm,an,cdv,ct,osl,rfl,lk,hcd⟩:=F.ex;refine lV lk hcd S len fun A outer s H vs Q E hr hsp=>?_;obtain⟨t,h,q⟩:=hbody cdv tb A outer s H vs Q E hr hsp;exact⟨t,h.nox,q⟩
end
end L2
namespace L2
open PySem PySem.Spec PyProof.Rows Tw
open PySem.W (tabObj CodeHd kla_obj kla_fn envX)
def lamB (lam sn:List (Str×NameKind))(N M1:List Str)(x:Str):Bool:=
 (lam.all fun y=>decide (y.1=x)||(decide (y.2 = .free)&&match sn.lookup y.1 with
   | some .cell=>true
   | some .free=>true
   | _=>false))&&((lam.all fun y=>!(decide (y.2 = .free)&&decide (y.1=x)))&&(!decide (x∈M1)&&(decide (M1.length=N.length)&&(List.range M1.length).all fun i=>match M1[i]?,N[i]? with
   | some y,some z=>decide (y=z)||(lam.lookup y).isNone
   | _,_=>false)))
theorem lam_names {X:Cx}{scope:Scope}{x:Str}{M1 N:List Str}{sn:List (Str×NameKind)}(hsn:X.env.scope.names=sn)(hN:X.N=N)(h:lamB scope.names sn N M1 x=true):LamNames X scope x M1:=by
 subst hN hsn;unfold lamB at h;simp only[Bool.and_eq_true,List.all_eq_true]at h;obtain⟨h1,h2,h3,h4,h5⟩:=h;refine⟨fun y hy=>?_,fun y hy hf=>?_,fun y hy hf e=>?_,fun z=>?_,of_decide_eq_true h4,fun i y e=>?_⟩
 . have:=h1 y hy;simp only[Bool.or_eq_true,Bool.and_eq_true,decide_eq_true_eq]at this;exact this.imp id (·.1)
 . have a:=h1 y hy;have b:=h2 y hy;rw[decide_eq_true hf,Bool.true_and,Bool.not_eq_true']at b;rw[b,Bool.false_or,decide_eq_true hf,Bool.true_and]at a;show X.env.scope.names.lookup y.1=_∨X.env.scope.names.lookup y.1=_
   split at a
   . rename_i e;exact .inl e
   . rename_i e;exact .inr e
   . cases a
 . have b:=h2 y hy;rw[decide_eq_true hf,decide_eq_true e]at b;cases b
 . rw[decide_eq_true z]at h3;cases h3
 . have hi:i < M1.length:=(List.getElem?_eq_some_iff.mp e).1;have:=h5 i (List.mem_range.mpr hi);rw[e]at this
   split at this
   . rename_i e1 e2;cases e1;simp only[Bool.or_eq_true,decide_eq_true_eq]at this;rcases this with z | z
     . rw[e2,z];exact .inl rfl
     . exact .inr (Option.isNone_iff_eq_none.mp z)
   . cases this
theorem lam_ok {X:Cx}{params:Arguments}{body:Expr}{scope:Scope}{q:Str}{P:Addr}{tb:TE}(M1:List Str)(x:Str)(T:Tab X.K X.env.code P)(sn:List (Str×NameKind))(N:List Str)(hb:∀f c' clos A outer s H,PE (dz X.prog X.w X.K X.mg X.base (M1++[x]) q scope f (.ref c') clos A outer s H) body tb)(hsn:X.env.scope.names=sn:=by rfl)(hN:X.N=N:=by rfl)(hB:lamB scope.names sn N M1 x=true:=by decide +kernel)(hq:X.env.qual ++ "<lambda>" = q:=by rfl)
 (hsc:LamScope scope x:=by exact⟨rfl,rfl,rfl,by decide +kernel,rfl⟩) (hd:defaultsOf params X.env=([],[]):=by rfl)
 (hbi:∀clos pm c' ctv u,bindArgs (kla_fn "<lambda>" q params body scope clos pm (.ref c') ctv) ⟨[u],[]⟩=pure [(x,u)]:=by intros;rfl):LamOk X params body scope q x M1 P tb:=
 ⟨T,hq,hsc,lam_names hsn hN hB,hd,hbi,hb⟩
end L2
namespace L2
open PySem PySem.Spec PyProof.Rows Tw
open PySem.W (tabObj CodeHd kla_obj kla_fn envX)
section
variable {X:Cx}{pins:List (Addr×Obj)}{σ:St}{H:Hp}{s:Shared}{h':Heap}
end
section
variable {X:Cx}{pins:List (Addr×Obj)}{σ:St}{H:Hp}{s:Shared}
structure LamNamesR (X:Cx) (scope:Scope) (x:Str) (M1:List Str):Prop where
 free:∀y∈scope.names,y.1=x∨y.2 = .free∨y.2 = .globalImplicit
 cap:∀y∈scope.names,y.2 = .free->X.env.kindOf y.1=some .cell∨X.env.kindOf y.1=some .free
 nx:∀y∈scope.names,y.2 = .free->y.1≠x
 nm:x∉M1
 len:M1.length=X.N.length
 same:∀(i:Nat) (y:Str),M1[i]? = some y->X.N[i]? = some y∨scope.names.lookup y=none
theorem key_callR {A:Around}{k:Nat}{q x:Str}{M1:List Str}{params:Arguments}{body:Expr}{scope:Scope}{clos:List (Str×Addr)}{pm ctv:Value}{f c':Addr}{v:V}{u:Value}{tb:TE}{Qv:VK}{E:Value->Shared->Prop}(I:Inv X pins σ H s)(e0:Env0 X.prog X.w X.K X.mg X.base A X.stack s H)(hr:Room (k+1) A)(hpin:(f,kla_obj "<lambda>" q params body scope clos pm c' ctv)∈pins)(hc':H c'=some (.cod q))(S:LamScope scope x)(N:LamNamesR X scope x M1)(hcl:∀y c,clos.lookup y=some c->X.env.cells.lookup y=some c)(hcl2:∀y,(y,NameKind.free)∈scope.names->∃c,clos.lookup y=some c)(hbind:bindArgs (kla_fn "<lambda>" q params body scope clos pm (.ref c') ctv) ⟨[u],[]⟩=pure [(x,u)])(rv:RelV v u)(ht:PE (dz X.prog X.w X.K X.mg X.base (M1++[x]) q scope f (.ref c') clos A X.stack s H) body tb)(hq:tb (σ++[some v]) H Qv):wpAny (model X.prog X.w) A (call (.ref f) [u]) (EP X pins σ Qv) E s:=by
 have lenσ:=I.len;have lk:∀{y:Str} {kd:NameKind},scope.names.lookup y=some kd->(y,kd)∈scope.names:=fun h=>PySem.mem_of_lookup h;refine wpAny_call (codeAny_mono (ka (M:=M1++[x]) (σ':=σ++[some v]) S e0 hr (I.pin _ (List.mem_append_right _ hpin)).1 (show ObjOk X.prog X.w H s.heap c' (.cod q)from I.hok c' _ hc') hbind
  (fun y c h=>⟨I.cell y c (hcl y c h),I.freeC y c (hcl y c h)⟩) (fun y z c h1 h2=>I.ok.inj y z c (hcl y c h1) (hcl z c h2)) (fun y h=>hcl2 y (lk h)) (fun i y vv h1 h2 h3=>?_) (by rw[List.length_append,List.length_append,lenσ,N.len];rfl) ht hq) fun r s' hq=>?_)
 . by_cases hi:i < M1.length
   . rw[List.getElem?_append_left hi]at h1;rw[List.getElem?_append_left (by rw[lenσ,←N.len];exact hi)]at h2
     rcases N.same i y h1 with e | e
     . by_cases hyx:y=x
       . exfalso;subst hyx;exact N.nm (List.mem_of_getElem? h1)
       . have hlk:scope.names.lookup y=some .free:=by
          rcases h3 with h | h | h
          . rcases(N.free _ (lk h)).resolve_left hyx with z | z<;>cases z
          . exact absurd rfl (S.nocell _ (lk h))
          . exact h
         have hm:=lk hlk;have kc:=N.cap _ hm rfl;obtain⟨m,hn,hl⟩:=I.loc;have hv:Vis X.env.scope y:=kc.elim (fun z=>.inr (.inl z)) (fun z=>.inr (.inr z));obtain⟨uu,ru,lo⟩:=hl i y vv e h2 hv;rcases lo with⟨z,_⟩ | ⟨_,c,ec,ic⟩
         . rcases kc with kc | kc
           . rw[show X.env.kindOf y=some .cell from kc]at z;cases z
           . rw[show X.env.kindOf y=some .free from kc]at z;cases z
         . obtain⟨c2,e2⟩:=hcl2 y hm;have:=hcl y c2 e2;rw[ec]at this;cases this;exact .inr ⟨hlk,c,uu,e2,ic,ru⟩
     . rcases h3 with h | h | h<;>rw[e]at h<;>cases h
   . rw[List.getElem?_append_right (by omega)]at h1
     rw[List.getElem?_append_right (by rw[lenσ,←N.len];omega),lenσ,←N.len]at h2
     have z:i - M1.length=0:=by
      have:=(List.getElem?_eq_some_iff.mp h1).1;simp at this;omega
     rw[z]at h1 h2;simp at h1 h2;subst h1;subst h2;exact .inl ⟨rfl,rv⟩
 . cases r with
   | error e=>exact False.elim hq
   | ok fl =>
    cases fl with
    | ret u=>exact I.after hq
    | next=>exact False.elim hq
    | brk=>exact False.elim hq
    | cont=>exact False.elim hq
def ld (lam sn:List (Str×NameKind))(N M1:List Str)(x:Str):Bool:=
 (lam.all fun y=>decide (y.1=x)||decide (y.2 = .globalImplicit)||(decide (y.2 = .free)&&match sn.lookup y.1 with
   | some .cell=>true
   | some .free=>true
   | _=>false))&&((lam.all fun y=>!(decide (y.2 = .free)&&decide (y.1=x)))&&(!decide (x∈M1)&&(decide (M1.length=N.length)&&(List.range M1.length).all fun i=>match M1[i]?,N[i]? with
   | some y,some z=>decide (y=z)||(lam.lookup y).isNone
   | _,_=>false)))
theorem lam_namesR {X:Cx}{scope:Scope}{x:Str}{M1 N:List Str}{sn:List (Str×NameKind)}(hsn:X.env.scope.names=sn)(hN:X.N=N)(h:ld scope.names sn N M1 x=true):LamNamesR X scope x M1:=by
 subst hN hsn;unfold ld at h;simp only[Bool.and_eq_true,List.all_eq_true]at h;obtain⟨h1,h2,h3,h4,h5⟩:=h;refine⟨fun y hy=>?_,fun y hy hf=>?_,fun y hy hf e=>?_,fun z=>?_,of_decide_eq_true h4,fun i y e=>?_⟩
 . have:=h1 y hy;simp only[Bool.or_eq_true,Bool.and_eq_true,decide_eq_true_eq]at this;rcases this with(h | h) | h
   . exact .inl h
   . exact .inr (.inr h)
   . exact .inr (.inl h.1)
 . have a:=h1 y hy;have b:=h2 y hy;rw[decide_eq_true hf,Bool.true_and,Bool.not_eq_true']at b;rw[b,show decide (y.2=NameKind.globalImplicit)=false from decide_eq_false (by rw[hf];decide),Bool.false_or,Bool.false_or,decide_eq_true hf,Bool.true_and]at a
   show X.env.scope.names.lookup y.1=_∨X.env.scope.names.lookup y.1=_
   split at a
   . rename_i e;exact .inl e
   . rename_i e;exact .inr e
   . cases a
 . have b:=h2 y hy;rw[decide_eq_true hf,decide_eq_true e]at b;cases b
 . rw[decide_eq_true z]at h3;cases h3
 . have hi:i < M1.length:=(List.getElem?_eq_some_iff.mp e).1;have:=h5 i (List.mem_range.mpr hi);rw[e]at this
   split at this
   . rename_i e1 e2;cases e1;simp only[Bool.or_eq_true,decide_eq_true_eq]at this;rcases this with z | z
     . rw[e2,z];exact .inl rfl
     . exact .inr (Option.isNone_iff_eq_none.mp z)
   . cases this
structure LamOkR (k:Nat) (X:Cx) (params:Arguments) (body:Expr) (scope:Scope) (q x:Str) (M1:List Str) (P:Addr) (tb:TE):Prop where
 tab:Tab X.K X.env.code P
 qual:X.env.qual ++ "<lambda>" = q
 sc:LamScope scope x
 nm:LamNamesR X scope x M1
 dflt:defaultsOf params X.env=([],[])
 bind:∀clos pm c' ctv u,bindArgs (kla_fn "<lambda>" q params body scope clos pm (.ref c') ctv) ⟨[u],[]⟩=pure [(x,u)]
 body:∀f c' clos A outer s H,Room k (dz X.prog X.w X.K X.mg X.base (M1++[x]) q scope f (.ref c') clos A outer s H).A->PE (dz X.prog X.w X.K X.mg X.base (M1++[x]) q scope f (.ref c') clos A outer s H) body tb
theorem lam_okR {k:Nat}{X:Cx}{params:Arguments}{body:Expr}{scope:Scope}{q:Str}{P:Addr}{tb:TE}(M1:List Str)(x:Str)(T:Tab X.K X.env.code P)(sn:List (Str×NameKind))(N:List Str)(hb:∀f c' clos A outer s H,Room k (dz X.prog X.w X.K X.mg X.base (M1++[x]) q scope f (.ref c') clos A outer s H).A->PE (dz X.prog X.w X.K X.mg X.base (M1++[x]) q scope f (.ref c') clos A outer s H) body tb)(hsn:X.env.scope.names=sn:=by rfl)(hN:X.N=N:=by rfl)(hB:ld scope.names sn N M1 x=true:=by decide +kernel)(hq:X.env.qual ++ "<lambda>" = q:=by rfl)
 (hsc:LamScope scope x:=by exact⟨rfl,rfl,rfl,by decide +kernel,rfl⟩) (hd:defaultsOf params X.env=([],[]):=by rfl)
 (hbi:∀clos pm c' ctv u,bindArgs (kla_fn "<lambda>" q params body scope clos pm (.ref c') ctv) ⟨[u],[]⟩=pure [(x,u)]:=by intros;rfl):LamOkR k X params body scope q x M1 P tb:=
 ⟨T,hq,hsc,lam_namesR hsn hN hB,hd,hbi,hb⟩
end
end L2
namespace L2
open PySem PySem.Spec PyProof.Rows Tw
open PySem.W (tabObj CodeHd kla_obj kla_fn envX)
def KeyT (H:Hp)(L:Addr)(l:List Int):Prop:=∃ts:List Addr,H L=some (.lst (ts.map V.ref))/\ts.length=l.length/\∀(i:Nat) (t:Addr) (d:Int),ts[i]? = some t->l[i]? = some d->∃(b:Bool) (p:Int),H t=some (.tup [.bl b,.int p])/\0≤p/\p < 12/\d=12*b2i b+p
theorem KeyT.mono {H H':Hp}{L:Addr}{l:List Int}(k:KeyT H L l)(s:Same H H'):KeyT H' L l:=by
 obtain⟨ts,h1,h2,h3⟩:=k;refine⟨ts,s _ _ h1,h2,fun i t d e1 e2=>?_⟩;obtain⟨b,p,h4,r⟩:=h3 i t d e1 e2;exact⟨b,p,s _ _ h4,r⟩
def dig1 (H:Hp):V->Int
 | .ref t=>match H t with
  | some (.tup [.bl b,.int p])=>12*b2i b+p
  | _=>0
 | _=>0
def gF (H:Hp)(t:Addr):List Int:=match H t with
 | some (.lst vs)=>vs.map (dig1 H)
 | _=>[]
theorem digOf_eq {H:Hp}{L:Addr}{l:List Int}(k:KeyT H L l):gF H (iV (.ref L))=l:=by
 obtain⟨ts,h1,h2,h3⟩:=k;show gF H L=l;unfold gF;rw[h1];show(ts.map V.ref).map (dig1 H)=l;rw[List.map_map];refine List.ext_getElem? fun i=>?_;rw[List.getElem?_map];cases e:ts[i]? with
 | none =>
  have:l[i]? = none:=by
   rw[List.getElem?_eq_none_iff]at e⊢;omega
  rw[this];rfl
 | some t =>
  have hi:i < l.length:=by have:=(List.getElem?_eq_some_iff.mp e).1;omega
  obtain⟨b,p,h4,_,_,hd⟩:=h3 i t l[i] e (List.getElem?_eq_getElem hi);rw[List.getElem?_eq_getElem hi];have e9:dig1 H (.ref t)=12*b2i b+p:=by simp only[dig1,h4]
  show some (dig1 H (.ref t))=_;rw[e9,hd]
theorem KeyT.listT {X:Cx}{pins:List (Addr×Obj)}{σ:St}{H:Hp}{s:Shared}{L:Addr}{l:List Int}(k:KeyT H L l)(I:Inv X pins σ H s):ListT s.heap (.ref L) l:=by
 obtain⟨ts,h1,h2,h3⟩:=k;obtain⟨its',ri,⟨o,n',ho,hc,hd,hda⟩,_⟩:=I.list (SqL.of h1);have e:=jT ri;subst e;obtain⟨oc,od,oda,osl⟩:=o;simp only at hc hd hda;subst hc hd hda;refine⟨L,_,n',none,osl,rfl,ho,by rw[List.size_toArray,List.length_map,h2],fun i v d e1 e2=>?_⟩
 rw[List.toList_toArray,List.getElem?_map]at e1;cases e:ts[i]? with
 | none=>rw[e]at e1;cases e1
 | some t =>
  rw[e]at e1;have e1:v = .ref t:=(Option.some.inj e1).symm;subst e1;obtain⟨b,p,h4,p0,p1,hdd⟩:=h3 i t d e e2;obtain⟨us,ru,iu,_⟩:=I.tuple (SqT.of h4);obtain⟨u0,u1,rfl,r0,r1⟩:∃u0 u1,us=[u0,u1]/\RelV (.bl b) u0/\RelV (.int p) u1:=by
   cases ru with
   | cons r0 t=>cases t with
    | cons r1 t=>cases t;exact⟨_,_,rfl,r0,r1⟩
  cases r0;obtain⟨tk,rfl⟩:=r1;exact⟨t,b,p,tk,rfl,iu,p0,p1,hdd⟩
section
variable {X:Cx}{pins:List (Addr×Obj)}{σ:St}{H:Hp}{s:Shared}{h':Heap}
theorem sort_keyT {a:Value}{xs:List V}{kl:V->List Int}{kw:List (Str×Value)}{f:Value}{Q:VK}{E:Value->Shared->Prop}(I:Inv X pins σ H s)(h64:xs.length < 64)(hsh:∀y∈xs,ShortT 12 (kl y))(hu:X.A.units+4 < cLine)(col:∀Q':List Value->Shared->Prop,(∀(its:List Value) (s2:Shared),Inv X pins σ H s2->Vals xs its->Q' its s2)->wpAny (model X.prog X.w) X.A.in1 (collect a) Q' E s)(ha1:argsOk "sorted" ⟨[a],kw⟩)(ha2:∀x,argsOk "list.sort" ⟨[.ref x],kw⟩)(ht:∀x,Builtin.«list.sort» ⟨[.ref x],kw⟩=ksk_tree x f false)(turn:∀(y:V) (u:Value) (s':Shared) (pins':List (Addr×Obj)) (H1:Hp),y∈xs->RelV y u->Inv X pins' σ H1 s'->Same H H1->(∀p∈pins,p∈pins')->wpAny (model X.prog X.w) X.A.in1.in1 (call f [u]) (EP X pins' σ fun v H2=>∃L,v = .ref L/\Same H1 H2/\KeyT H2 L (kl y)) (fun _ _=>False) s')(h:∀(D:Addr) (ys:List V) (H1:Hp),Same H H1->H1 D=none->ys.Perm xs->ys.Pairwise (fun y z=>encT 12 (kl y)≤encT 12 (kl z))->Q (.ref D) (upd H1 D (.lst ys))):wpAny (model X.prog X.w) X.A (call (.builtin "sorted") [a] kw) (EP X pins σ Q) E s:=by
 refine call_function_entry_kw kind_sorted plain_sorted entry_sorted ha1 ?_;unfold Builtin.«sorted»;refine wpAny_bind (m:=checkCount "sorted" 1 1 _) (wpAny_pure ?_);refine wpAny_bind (col _ fun its s2 I2 rv=>?_);have hl:=rv.length;refine wpAny_bind (wpAny_newList ?_ (by rw[sizeLine_eq];omega))
 have hoL:(s2.heap.push (seqObj "list" its.toArray 0)).get? s2.heap.objs.size=some (seqObj "list" its.toArray 0):=Heap.get?_push_size _ rfl;refine wpAny_bind (wpAny_holding (wpAny_call_entry_kw slot_list_sort ⟨_,hoL,rfl⟩ entry_list_sort ?body (ha2 _)))
 case body =>
  show wpAny (model X.prog X.w) X.A.in1.in1 (Builtin.«list.sort» ⟨[.ref s2.heap.objs.size],kw⟩) _ _ _;rw[ht];have s1:=Heap.SameBut.update (s2.heap.push (seqObj "list" its.toArray 0)) s2.heap.objs.size (Obj.mapSeq fun _=>(#[]:Array Value));obtain⟨e1,ho1⟩:∃e1,((s2.heap.push (seqObj "list" its.toArray 0)).update s2.heap.objs.size (Obj.mapSeq fun _=>(#[]:Array Value))).get? s2.heap.objs.size=some (seqObj "list" #[] e1):=⟨_,get?_update_seq hoL fun _=>#[]⟩;have hsz1:((s2.heap.push (seqObj "list" its.toArray 0)).update s2.heap.objs.size (Obj.mapSeq fun _=>(#[]:Array Value))).objs.size=s2.heap.objs.size+1:=by rw[Heap.size_update,size_push']
  have keep1:∀b o,s2.heap.get? b=some o->((s2.heap.push (seqObj "list" its.toArray 0)).update s2.heap.objs.size (Obj.mapSeq fun _=>(#[]:Array Value))).get? b=some o:=fun b o e=>(s1.2 b (Nat.ne_of_lt (Heap.lt_size e))).trans (Heap.get?_push_of_some _ e);unfold ksk_tree;refine wpAny_bind (listItems_at hoL rfl ?_);refine wpAny_bind (listUpdate_at hoL rfl ?_ (by rw[List.size_toArray,sizeLine_eq];omega) (Nat.zero_le _))
  refine wpAny_bind (seqEpoch_at ho1 rfl ?_);refine wpAny_bind (wpAny_newTuple ?_ (by show its.length≤_;rw[sizeLine_eq];omega))
  refine wpAny_bind (wpAny_newList ?_ (Nat.zero_le _));refine wpAny_holding ?_;generalize hh1:(s2.heap.push (seqObj "list" its.toArray 0)).update s2.heap.objs.size (Obj.mapSeq fun _=>(#[]:Array Value))=h1 at ho1 hsz1 keep1⊢;have hkS:(h1.push (seqObj "tuple" its.toArray 0)).objs.size=s2.heap.objs.size+2:=by rw[size_push',hsz1]
  have keep3:∀b o,h1.get? b=some o->((h1.push (seqObj "tuple" its.toArray 0)).push (seqObj "list" #[] 0)).get? b=some o:=fun b o e=>Heap.get?_push_of_some _ (Heap.get?_push_of_some _ e);have hk3:((h1.push (seqObj "tuple" its.toArray 0)).push (seqObj "list" #[] 0)).get? (h1.push (seqObj "tuple" its.toArray 0)).objs.size=some (seqObj "list" #[] 0):=Heap.get?_push_size _ rfl;generalize hkk:(h1.push (seqObj "tuple" its.toArray 0)).objs.size=kS at hkS hk3⊢;have hD3:=keep3 _ _ ho1;generalize ((h1.push (seqObj "tuple" its.toArray 0)).push (seqObj "list" #[] 0))=h3 at keep3 hk3 hD3⊢;have I3:Inv X pins σ H { s2 with heap:=h3,toks:=s2.toks }:=I2.kept fun b o e=>keep3 b o (keep1 b o e)
  have fD:FpOk X pins H s2.heap.objs.size:=I2.fpOk (Nat.le_refl _) (I2.hok.fresh (Nat.le_refl _));have fk:FpOk X pins H kS:=I2.fpOk (by omega) (I2.hok.fresh (by omega))
  generalize s2.heap.objs.size=D at fD hD3 hkS ho1 hsz1⊢;have hDk:kS≠D:=by omega
  have ndc:∀(xs:Array Value) (n:Nat) (v:Option Value),(seqObj "list" xs n).data≠.cell v:=fun xs n v z=>by cases z
  unfold ksk_rest;refine wpAny_bind (wpAny_rule ?_)
  first
   | rw[List.forIn_toArray]
   | (rw[←Array.forIn_toList];simp only[List.toList_toArray])
   | rw[←Array.forIn_toList]
  refine wpAny_bind (ksk_fold (fun i s'=>∃kA e H1,Inv X ((kS,seqObj "list" kA e)::(D,seqObj "list" #[] e1)::pins) σ H1 s'/\Same H H1/\kA.size=i/\∀(j:Nat) (v:Value) (y:V),kA.toList[j]? = some v->xs[j]? = some y->∃L,v = .ref L/\KeyT H1 L (kl y)) its 0 _
   ⟨#[],0,H,?_,Same.refl _,rfl,fun j v y h=>by simp at h⟩ ?step ?done)
  . have J:Inv X ((D,seqObj "list" #[] e1)::pins) σ H { s2 with heap:=h3,toks:=s2.toks }:=fD.pin I3 hD3 (ndc _ _) fun p hp=>by
     rcases List.mem_cons.mp hp with rfl | hp
     . exact .inl rfl
     . exact .inr hp
    have fk':FpOk X ((D,seqObj "list" #[] e1)::pins) H kS:=⟨fk.1,fk.2.1,fk.2.2.1,fk.2.2.2.1,fk.2.2.2.2.1,fun p hp=>by
     rcases List.mem_append.mp hp with hp | hp
     . exact fk.2.2.2.2.2 p (List.mem_append_left _ hp)
     . rcases List.mem_cons.mp hp with rfl | hp
       . exact hDk.symm
       . exact fk.2.2.2.2.2 p (List.mem_append_right _ hp)⟩
    exact fk'.pin J hk3 (ndc _ _) fun p hp=>by
     rcases List.mem_cons.mp hp with rfl | hp
     . exact .inl rfl
     . exact .inr hp
  case step =>
   rintro j x s' hx ⟨kA,e,H1,J,sm,hk,hkv⟩;simp only[Nat.zero_add]at hk⊢;have hj:j < its.length:=(List.getElem?_eq_some_iff.mp hx).1;obtain⟨y,hy⟩:∃y,xs[j]? = some y:=⟨_,List.getElem?_eq_getElem (by omega)⟩
   obtain⟨u',hu',r⟩:=rv.get hy;rw[hx]at hu';cases hu';refine wpAny_bind (wpAny_attempt (wpAny_mono (turn y x s' _ H1 (List.mem_of_getElem? hy) r J sm (fun p hp=>.tail _ (.tail _ hp))) (fun v s'' he=>?_) fun _ _ hF=>hF.elim));obtain⟨vv,H',J2,rvv,Lk,rfl,sm2,hLk⟩:=he;cases rvv
   try dsimp only
   have pk:=J2.pin (kS,seqObj "list" kA e) (List.mem_append_right _ (.head _));have nk:=pk.1;have fkn:H' kS=none:=pk.2.1;have s1:=Heap.SameBut.update s''.heap kS (Obj.mapSeq (·.push (.ref Lk)));obtain⟨c2,hc2⟩:∃c2,(s''.heap.update kS (Obj.mapSeq (·.push (.ref Lk)))).get? kS=some (seqObj "list" (kA.push (.ref Lk)) c2):=⟨_,get?_update_seq nk (·.push (.ref Lk))⟩;have ea:(kA.push (Value.ref Lk)).toList=kA.toList++[Value.ref Lk]:=by simp
   refine wpAny_bind (listUpdate_at nk rfl ?_ (by rw[sizeLine_eq];omega) (Nat.le_trans (Nat.le_of_eq (Array.size_push ..)) (by rw[sizeLine_eq];omega)))
   refine wpAny_pure ⟨rfl,kA.push (.ref Lk),c2,H',?_,sm.trans sm2,by rw[Array.size_push,hk],fun q v z h1 h2=>?_⟩
   . have J3:Inv X ((D,seqObj "list" #[] e1)::pins) σ H' s'':=J2.pins_of fun p hp=>J2.pin p (List.mem_append_right _ (.tail _ hp));have fk':FpOk X ((D,seqObj "list" #[] e1)::pins) H' kS:=⟨fkn,fk.2.1,fk.2.2.1,fk.2.2.2.1,fk.2.2.2.2.1,fun p hp=>by
      rcases List.mem_append.mp hp with hp | hp
      . exact fk.2.2.2.2.2 p (List.mem_append_left _ hp)
      . rcases List.mem_cons.mp hp with rfl | hp
        . exact hDk.symm
        . exact fk.2.2.2.2.2 p (List.mem_append_right _ hp)⟩
     have J4:Inv X ((D,seqObj "list" #[] e1)::pins) σ H' { s'' with heap:=s''.heap.update kS (Obj.mapSeq (·.push (.ref Lk))),toks:=s''.toks }:=J3.turned (it:=kS) (fun b o hb e=>(s1.2 b hb).trans e) fkn fk.2.1 fk.2.2.2.1 fk.2.2.2.2.1 fk'.2.2.2.2.2
     exact fk'.pin J4 hc2 (ndc _ _) fun p hp=>by
      rcases List.mem_cons.mp hp with rfl | hp
      . exact .inl rfl
      . exact .inr hp
   . rw[ea]at h1;by_cases hq:q < kA.toList.length
     . rw[List.getElem?_append_left hq]at h1;obtain⟨L,e1,e2⟩:=hkv q v z h1 h2;exact⟨L,e1,e2.mono sm2⟩
     . rw[List.getElem?_append_right (by omega)]at h1
       have hz0:q - kA.toList.length=0:=by
        have:=(List.getElem?_eq_some_iff.mp h1).1;simp at this;omega
       rw[hz0]at h1;have e1:Value.ref Lk=v:=by simpa using h1
       have e2:q=j:=by rw[Array.length_toList]at hz0 hq;omega
       rw[e2,hy]at h2;cases h2;exact⟨Lk,e1.symm,hLk⟩
  case done =>
   rintro s' ⟨kA,e,H1,J,sm,hk,hkv⟩;have hks:kA.size=its.length:=by rw[hk];omega
   have pk:=J.pin (kS,seqObj "list" kA e) (List.mem_append_right _ (.head _));have pD:=J.pin (D,seqObj "list" #[] e1) (List.mem_append_right _ (.tail _ (.head _)));have nk:=pk.1;have nD:=pD.1;have fk1:FpOk X pins H1 kS:=⟨pk.2.1,fk.2⟩;have fD1:FpOk X pins H1 D:=⟨pD.2.1,fD.2⟩;have J0:Inv X pins σ H1 s':=J.pins_of fun p hp=>J.pin p (List.mem_append_right _ (.tail _ (.tail _ hp)));obtain⟨m,F⟩:=J.fr
   try dsimp only
   refine wpAny_bind (listItems_at nk rfl ?_);have bk:=FpOk.base J0 fk1;have bD:=FpOk.base J0 fD1;have at_:∀(j:Nat) (v:Value),kA.toList[j]? = some v->∃y L,xs[j]? = some y/\v = .ref L/\KeyT H1 L (kl y):=fun j v hv=>by
    have hj:=(List.getElem?_eq_some_iff.mp hv).1;rw[Array.length_toList]at hj;obtain⟨y,hy⟩:∃y,xs[j]? = some y:=⟨_,List.getElem?_eq_getElem (by omega)⟩
    obtain⟨L,e1,e2⟩:=hkv j v y hv hy;exact⟨y,L,hy,e1,e2⟩
   have lfe:∀(L:Addr) (l:List Int),KeyT H1 L l->gF H1 (iV (.ref L))=l:=fun L l e=>digOf_eq e;have em:kA.toList.map (fun v=>encT 12 (gF H1 (iV v)))=xs.map fun y=>encT 12 (kl y):=by
    apply List.ext_getElem?;intro j;rw[List.getElem?_map,List.getElem?_map];cases hv:kA.toList[j]? with
    | none =>
     have:xs[j]? = none:=by
      rw[List.getElem?_eq_none_iff]at hv⊢;rw[Array.length_toList]at hv;omega
     rw[this];rfl
    | some v =>
     obtain⟨y,L,hy,rfl,hL⟩:=at_ j v hv;rw[hy];show some (encT 12 (gF H1 (iV (Value.ref L))))=some (encT 12 (kl y));rw[lfe L _ hL]
   refine endLT (lf:=fun v=>gF H1 (iV v)) (e:=e) (g0:=X.base) (L:=X.env.locals) (mm:=m) (ws:=(fZ X.base s'.heap X.env.locals).filter fun p=>decide (p.1≠kS)&&decide (p.1≠D)) (by show X.A.units+1+1+2 < cLine;omega) F (fun p hp=>?_) hDk (fun p hp=>?_) (fun p hp=>?_) hks (fun v hv=>?_) (by omega) fun h'' tk out c F' N' k'=>?_
   . rcases List.mem_append.mp hp with hp | hp
     . exact news_all p (List.mem_filter.mp hp).1
     . rcases List.mem_cons.mp hp with rfl | hp
       . exact⟨nk,fk.2.1,bk⟩
       . rw[List.mem_singleton.mp hp];exact⟨nD,fD.2.1,bD⟩
   . have:=(List.mem_filter.mp hp).2;simp at this;exact this.1
   . have:=(List.mem_filter.mp hp).2;simp at this;exact this.2
   . obtain⟨j,hj⟩:=List.mem_iff_getElem?.mp hv;obtain⟨y,L,hy,rfl,hL⟩:=at_ j v hj;rw[lfe L _ hL];exact⟨hL.listT J0,hsh y (List.mem_of_getElem? hy)⟩
   . rw[em]at k';obtain⟨ys,pm,rv2,pw⟩:=sort_out rv k';have hD:=(N' (D,seqObj "list" out c) (.head _)).1;have fin:Inv X pins σ (upd H1 D (.lst ys)) { s' with heap:=h'',toks:=tk }:=J0.sorted fD1 fk1 hDk (fun b o h1 h2 h3 eb=>?_) (fun m' hm'=>?_) rv2 (by rw[pm.length_eq];exact Nat.le_of_lt (Nat.lt_of_lt_of_le h64 (by decide))) hD
     . exact⟨_,rfl,wpAny_pure ⟨_,rfl,.ref D,_,fin,rfl,h D ys H1 sm pD.2.1 pm (pw.imp fun{y z} q=>by simpa using q)⟩⟩
     . cases q:X.base.get? b with
       | some u =>
        have:=J0.bk b u q;rw[eb]at this;cases this;exact F'.keep b _ q
       | none=>exact(N' (b,o) (.tail _ (List.mem_filter.mpr ⟨mem_allNews h3 q eb,by simp[h1,h2]⟩))).1
     . have e:m'=m:=hm'.eq_nsMap.trans F.ns.eq_nsMap.symm;rw[e];exact F'.ns
end
section
variable {X:Cx}{pins:List (Addr×Obj)}{σ:St}{H:Hp}{s:Shared}
theorem sort_lamT {params:Arguments}{body:Expr}{scope:Scope}{lpos:Pos}{q x:Str}{M1:List Str}{P:Addr}{tb:TE}{qs:Array Value}{k:Nat}{a:Value}{xs:List V}{kl:V->List Int}{kwf:Value->List (Str×Value)}{Q:VK}{E:Value->Shared->Prop}{R:Value->Shared->Prop}(L:LamOkR k X params body scope q x M1 P tb)(I:Inv X pins σ H s)(hr:Room (k+3) X.A)(hP:H P=some (.tbl qs))(hq:qOf qs=q)(h64:xs.length < 64)(hsh:∀y∈xs,ShortT 12 (kl y))(col:∀(s1:Shared) (H1:Hp) (pins1:List (Addr×Obj)),Inv X pins1 σ H1 s1->Same H H1->(∀p∈pins,p∈pins1)->∀Q':List Value->Shared->Prop,(∀(its:List Value) (s2:Shared),Inv X pins1 σ H1 s2->Vals xs its->Q' its s2)->wpAny (model X.prog X.w) X.A.in1 (collect a) Q' E s1)(ha1:∀f,argsOk "sorted" ⟨[a],kwf f⟩)(ha2:∀f x,argsOk "list.sort" ⟨[.ref x],kwf f⟩)(ht:∀f x,Builtin.«list.sort» ⟨[.ref x],kwf (.ref f)⟩=ksk_tree x (.ref f) false)(key:∀H1,Same H H1->∀y∈xs,∀Qv:VK,(∀L H2,Same H1 H2->KeyT H2 L (kl y)->Qv (.ref L) H2)->tb (σ++[some y]) H1 Qv)(done:∀(D:Addr) (ys:List V) (H1:Hp),Same H H1->H1 D=none->ys.Perm xs->ys.Pairwise (fun y z=>encT 12 (kl y)≤encT 12 (kl z))->Q (.ref D) (upd H1 D (.lst ys)))(go:∀f s1,wpAny (model X.prog X.w) X.A (call (.builtin "sorted") [a] (kwf (.ref f))) (EP X pins σ Q) E s1->R (.ref f) s1):wpAny (model X.prog X.w) X.A (eval (.Lambda params body scope lpos) X.env) R E s:=by
 obtain⟨c,ec,C⟩:=L.tab.ex;obtain⟨clos,hcl,h1,h2⟩:=kr (scope:=scope) (env:=X.env) fun y hy hk=>I.ok.has y.1 (L.nm.cap y hy hk);subst hq;refine ji I hP L.qual ec (C _ I.mod.kin) L.dflt hcl fun f c' ctv s1 H1 I1 sm ho hf hge hlt hc'=>go f s1 ?_;have ff:FpOk X pins H1 f:=I.fpOk hge hf;have I2:Inv X ((f,kla_obj "<lambda>" (qOf qs) params body scope clos ((X.mg "__name__").getD .none) c' ctv)::pins) σ H1 s1:=ff.pin I1 ho (fun v z=>by cases z) fun p hp=>by
  rcases List.mem_cons.mp hp with rfl | hp
  . exact .inl rfl
  . exact .inr hp
 refine wpAny_mono (sort_keyT (Q:=Q) (kl:=kl) (f:=.ref f) I2 h64 hsh (by have:=hr.units;omega) (col s1 H1 _ I2 sm (fun p hp=>.tail _ hp)) (ha1 _) (ha2 _) (ht f) (fun y u s' pins' H2 hy ry J sm2 sub=>?_) (fun D ys H2 sm2 hD pm pw=>done D ys H2 (sm.trans sm2) hD pm pw)) (fun v s' ⟨vv,H',J,r,qq⟩=>⟨vv,H',J.pins_of fun p hp=>J.pin p (List.mem_append_right _ (.tail _ hp)),r,qq⟩) fun _ _ z=>z
 . exact key_callR J J.env0.in1.in1 hr.in1.in1 (sub _ (.head _)) (sm2 _ _ hc') L.sc L.nm h1 h2 (L.bind _ _ _ _ _) ry (L.body _ _ _ _ _ _ _ (hr.in1.in1.deeper _)) (key H2 (sm.trans sm2) y hy _ fun Lk H3 s3 hL=>⟨Lk,rfl,s3,hL⟩)
def tSortKeyT (P:Addr)(q:Str)(te tb:TE):TE:=fun σ H Q=>te σ H fun v H1=>∃(a:Addr) (kvs:List (Int×V)) (qs:Array Value) (kl:V->List Int),v = .ref a/\H1 a=some (.dK (kvs.map fun kv=>((Sum.inl kv.1:Key),kv.2)))/\kvs.length < 64/\(∀kv∈kvs,ShortT 12 (kl (.int kv.1)))/\H1 P=some (.tbl qs)/\qOf qs=q ∧
 (∀H2,Same H1 H2->∀kv∈kvs,∀Qv:VK,(∀L H3,Same H2 H3->KeyT H3 L (kl (.int kv.1))->Qv (.ref L) H3)->tb (σ++[some (.int kv.1)]) H2 Qv) ∧
 ∀(D:Addr) (ys:List V) (H2:Hp),Same H1 H2->H2 D=none->ys.Perm (kvs.map fun kv=>V.int kv.1)->ys.Pairwise (fun y z=>encT 12 (kl y)≤encT 12 (kl z))->Q (.ref D) (upd H2 D (.lst ys))
theorem pe_sortKeyT {e:Expr}{te tb:TE}{params:Arguments}{body:Expr}{scope:Scope}{lpos kpos p pos:Pos}{q x:Str}{M1:List Str}{P:Addr}{k:Nat}(L:LamOkR k X params body scope q x M1 P tb)(hr:Room (k+3) X.A)(hg:Gl X "sorted")(hm:X.mg "sorted" = none)(ha:PE X e te)(hc:X.calm=true:=by rfl)
 (he:starEach [e] X.env=[(false,eval e X.env)]:=by rfl) :
 PE X (.Call (.Name "sorted" p) [e] [⟨some "key",.Lambda params body scope lpos,kpos⟩] pos) (tSortKeyT P q te tb):=by
 intro pins s σ H Q I h;refine wpAny_Call_Name_kw (bY I hg hm boot_sorted ?_ (by decide) (by decide))
 refine callWith_builtin_kwB (by rw[he];rfl) rfl (evalArgs_kw2 rfl ?_ (by rw[he];rfl))
 rw[he];refine Calls.spliced_cons (thn (ha pins s σ H _ I h) fun v s1 ⟨xv,H1,I1,r1,q1⟩=>Calls.spliced_nil ?_);obtain⟨a,kvs,qs,kl,rfl,hp,h64,hsh,hP,hq,key,done⟩:=q1;cases r1;refine kwAll_cons (sort_lamT (kl:=kl) (xs:=kvs.map fun kv=>V.int kv.1) (a:=.ref a) (kwf:=fun f=>[(Str.ofString "key",f)]) (Q:=Q) L I1 hr hP hq (by rw[List.length_map];exact h64) (fun y hy=>?_) (fun s2 H2 pins2 J sm _ Q' hQ'=>?_) (fun f=>ksk_s1 _ _) (fun f x=>ksk_l1 _ _) (fun f x=>ksk_t1 _ _) (fun H2 sm y hy Qv kk=>?_) done fun f s2 h2=>?_)
 . obtain⟨kv,hkv,rfl⟩:=List.mem_map.mp hy;exact hsh kv hkv
 . have hp2:=sm _ _ hp;obtain⟨hz,hmm,vs,rel,o,es,ep,h1,h2,h3,h4⟩:=(show ObjOk X.prog X.w H2 s2.heap a (.dK (kvs.map fun kv=>((Sum.inl kv.1:Key),kv.2)))from J.hok a _ hp2)
   have hvl:vs.length=kvs.length:=by have:=rel.len;rw[List.length_map]at this;exact this.symm
   have hat:s2.heap.DictAt (aR X.prog X.w) a vs ep:=⟨o,es,h1,h2,h3,h4⟩;refine PySem.W.kdu_collect (A:=X.A.in1) (PySem.W.kdl_dict (knd:=aR X.prog X.w) (kvs:=vs) (ep:=ep) hmm) (J.ok.hd hc) hat (by rw[hvl];exact Nat.le_of_lt (Nat.lt_of_lt_of_le h64 (by decide))) fun h' tk acc hk hacc=>?_
   have hal:acc.size=kvs.length:=by rw[hacc.1];exact hvl
   have hI:IntsAre acc.toList (kvs.map (·.1)):=by
    refine fF (by rw[Array.length_toList,hal,List.length_map]) fun j v i hv hj=>?_
    obtain⟨k,x,hx,hk'⟩:=hacc.2 j v (by rw[←Array.getElem?_toList];exact hv)
    obtain⟨kv,hkv,e1⟩:∃kv,kvs[j]? = some kv/\kv.1=i:=by
     rw[List.getElem?_map]at hj;cases e:kvs[j]? with
     | none=>rw[e]at hj;cases hj
     | some kv=>rw[e]at hj;exact⟨kv,rfl,Option.some.inj hj⟩
    obtain⟨q',hq',e2,_⟩:=gr rel (i:=j) (x:=((Sum.inl kv.1:Key),kv.2)) (by rw[List.getElem?_map,hkv];rfl)
    rw[hx]at hq';cases hq';have e3:k=Sum.inl i:=by rw[←e1];exact e2.symm
    subst e3;exact keyIs_inv hk'
   have:=dB hI;rw[List.map_map]at this;exact hQ' _ _ (J.kept hk) this
 . obtain⟨kv,hkv,rfl⟩:=List.mem_map.mp hy;exact key H2 sm kv hkv Qv kk
 . exact kwAll_nil h2
end
end L2
namespace L2
open PySem PySem.Spec PyProof.Rows
def bH (L:Bool)(t:SetTable):Prop:=t.led=L/\t.place.toList.Pairwise (· < ·)
theorem cR {α:Type}(xs:Array α)(i:Nat)(d:α):xs.getD i d=(xs.toList[i]?).getD d:=by
 rw[Array.getElem?_toList]
 first
  | exact Array.getD_eq_getD_getElem? ..
  | simp
theorem iw {l:List Nat}(so:l.Pairwise (· < ·)){i j:Nat}(h:i < j)(hj:j < l.length)(d:Nat):(l[i]?).getD d < (l[j]?).getD d:=by
 rw[List.getElem?_eq_getElem hj,List.getElem?_eq_getElem (Nat.lt_trans h hj)];exact List.pairwise_iff_getElem.mp so i j (Nat.lt_trans h hj) hj h
theorem gK {xs:Array Nat}{j:Nat}(so:xs.toList.Pairwise (· < ·)):∀(fuel lo hi:Nat),lo≤hi->hi≤xs.size->hi - lo≤fuel->(∀i,i < lo->xs.getD i j < j)->(∀i,hi≤i->i < xs.size->j≤xs.getD i j) →
 (∀i,i < SetTable.below.go xs j fuel lo hi->xs.getD i j < j)/\(∀i,SetTable.below.go xs j fuel lo hi≤i->i < xs.size->j≤xs.getD i j)/\SetTable.below.go xs j fuel lo hi≤xs.size
 | 0,lo,hi,h1,h2,h3,a,b=>by
  have e:lo=hi:=by omega
  subst e;exact⟨a,b,h2⟩
 | fuel+1,lo,hi,h1,h2,h3,a,b=>by
  have rs:∀i k,i < k->k < xs.size->xs.getD i j < xs.getD k j:=fun i k hik hk=>by
   rw[cR,cR];exact iw so hik (by rw[Array.length_toList];exact hk) j
  unfold SetTable.below.go;by_cases c:lo < hi
  . rw[if_pos c];show(∀i,i < (if xs.getD ((lo+hi) / 2) j < j then _ else _)->_)/\_
    by_cases d:xs.getD ((lo+hi) / 2) j < j
    . rw[if_pos d];refine gK so fuel _ _ (by omega) h2 (by omega) (fun i hi'=>?_) b
      by_cases e:i=(lo+hi) / 2
      . rw[e];exact d
      . have:=rs i ((lo+hi) / 2) (by omega) (by omega)
        omega
    . rw[if_neg d];refine gK so fuel _ _ (by omega) (by omega) (by omega) a (fun i h5 h6=>?_)
      by_cases e:i=(lo+hi) / 2
      . rw[e];omega
      . have:=rs ((lo+hi) / 2) i (by omega) h6
        omega
  . rw[if_neg c];have e:lo=hi:=by omega
    subst e;exact⟨a,b,h2⟩
theorem jw {xs:Array Nat}(so:xs.toList.Pairwise (· < ·))(j:Nat):(∀i,i < SetTable.below xs j->xs.getD i j < j)/\(∀i,SetTable.below xs j≤i->i < xs.size->j≤xs.getD i j)/\SetTable.below xs j≤xs.size:=by
 unfold SetTable.below;exact gK so xs.size 0 xs.size (Nat.zero_le _) (Nat.le_refl _) (by omega) (fun i h=>absurd h (Nat.not_lt_zero _)) fun i h1 h2=>by omega
theorem below_at {xs:Array Nat}(so:xs.toList.Pairwise (· < ·)){i:Nat}(hi:i≤xs.size){j:Nat}(h1:∀k,k < i->xs.getD k j < j)(h2:i < xs.size->j≤xs.getD i j):SetTable.below xs j=i:=by
 obtain⟨a,b,c⟩:=jw so j;by_cases e:SetTable.below xs j < i
 . have:=h1 _ e;have:=b _ (Nat.le_refl _) (by omega)
   omega
 . by_cases e2:i < SetTable.below xs j
   . have:=a _ e2;have:=h2 (by omega)
     omega
   . omega
theorem ij (t:SetTable)(p:SetTable.Probe):(t.advance p).dummy=p.dummy:=by
 unfold SetTable.advance
 split<;>rfl
theorem dX {t:SetTable}{h:Int}:∀(fuel:Nat) (p:SetTable.Probe) (j:Nat) (d:Option Nat),(∀x,p.dummy=some x->∀i,t.slot x≠.live i)->SetTable.probe.go t (fun _=>h+1) h fuel p=some (.empty j d)->∀i,t.slot (d.getD j)≠.live i
 | 0,p,j,d,hp,e=>by
  unfold SetTable.probe.go at e;cases e
 | fuel+1,p,j,d,hp,e=>by
  unfold SetTable.probe.go at e;cases hs:t.slot p.j with
  | empty =>
   rw[hs]at e;cases e;intro i;cases hd:p.dummy with
   | none=>show t.slot p.j≠_;rw[hs];intro z;cases z
   | some x=>exact hp x hd i
  | dummy =>
   rw[hs]at e;refine dX fuel _ j d (fun x hx i=>?_) e;rw[ij]at hx;cases hx;rw[hs];intro z;cases z
  | live k =>
   rw[hs]at e;dsimp only at e;rw[if_neg (by rw[beq_iff_eq];omega)]at e
   exact dX fuel _ j d (fun x hx i=>by rw[ij]at hx;exact hp x hx i) e
theorem free_ok {t:SetTable}{h:Int}{j:Nat}{b:Bool}(e:t.freeSlot h=some (j,b)):∀i,t.slot j≠.live i:=by
 unfold SetTable.freeSlot at e;unfold SetTable.probe at e;cases hp:SetTable.probe.go t (fun _=>h+1) h (10*SetTable.turns t.mask) (t.probeStart h)with
 | none=>rw[hp]at e;cases e
 | some m =>
  rw[hp]at e;cases m with
  | empty j' d =>
   cases e;exact dX _ _ _ _ (fun x hx=>by cases hx) hp
  | candidate j' i n=>cases e
theorem put_ok {L:Bool}{t:SetTable}{j:Nat}(k:bH L t)(hf:∀i,t.slot j≠.live i):bH L (t.put j).1:=by
 refine⟨k.1,?_⟩;show(SetTable.insertAt t.place (SetTable.below t.place j) j).toList.Pairwise (· < ·);rw[SetTable.toList_insertAt];obtain⟨a,b,c⟩:=jw k.2 j;have nj:t.place[SetTable.below t.place j]?≠some j:=fun z=>by
  refine hf (SetTable.below t.place j) ?_;unfold SetTable.slot;dsimp only;rw[if_pos (by rw[z];exact beq_self_eq_true _)]
 have so:=k.2;rw[←List.take_append_drop (SetTable.below t.place j) t.place.toList]at so;obtain⟨p1,p2,p3⟩:=List.pairwise_append.mp so;have lo:∀x∈t.place.toList.take (SetTable.below t.place j),x < j:=fun x hx=>by
  obtain⟨i,hi,e⟩:=List.getElem_of_mem hx;rw[List.length_take]at hi;rw[List.getElem_take]at e;have:=a i (by omega)
  rw[cR,List.getElem?_eq_getElem (by omega)]at this
  rw[←e];exact this
 have up:∀x∈t.place.toList.drop (SetTable.below t.place j),j < x:=fun x hx=>by
  obtain⟨i,hi,e⟩:=List.getElem_of_mem hx;rw[List.length_drop]at hi;rw[List.getElem_drop]at e;have hz:SetTable.below t.place j+i < t.place.size:=by rw[←Array.length_toList];omega
  have g:=b (SetTable.below t.place j+i) (by omega) hz
  rw[cR,List.getElem?_eq_getElem (by omega)]at g
  have g':j≤x:=by rw[←e];exact g
  cases i with
  | zero =>
   have:x≠j:=by
    rintro rfl;refine nj ?_;rw[←Array.getElem?_toList,List.getElem?_eq_getElem (by omega)]
    exact congrArg some e
   omega
  | succ i =>
   have g0:=b (SetTable.below t.place j) (Nat.le_refl _) (by omega)
   have:=iw k.2 (show SetTable.below t.place j < SetTable.below t.place j+(i+1) by omega) (by omega) j
   rw[cR]at g0;rw[List.getElem?_eq_getElem (show SetTable.below t.place j+(i+1) < t.place.toList.length by omega)]at this
   have e':(some (t.place.toList[SetTable.below t.place j+(i+1)]'(by omega))).getD j=x:=e
   omega
 exact List.pairwise_append.mpr ⟨p1,List.pairwise_cons.mpr ⟨up,p2⟩,fun x hx y hy=>by
  rcases List.mem_cons.mp hy with rfl | hy
  . exact lo x hx
  . exact p3 x hx y hy⟩
theorem ef {L:Bool}{t:SetTable}(n:Nat)(k:bH L t):bH L (t.standIn n):=by
 refine⟨k.1,?_⟩;show(Array.range n).toList.Pairwise (· < ·);rw[Array.toList_range];exact List.pairwise_lt_range
theorem orStand_ok {L:Bool}{t:SetTable}(n:Nat)(k:bH L t):bH L (t.orStandIn n):=by
 unfold SetTable.orStandIn
 split
 . exact k
 . exact ef n k
theorem lc {L:Bool}{t:SetTable}(es:Array (Int×Value))(h:Int)(x:Value)(k:bH L t):bH L (layNew t es h x).2.1:=by
 unfold layNew
 split
 . rename_i j b e;show bH L ((t.put j).1.orStandIn _);exact orStand_ok _ (put_ok k (free_ok e))
 . exact ef _ k
theorem relaid_ok {L:Bool}{t t':SetTable}{hs:Array Int}{n:Nat}{o:Array Nat}(k:bH L t)(e:t.relaid hs n=some (t',o)):bH L t':=by
 unfold SetTable.relaid SetTable.laid at e;cases hc:SetTable.layClean (SetTable.sizeAbove n - 1) hs with
 | none=>rw[hc]at e;cases e
 | some ow =>
  rw[hc]at e;have e2:=Option.some.inj e;have e3:=(Prod.mk.inj e2).1;subst e3;refine⟨k.1,?_⟩;show(((List.range (SetTable.sizeAbove n - 1+1)).filterMap fun j=>(ow.getD j none).map (j,·)).map (·.1)).toArray.toList.Pairwise (· < ·);rw[List.toList_toArray,List.pairwise_map,List.pairwise_filterMap];refine List.pairwise_lt_range.imp fun{a b} hab x hx y hy=>?_;cases ha:ow.getD a none with
  | none=>rw[ha]at hx;cases hx
  | some u =>
   cases hb:ow.getD b none with
   | none=>rw[hb]at hy;cases hy
   | some v =>
    rw[ha]at hx;rw[hb]at hy;cases hx;cases hy;exact hab
theorem iU {L:Bool}{t:SetTable}(es:Array (Int×Value))(n:Nat)(k:bH L t):bH L (relayAll t es n).2.1:=by
 unfold relayAll
 split
 . rename_i t' o e;dsimp only
   split
   . exact relaid_ok k e
   . exact ef _ k
 . exact ef _ k
def SetT (prog:Program)(w:World)(L:Bool)(h:Heap)(a:Addr)(S:Int->Bool)(n:Nat):Prop:=
 ∃o es ep t,h.get? a=some o/\o.ExactSet/\o.data = .set es ep t/\ElemsOf (intKind prog w) es.toList/\(∀k,S k=true<->∃e∈es.toList,(intKind prog w).is k e.2=true)/\es.size < scanBound/\t.fits es.size=true/\es.size=n/\bH L t
section
variable {prog:Program}{w:World}{A:Around}{E:Value->Shared->Prop}{s:Shared}{L:Bool}{a:Addr}
theorem SetT.keep {h h':Heap}{S:Int->Bool}{n:Nat}(x:SetT prog w L h a S n)(k:∀o,h.get? a=some o->h'.get? a=some o):SetT prog w L h' a S n:=
 let ⟨o,es,ep,t,ho,r⟩:=x;⟨o,es,ep,t,k o ho,r⟩
theorem SetT.congr {h:Heap}{S S':Int->Bool}{n n':Nat}(x:SetT prog w L h a S n)(e:∀k,S k=S' k)(en:n=n'):SetT prog w L h a S' n':=by
 have:S=S':=funext e;subst this;subst en;exact x
theorem SetT.store {h:Heap}{o:Obj}{es es':Array (Int×Value)}{ep:Nat}{t t':SetTable}{S:Int->Bool}(ho:h.get? a=some o)(hx:o.ExactSet)(hd:o.data = .set es ep t)(he:ElemsOf (intKind prog w) es'.toList)(hm:∀k,S k=true<->∃e∈es'.toList,(intKind prog w).is k e.2=true)(hb:es'.size < scanBound)(hf:t'.fits es'.size=true)(ht:bH L t'):(h.update a (Obj.putSet es' t')).get? a=some { o with data:=.set es' (ep+1) t' }/\SetT prog w L (h.update a (Obj.putSet es' t')) a S es'.size:=by
 have hg:=(SetOf_store (knd:=intKind prog w) ho hx hd he hm hb hf).1;exact⟨hg,_,es',ep+1,t',hg,hx,rfl,he,hm,hb,hf,rfl,ht⟩
theorem jy {g:Bool->Sem Unit}(hg:∀(b:Bool) (s1:Shared) (Q':Unit->Shared->Prop),Q' () s1->wpAny (model prog w) A (g b) Q' E s1){o:Obj}{es:Array (Int×Value)}{ep:Nat}{t:SetTable}(ho:s.heap.get? a=some o)(hx:o.ExactSet)(hd:o.data = .set es ep t){e1:Array (Int×Value)}{t2:SetTable}{S:Int->Bool}(he:ElemsOf (intKind prog w) e1.toList)(hm:∀k,S k=true<->∃e∈e1.toList,(intKind prog w).is k e.2=true)(hb:e1.size < scanBound)(hf:t2.fits e1.size=true)(ht:bH L t2){dm:Bool}{R:Option Bool->Shared->Prop}(h:∀h',Heap.SameBut a s.heap h'->SetT prog w L h' a S e1.size->R (some true) { s with heap:=h' }) :
 wpAny (model prog w) A (do
  storeSet a e1 t2
  if (!dm&&t2.tooFull)=true then do
   g (relayAll t2 e1 (SetTable.grown e1.size)).2.2
   storeSet a (relayAll t2 e1 (SetTable.grown e1.size)).1 (relayAll t2 e1 (SetTable.grown e1.size)).2.1
   pure (some true)
   else pure (some true)) R E s:=by
 obtain⟨o1,S1⟩:=SetT.store (L:=L) (S:=S) ho hx hd he hm hb hf ht;have b1:=Heap.SameBut.update s.heap a (Obj.putSet e1 t2);refine wpAny_bind (wpAny_storeSet_of ho hd ?_ (fits_of_scanBound hb))
 split
 . have hp:=relayAll_perm t2 e1 (SetTable.grown e1.size);have hr:=relayAll_fits t2 e1 (SetTable.grown e1.size);have hk:=iU e1 (SetTable.grown e1.size) ht;generalize relayAll t2 e1 (SetTable.grown e1.size)=Y at hp hr hk⊢;obtain⟨e2,t3,gv⟩:=Y;dsimp only at hp hr hk⊢;have z:e2.size=e1.size:=by rw[←Array.length_toList,hp.length_eq,Array.length_toList]
   have he2:ElemsOf (intKind prog w) e2.toList:=he.perm hp;have hm2:∀k,S k=true<->∃e∈e2.toList,(intKind prog w).is k e.2=true:=fun k=>(hm k).trans ⟨fun⟨e,i,q⟩=>⟨e,hp.mem_iff.mpr i,q⟩,fun⟨e,i,q⟩=>⟨e,hp.mem_iff.mp i,q⟩⟩;refine wpAny_bind (hg _ _ _ ?_);refine wpAny_bind (wpAny_storeSet_of o1 rfl ?_ (fits_of_scanBound (by rw[z];exact hb)))
   have S2:=(SetT.store (L:=L) (S:=S) o1 hx rfl he2 hm2 (by rw[z];exact hb) hr hk).2
   rw[z]at S2;exact wpAny_pure (h _ (b1.trans (Heap.SameBut.update _ a _)) S2)
 . exact wpAny_pure (h _ b1 S1)
theorem add_t {S:Int->Bool}{n:Nat}{k:Int}{x:Value}{Q:Bool->Shared->Prop}(hkey:(intKind prog w).is k x=true)(hsc:x.scannable=true)(hS:SetT prog w L s.heap a S n)(hroom:n+1 < scanBound)(h:∀h',Heap.SameBut a s.heap h'->SetT prog w L h' a (fun k'=>S k'||decide (k'=k)) (if S k then n else n+1)->Q (!S k) { s with heap:=h' }) :
 wpAny (model prog w) A (setAddHashed a x ((intKind prog w).hash k)) Q E s:=by
 obtain⟨o,es,ep,t,ho,hex,hd,hel,hmem,hb,hf,hn,ht⟩:=hS;unfold setAddHashed setAddHashedIn;refine wpAny_holding (wpAny_bind (wpAny_setState_of ho hd hf ?_));dsimp only;rw[byScan_of hsc hb hel];simp only[↓reduceIte];unfold setAddByScan;refine wpAny_bind (wpAny_bind (wpAny_rule ?_));refine wpAny_bind (wpAny_setScan_of hkey ho hd hf hel ?_);cases hr:List.findIdx? (fun e=>(intKind prog w).is k e.2) es.toList with
 | some j =>
  dsimp only;obtain⟨hj,pj,_⟩:=List.findIdx?_eq_some_iff_getElem.mp hr;have hk:S k=true:=(hmem k).mpr ⟨es.toList[j],List.getElem_mem hj,pj⟩;have fin:=h s.heap (Heap.SameBut.refl a s.heap) ⟨o,es,ep,t,ho,hex,hd,hel,fun k'=>by
   rw[Bool.or_eq_true,decide_eq_true_eq,←hmem k'];exact⟨fun z=>z.elim id fun e=>e▸hk,.inl⟩,hb,hf,by rw[hk];exact hn,ht⟩
  rw[hk]at fin;exact wpAny_pure (wpAny_pure fin)
 | none =>
  dsimp only;have hk:S k=false:=by
   cases c:S k with
   | false=>rfl
   | true =>
    obtain⟨e,i,q⟩:=(hmem k).mp c;have:=List.findIdx?_eq_none_iff.mp hr e i;rw[q]at this;cases this
  have hgw:∀(b:Bool) {s1:Shared} {Q':Unit->Shared->Prop},Q' () s1->wpAny (model prog w) A (match b with | true=>rule "set.scan.the-table-gave-way" | false=>pure ()) Q' E s1:=
   fun b s1 Q' q=>by cases b<;>first | exact wpAny_pure q | exact wpAny_rule q
  have hp:=layNew_perm t es ((intKind prog w).hash k) x;have hq:=layNew_fits t es ((intKind prog w).hash k) x;have hl:=lc es ((intKind prog w).hash k) x ht;generalize layNew t es ((intKind prog w).hash k) x=Y at hp hq hl⊢;obtain⟨e1,t1,dm,gv⟩:=Y;dsimp only at hp hq hl⊢;rw[Array.toList_push]at hp;have z:e1.size=n+1:=by rw[←Array.length_toList,hp.length_eq,List.length_append,Array.length_toList,hn];rfl
  have he1:ElemsOf (intKind prog w) e1.toList:=(hel.push hkey hsc).perm hp;have hm1:∀k',(S k'||decide (k'=k))=true<->∃e∈e1.toList,(intKind prog w).is k' e.2=true:=mem_push_iff hkey hmem hp;have hb1:e1.size < scanBound:=by rw[z];exact hroom
  have fin:∀h',Heap.SameBut a s.heap h'->SetT prog w L h' a (fun k'=>S k'||decide (k'=k)) e1.size->Q true { s with heap:=h' }:=fun h' b c=>by
   have:=h h' b;rw[hk]at this;rw[z]at c;exact this c
  refine wpAny_bind (hgw _ ?_)
  split
  . refine wpAny_bind ?_;rw[hashByValue_scannable 8 hsc];refine wpAny_pure (jy (L:=L) (S:=fun k'=>S k'||decide (k'=k)) ?_ ho hex hd he1 hm1 hb1 ?_ ?_ ?_)
    . intro b s1 Q' q;cases b<;>first | exact wpAny_pure q | exact wpAny_rule q
    . split
      . exact hq
      . exact SetTable.fits_plain_off hq
    . split
      . exact hl
      . exact⟨hl.1,hl.2⟩
    . intro h' b c;dsimp only;exact wpAny_pure (fin h' b c)
  . refine wpAny_bind (wpAny_pure ?_);simp only[↓reduceIte];refine jy (L:=L) (S:=fun k'=>S k'||decide (k'=k)) ?_ ho hex hd he1 hm1 hb1 hq hl ?_
    . intro b s1 Q' q;cases b<;>first | exact wpAny_pure q | exact wpAny_rule q
    . intro h' b c;dsimp only;exact wpAny_pure (fin h' b c)
end
section
variable {prog:Program}{w:World}{A:Around}{R:Result->Shared->Prop}{I:Addr}{fp wr:List Addr}{G:Array GenState->Array GenState->Prop}{n:Nat}{P:Nat->Value->Prop}{St:Nat->Shared->Prop}{L:Bool}
theorem fill_t (W:WalksS prog w A.in1 I fp wr G n P St)(B:Addr)(hB:B∉fp)(val:Nat->Int)(hval:∀i v,P i v->∃t,v = .int (val i) t)(hb:n+1 < scanBound):∀(k i:Nat) (s:Shared),n - i=k->i≤n->St i s->SetT prog w L s.heap B (fun y=>(firstMet val i).any (· == y)) (firstMet val i).length->(∀s',Moved (B::wr) G s s'->SetT prog w L s'.heap B (fun y=>(firstMet val n).any (· == y)) (firstMet val n).length->R (.ok (.ret .none)) s')->codeAny (model prog w) A (.builtin "set.update.loop" ⟨[.ref B,.ref I],[]⟩) R s:=by
 have hBw:B∉wr:=fun z=>hB (W.sub _ z);have sub:∀b∈wr,b∈B::wr:=fun b h=>List.mem_cons_of_mem _ h;intro k
 induction k with
 | zero =>
  intro i s e hi st hS hR;obtain rfl:i=n:=by omega
  refine codeAny_builtin PyProof.Rows.F.entry_set_update_loop ?_;rw[Around.under_plainId PyProof.Rows.F.plain_set_update_loop _];show wpAny _ A.in1 (pyNext (.ref I) >>= _) _ _ s;refine wpAny_bind (W.done s _ _ st fun s' m=>?_);show wpAny _ A.in1 (ret Value.none) _ _ s';exact wpAny_pure (hR s' (m.mono sub) (hS.keep fun o e=>m.heap B _ hBw e))
 | succ k ih =>
  intro i s e hi st hS hR;have lt:i < n:=by omega
  refine codeAny_builtin PyProof.Rows.F.entry_set_update_loop ?_;rw[Around.under_plainId PyProof.Rows.F.plain_set_update_loop _];show wpAny _ A.in1 (pyNext (.ref I) >>= _) _ _ s;refine wpAny_bind (W.item i s _ _ lt st fun v s' hP st' m=>?_);obtain⟨t,rfl⟩:=hval i v hP;have hS':=hS.keep (h':=s'.heap) fun o e=>m.heap B _ hBw e;show wpAny _ A.in1 (holding [Value.int (val i) t] (setAdd B (.int (val i) t)) >>= _) _ _ s';refine wpAny_bind (wpAny_holding ?_);unfold setAdd;refine wpAny_holding (wpAny_bind ((intKind prog w).pyHash (k:=val i) (intKind_is _ _ _ _) ?_));have room:(firstMet val i).length+1 < scanBound:=by have:=firstMet_length_le val i;omega
  refine add_t (L:=L) (s:={ s' with toks:=s'.toks+1 }) (intKind_is _ _ _ _) rfl hS' room fun h' sb S2=>?_
  have S3:SetT prog w L h' B (fun y=>(firstMet val (i+1)).any (· == y)) (firstMet val (i+1)).length:=S2.congr (fun y=>by rw[firstMet_succ,step_any]) (by rw[firstMet_succ,step_length])
  refine wpAny_pure ⟨plainId_quiet PyProof.Rows.F.plain_set_update_loop _,ih (i+1) _ (by omega) lt (W.frame _ s' _ _ st' (Nat.le_succ _) fun b hb' o e=>?_) S3 fun s2 m2 S4=>?_⟩
  . rw[sb.2 b (fun z:b=B=>hB (by rw[←z];exact hb'))];exact e
  . refine hR s2 (Moved.trans W.gtrans ((m.mono sub).then_heap (Nat.le_succ _) fun b o hb' e=>?_) m2) S4;rw[sb.2 b (fun z:b=B=>hb' (by rw[z];exact List.mem_cons_self))];exact e
end
def cZ (w:World):Bool:=!(w.params.followText "set-order")
section
variable {prog:Program}{w:World}{A:Around}{E:Value->Shared->Prop}{s:Shared}
theorem lL (a:Value){Q1:Value->Shared->Prop}(h:Q1 (.ref s.heap.objs.size) { s with heap:=s.heap.push { cls:=.type "set",dict:=none,data:=.set #[] 0 (.fresh 0 0 (cZ w)) } }) :
 codeAny (model prog w) A (.call (.builtin "set.__new__") ⟨[.type "set",a],[]⟩) (wants Q1 E) s:=by
 refine codeAny_of_tree ?_;show wpAny _ A.in1 (do checkBuiltinCall "set.__new__" ⟨[.type "set",a],[]⟩;again (.builtin "set.__new__" ⟨[.type "set",a],[]⟩)) _ _ s
 refine wpAny_bind (wpAny_of_eq (PySem.F.newCall_set_1 a) (wpAny_pure ⟨plainId_quiet PySem.F.plain_set_new _,codeAny_builtin PySem.F.entry_set_new ?_⟩));rw[Around.under_plainId PySem.F.plain_set_new _];unfold Builtin.«set.__new__» Builtin.Frozenset.newClass;have hsub:=sub_set_self;obtain⟨hp,g,d,tk,os⟩:=s;dsimp only
 wp_walk
 refine wpAny_askSetting (wpAny_pure ?_);dsimp only;simp only[newObj];refine wpAny_bind (wpAny_alloc (wpAny_pure ?_));exact wpAny_pure h
set_option maxHeartbeats 3200000 in
theorem call_setT {l:Addr}{items:Array Value}{ns:List Int}{Q:Value->Shared->Prop}(hh:A.handled=none)(hl:s.heap.IsList l items)(hi:IntsAre items.toList ns)(hb:items.size+1 < scanBound)
 (h:∀(h':Heap) (tk:Nat),SetT prog w (cZ w) h' s.heap.objs.size (fun y=>(firstMet (fun i=>ns.getD i 0) items.size).any (· == y)) (firstMet (fun i=>ns.getD i 0) items.size).length →
   (∀b o,b < s.heap.objs.size->s.heap.get? b=some o->h'.get? b=some o)->Q (.ref s.heap.objs.size) { s with heap:=h',toks:=tk }) :
 wpAny (model prog w) A (call (.type "set") [.ref l]) Q E s:=by
 obtain⟨c,tl,hmro⟩:=PySem.F.called_set.mro;have hmade:=PySem.F.called_set.made;have hsub:=PySem.F.called_set.sub;refine wpAny_call (codeAny_of_tree ?_);show wpAny _ _ (callAny (.type "set") _) _ _ _;refine wpAny_pure ⟨Code.quiet_builtin _ (by decide +kernel),codeAny_builtin PySem.F.entry_type_call ?_⟩
 rw[Around.under_plain (weight_type_call_type "set" [.ref l] []) rfl];have h1:=PySem.F.called_set.notType;have h2:=PySem.F.called_set.canCreate;have hct:=PySem.F.typeCall_set_1 (.ref l)
 repeat (any_goals (first | assumption | wp_step))
 obtain⟨led,hled⟩:∃led:Bool,led=cZ w:=⟨_,rfl⟩;refine codeAny_mono (lL (.ref l) (E:=E) (Q1:=fun obj s1=>obj = .ref s.heap.objs.size/\s1={ s with heap:=s.heap.push { cls:=.type "set",dict:=none,data:=.set #[] 0 (.fresh 0 0 led) } }) ⟨rfl,by rw[hled]⟩) fun r s1 hr=>?_
 cases r with
 | error e=>exact hr
 | ok fl =>
  cases fl with
  | ret obj =>
   obtain⟨rfl,rfl⟩:=hr;have hS:(s.heap.push { cls:=.type "set",dict:=none,data:=.set #[] 0 (.fresh 0 0 led) }).get? s.heap.objs.size=some { cls:=.type "set",dict:=none,data:=.set #[] 0 (.fresh 0 0 led) }:=Heap.get?_push_size _ rfl;have hT:Shared.TypeIs { s with heap:=s.heap.push { cls:=.type "set",dict:=none,data:=.set #[] 0 (.fresh 0 0 led) } } (.ref s.heap.objs.size) "set":=⟨_,hS,rfl⟩
   have hli:=PySem.F.called_set.init.lookup;have hbi:=PySem.F.called_set.init.bind (.ref s.heap.objs.size)
   repeat (any_goals (first | assumption | wp_step))
   refine codeAny_mono (codeAny_call_builtin (R:=wants (fun r s2=>r = .none/\∃h' tk,s2={ s with heap:=h',toks:=tk } ∧
    SetT prog w (cZ w) h' s.heap.objs.size (fun y=>(firstMet (fun i=>ns.getD i 0) items.size).any (· == y)) (firstMet (fun i=>ns.getD i 0) items.size).length ∧
    (∀b o,b < s.heap.objs.size->s.heap.get? b=some o->h'.get? b=some o)) E) PySem.F.called_set.init.plain PySem.F.entry_set_init (check_set_init_1 hT ?_)) fun r2 s2 hr2=>?_
   . obtain⟨ol,hol,hcl,nl,hdl⟩:=hl;obtain⟨ocls,odict,odata,oslots⟩:=ol;simp only at hcl hdl;subst hcl;subst hdl;have hol':(s.heap.push { cls:=.type "set",dict:=none,data:=.set #[] 0 (.fresh 0 0 led) }).get? l=some { cls:=.type "list",dict:=odict,data:=.seq items nl,slots:=oslots }:=Heap.get?_push_of_some _ hol;have hsls:=PySem.F.sub_list_set;have hslf:=PySem.F.sub_list_frozenset;have hne:(Value.type "list" == Value.type "dict")=false:=by decide
     have hl1:(s.heap.push { cls:=.type "set",dict:=none,data:=.set #[] 0 (.fresh 0 0 led) }).IsList l items:=⟨_,hol',rfl,nl,rfl⟩;unfold Builtin.«set.__init__» noKeywords Builtin.Frozenset.updateFrom;generalize hPI:pyIter=PI
     wp_walk
     subst hPI;refine wpAny_pyIter_list hl1 ?_;refine wpAny_bind (wpAny_runValue ?_);have hlS:l < s.heap.objs.size:=Heap.lt_size hol;have hh3:A.in1.in1.in1.handled=none:=by simp[hh]
     have hneI:l≠(s.heap.push { cls:=.type "set",dict:=none,data:=.set #[] 0 (.fresh 0 0 led) }).objs.size:=by
      rw[Heap.size_push];exact Nat.ne_of_lt (Nat.lt_succ_of_lt hlS)
     have hSf:s.heap.objs.size∉[(s.heap.push { cls:=.type "set",dict:=none,data:=.set #[] 0 (.fresh 0 0 led) }).objs.size,l]:=by
      rw[Heap.size_push];simp only[List.mem_cons,List.mem_singleton,List.not_mem_nil,or_false,not_or];exact⟨Nat.ne_of_lt (Nat.lt_succ_self _),Nat.ne_of_gt hlS⟩
     have hval:∀(i:Nat) (v:Value),items[i]? = some v->∃t,v = .int ((fun i=>ns.getD i 0) i) t:=fun i v hv=>IntsAre.int_at hi i v (by rw[Array.getElem?_toList];exact hv)
     refine fill_t (L:=cZ w) ((Walks.list hh3 _ l hneI items).toS) s.heap.objs.size hSf (fun i=>ns.getD i 0) hval hb (items.size - 0) 0 _ (by omega) (Nat.zero_le _)
      ⟨⟨_,Heap.get?_push_size _ rfl,rfl,rfl⟩,(hl1.push _)⟩ ?hS0 ?hR
     case hS0 =>
      have hget:((s.heap.push { cls:=.type "set",dict:=none,data:=.set #[] 0 (.fresh 0 0 led) }).push { cls:=.type "list_iterator",data:=.fields #[.ref l,.int 0 0] }).get? s.heap.objs.size=some { cls:=.type "set",dict:=none,data:=.set #[] 0 (.fresh 0 0 led) }:=Heap.get?_push_of_some _ hS;refine⟨_,#[],0,.fresh 0 0 led,hget,⟨rfl,rfl,rfl⟩,rfl,fun e he=>by simp at he,fun k=>?_,by decide,by rfl,rfl,hled,List.Pairwise.nil⟩
      show(false=true)<->_;simp
     case hR =>
      intro s' hm hS';obtain⟨h',g',d',tk',os'⟩:=s';have eg:g'=s.gens:=hm.gens;have ed:d'=s.drawn:=hm.drawn;have eo:os'=s.os:=hm.os;subst eg;subst ed;subst eo;show wpAny _ _ _ _ _ _;refine wpAny_pure ?_;show wpAny _ _ (ret Value.none) _ _ _;refine wpAny_pure ⟨rfl,h',tk',rfl,hS',fun b o hb e=>?_⟩;have hb1:b≠s.heap.objs.size:=Nat.ne_of_lt hb;have hb2:b≠(s.heap.push { cls:=.type "set",dict:=none,data:=.set #[] 0 (.fresh 0 0 led) }).objs.size:=by
       rw[Heap.size_push];exact Nat.ne_of_lt (Nat.lt_succ_of_lt hb)
      exact hm.heap b o (by simp only[List.mem_cons,List.mem_singleton,List.not_mem_nil,or_false,not_or];exact⟨hb1,hb2⟩) (Heap.get?_push_of_some _ (Heap.get?_push_of_some _ e))
   . cases r2 with
     | error e=>exact hr2
     | ok fl2 =>
      cases fl2 with
      | ret r =>
       obtain⟨rfl,h',tk,rfl,hS',hk'⟩:=hr2
       repeat (any_goals (first | assumption | wp_step))
       exact h _ _ hS' hk'
      | _=>exact hr2.elim
  | _=>exact hr.elim
end
end L2
namespace L2
open PySem PySem.Spec PyProof.Rows
def isB:Int->Value->Bool
 | k,.bool c=>b2i c == k
 | _,_=>false
theorem ce {k:Int}{v:Value}(h:isB k v=true):∃c:Bool,v = .bool c/\b2i c=k:=by
 cases v<;>first | exact⟨_,rfl,beq_iff_eq.mp h⟩ | cases h
theorem hash_bool {prog:Program}{w:World}{A:Around}{E:Value->Shared->Prop}{s:Shared}{c:Bool}{Q:Int->Shared->Prop}(h:Q (b2i c) { s with toks:=s.toks+1 }):wpAny (model prog w) A (pyHash (.bool c)) Q E s:=by
 have hT:s.TypeIs (.bool c) "bool":=rfl;have e:rawHash (b2i c)=b2i c:=by cases c<;>rfl
 have hr:=rawHash_range (b2i c);unfold pyHash;have hv:[Value.bool c].any Value.onHeap=false:=rfl;refine wpAny_bind ?_;rw[cRoomFor,if_neg (by rw[hv];exact Bool.false_ne_true)]
 refine wpAny_pure ?_;refine wpAny_bind (wpAny_specialOf hT PySem.F.slot_bool_hash.lookup ?_);show wpAny _ _ (if (some (Value.builtin "int.__hash__") == some Value.none)=true then _ else _) Q E s
 rw[if_neg (by rw[beq_builtin_none];exact Bool.false_ne_true)]
 refine wpAny_bind (wpAny_specialOf hT PySem.F.slot_bool_hash.lookup ?_);show wpAny _ _ (callSpecialIfBoundUnlessNone? (.bool c) "__hash__" _ >>= _) Q E s;refine wpAny_bind (wpAny_callSpecialIfBoundUnlessNone?_slot hT PySem.F.slot_bool_hash
  (wpAny_call_entry PySem.F.slot_bool_hash hT PySem.F.entry_int_hash
    (show wpAny _ _ (do ret (←mkInt (rawHash (b2i c)))) _ _ s from wpAny_ret_mkInt ?_) (PySem.F.args_int_hash_1 _)))
 show wpAny _ _ (if (decide (-(2:Int) ^ 63≤rawHash (b2i c))&&decide (rawHash (b2i c) < 2 ^ 63))=true then _ else _) Q E _
 rw[if_pos (by rw[decide_eq_true hr.1,decide_eq_true hr.2];rfl),e]
 cases c<;>exact wpAny_pure h
def bO (prog:Program)(w:World):KeyKind prog w Int where
 is:=isB
 hash:=id
 inj:=fun v a b ha hb=>by
  obtain⟨c,rfl,e1⟩:=ce ha;obtain⟨d,e,e2⟩:=ce hb;cases e;rw[←e1,←e2]
 byValue:=fun k v h=>by obtain⟨c,rfl,_⟩:=ce h;rfl
 pyHash:=fun hv h=>by obtain⟨c,rfl,e⟩:=ce hv;subst e;exact hash_bool h
 eqBool:=fun hu hv h=>by
  obtain⟨c,rfl,e1⟩:=ce hu;obtain⟨d,rfl,e2⟩:=ce hv;refine SeqAt.EqAt.bool_bool c d _ _ _ _ ?_;subst e1 e2;cases c<;>cases d<;>exact h
 «strs»:=fun k x t v h=>by cases h
theorem jv {prog:Program}{w:World}{k:Int}{c:Bool}(e:b2i c=k):(bO prog w).is k (.bool c)=true:=beq_iff_eq.mpr e
def SetTB (prog:Program)(w:World)(L:Bool)(h:Heap)(a:Addr)(S:Int->Bool)(n:Nat):Prop:=
 ∃o es ep t,h.get? a=some o/\o.ExactSet/\o.data = .set es ep t/\ElemsOf (bO prog w) es.toList/\(∀k,S k=true<->∃e∈es.toList,(bO prog w).is k e.2=true)/\es.size < scanBound/\t.fits es.size=true/\es.size=n/\bH L t
section
variable {prog:Program}{w:World}{A:Around}{E:Value->Shared->Prop}{s:Shared}{L:Bool}{a:Addr}
theorem SetTB.keep {h h':Heap}{S:Int->Bool}{n:Nat}(x:SetTB prog w L h a S n)(k:∀o,h.get? a=some o->h'.get? a=some o):SetTB prog w L h' a S n:=
 let ⟨o,es,ep,t,ho,r⟩:=x;⟨o,es,ep,t,k o ho,r⟩
theorem SetTB.congr {h:Heap}{S S':Int->Bool}{n n':Nat}(x:SetTB prog w L h a S n)(e:∀k,S k=S' k)(en:n=n'):SetTB prog w L h a S' n':=by
 have:S=S':=funext e;subst this;subst en;exact x
theorem SetTB.store {h:Heap}{o:Obj}{es es':Array (Int×Value)}{ep:Nat}{t t':SetTable}{S:Int->Bool}(ho:h.get? a=some o)(hx:o.ExactSet)(hd:o.data = .set es ep t)(he:ElemsOf (bO prog w) es'.toList)(hm:∀k,S k=true<->∃e∈es'.toList,(bO prog w).is k e.2=true)(hb:es'.size < scanBound)(hf:t'.fits es'.size=true)(ht:bH L t'):(h.update a (Obj.putSet es' t')).get? a=some { o with data:=.set es' (ep+1) t' }/\SetTB prog w L (h.update a (Obj.putSet es' t')) a S es'.size:=by
 have hg:=(SetOf_store (knd:=bO prog w) ho hx hd he hm hb hf).1;exact⟨hg,_,es',ep+1,t',hg,hx,rfl,he,hm,hb,hf,rfl,ht⟩
theorem im {g:Bool->Sem Unit}(hg:∀(b:Bool) (s1:Shared) (Q':Unit->Shared->Prop),Q' () s1->wpAny (model prog w) A (g b) Q' E s1){o:Obj}{es:Array (Int×Value)}{ep:Nat}{t:SetTable}(ho:s.heap.get? a=some o)(hx:o.ExactSet)(hd:o.data = .set es ep t){e1:Array (Int×Value)}{t2:SetTable}{S:Int->Bool}(he:ElemsOf (bO prog w) e1.toList)(hm:∀k,S k=true<->∃e∈e1.toList,(bO prog w).is k e.2=true)(hb:e1.size < scanBound)(hf:t2.fits e1.size=true)(ht:bH L t2){dm:Bool}{R:Option Bool->Shared->Prop}(h:∀h',Heap.SameBut a s.heap h'->SetTB prog w L h' a S e1.size->R (some true) { s with heap:=h' }) :
 wpAny (model prog w) A (do
  storeSet a e1 t2
  if (!dm&&t2.tooFull)=true then do
   g (relayAll t2 e1 (SetTable.grown e1.size)).2.2
   storeSet a (relayAll t2 e1 (SetTable.grown e1.size)).1 (relayAll t2 e1 (SetTable.grown e1.size)).2.1
   pure (some true)
   else pure (some true)) R E s:=by
 obtain⟨o1,S1⟩:=SetTB.store (L:=L) (S:=S) ho hx hd he hm hb hf ht;have b1:=Heap.SameBut.update s.heap a (Obj.putSet e1 t2);refine wpAny_bind (wpAny_storeSet_of ho hd ?_ (fits_of_scanBound hb))
 split
 . have hp:=relayAll_perm t2 e1 (SetTable.grown e1.size);have hr:=relayAll_fits t2 e1 (SetTable.grown e1.size);have hk:=iU e1 (SetTable.grown e1.size) ht;generalize relayAll t2 e1 (SetTable.grown e1.size)=Y at hp hr hk⊢;obtain⟨e2,t3,gv⟩:=Y;dsimp only at hp hr hk⊢;have z:e2.size=e1.size:=by rw[←Array.length_toList,hp.length_eq,Array.length_toList]
   have he2:ElemsOf (bO prog w) e2.toList:=he.perm hp;have hm2:∀k,S k=true<->∃e∈e2.toList,(bO prog w).is k e.2=true:=fun k=>(hm k).trans ⟨fun⟨e,i,q⟩=>⟨e,hp.mem_iff.mpr i,q⟩,fun⟨e,i,q⟩=>⟨e,hp.mem_iff.mp i,q⟩⟩;refine wpAny_bind (hg _ _ _ ?_);refine wpAny_bind (wpAny_storeSet_of o1 rfl ?_ (fits_of_scanBound (by rw[z];exact hb)))
   have S2:=(SetTB.store (L:=L) (S:=S) o1 hx rfl he2 hm2 (by rw[z];exact hb) hr hk).2
   rw[z]at S2;exact wpAny_pure (h _ (b1.trans (Heap.SameBut.update _ a _)) S2)
 . exact wpAny_pure (h _ b1 S1)
theorem add_tB {S:Int->Bool}{n:Nat}{k:Int}{x:Value}{Q:Bool->Shared->Prop}(hkey:(bO prog w).is k x=true)(hsc:x.scannable=true)(hS:SetTB prog w L s.heap a S n)(hroom:n+1 < scanBound)(h:∀h',Heap.SameBut a s.heap h'->SetTB prog w L h' a (fun k'=>S k'||decide (k'=k)) (if S k then n else n+1)->Q (!S k) { s with heap:=h' }) :
 wpAny (model prog w) A (setAddHashed a x ((bO prog w).hash k)) Q E s:=by
 obtain⟨o,es,ep,t,ho,hex,hd,hel,hmem,hb,hf,hn,ht⟩:=hS;unfold setAddHashed setAddHashedIn;refine wpAny_holding (wpAny_bind (wpAny_setState_of ho hd hf ?_));dsimp only;rw[byScan_of hsc hb hel];simp only[↓reduceIte];unfold setAddByScan;refine wpAny_bind (wpAny_bind (wpAny_rule ?_));refine wpAny_bind (wpAny_setScan_of hkey ho hd hf hel ?_);cases hr:List.findIdx? (fun e=>(bO prog w).is k e.2) es.toList with
 | some j =>
  dsimp only;obtain⟨hj,pj,_⟩:=List.findIdx?_eq_some_iff_getElem.mp hr;have hk:S k=true:=(hmem k).mpr ⟨es.toList[j],List.getElem_mem hj,pj⟩;have fin:=h s.heap (Heap.SameBut.refl a s.heap) ⟨o,es,ep,t,ho,hex,hd,hel,fun k'=>by
   rw[Bool.or_eq_true,decide_eq_true_eq,←hmem k'];exact⟨fun z=>z.elim id fun e=>e▸hk,.inl⟩,hb,hf,by rw[hk];exact hn,ht⟩
  rw[hk]at fin;exact wpAny_pure (wpAny_pure fin)
 | none =>
  dsimp only;have hk:S k=false:=by
   cases c:S k with
   | false=>rfl
   | true =>
    obtain⟨e,i,q⟩:=(hmem k).mp c;have:=List.findIdx?_eq_none_iff.mp hr e i;rw[q]at this;cases this
  have hgw:∀(b:Bool) {s1:Shared} {Q':Unit->Shared->Prop},Q' () s1->wpAny (model prog w) A (match b with | true=>rule "set.scan.the-table-gave-way" | false=>pure ()) Q' E s1:=
   fun b s1 Q' q=>by cases b<;>first | exact wpAny_pure q | exact wpAny_rule q
  have hp:=layNew_perm t es ((bO prog w).hash k) x;have hq:=layNew_fits t es ((bO prog w).hash k) x;have hl:=lc es ((bO prog w).hash k) x ht;generalize layNew t es ((bO prog w).hash k) x=Y at hp hq hl⊢;obtain⟨e1,t1,dm,gv⟩:=Y;dsimp only at hp hq hl⊢;rw[Array.toList_push]at hp;have z:e1.size=n+1:=by rw[←Array.length_toList,hp.length_eq,List.length_append,Array.length_toList,hn];rfl
  have he1:ElemsOf (bO prog w) e1.toList:=(hel.push hkey hsc).perm hp;have hm1:∀k',(S k'||decide (k'=k))=true<->∃e∈e1.toList,(bO prog w).is k' e.2=true:=mem_push_iff hkey hmem hp;have hb1:e1.size < scanBound:=by rw[z];exact hroom
  have fin:∀h',Heap.SameBut a s.heap h'->SetTB prog w L h' a (fun k'=>S k'||decide (k'=k)) e1.size->Q true { s with heap:=h' }:=fun h' b c=>by
   have:=h h' b;rw[hk]at this;rw[z]at c;exact this c
  refine wpAny_bind (hgw _ ?_)
  split
  . refine wpAny_bind ?_;rw[hashByValue_scannable 8 hsc];refine wpAny_pure (im (L:=L) (S:=fun k'=>S k'||decide (k'=k)) ?_ ho hex hd he1 hm1 hb1 ?_ ?_ ?_)
    . intro b s1 Q' q;cases b<;>first | exact wpAny_pure q | exact wpAny_rule q
    . split
      . exact hq
      . exact SetTable.fits_plain_off hq
    . split
      . exact hl
      . exact⟨hl.1,hl.2⟩
    . intro h' b c;dsimp only;exact wpAny_pure (fin h' b c)
  . refine wpAny_bind (wpAny_pure ?_);simp only[↓reduceIte];refine im (L:=L) (S:=fun k'=>S k'||decide (k'=k)) ?_ ho hex hd he1 hm1 hb1 hq hl ?_
    . intro b s1 Q' q;cases b<;>first | exact wpAny_pure q | exact wpAny_rule q
    . intro h' b c;dsimp only;exact wpAny_pure (fin h' b c)
end
section
variable {prog:Program}{w:World}{A:Around}{R:Result->Shared->Prop}{I:Addr}{fp wr:List Addr}{G:Array GenState->Array GenState->Prop}{n:Nat}{P:Nat->Value->Prop}{St:Nat->Shared->Prop}{L:Bool}
theorem fill_tB (W:WalksS prog w A.in1 I fp wr G n P St)(B:Addr)(hB:B∉fp)(val:Nat->Int)(hval:∀i v,P i v->∃c:Bool,v = .bool c/\b2i c=val i)(hb:n+1 < scanBound):∀(k i:Nat) (s:Shared),n - i=k->i≤n->St i s->SetTB prog w L s.heap B (fun y=>(firstMet val i).any (· == y)) (firstMet val i).length->(∀s',Moved (B::wr) G s s'->SetTB prog w L s'.heap B (fun y=>(firstMet val n).any (· == y)) (firstMet val n).length->R (.ok (.ret .none)) s')->codeAny (model prog w) A (.builtin "set.update.loop" ⟨[.ref B,.ref I],[]⟩) R s:=by
 have hBw:B∉wr:=fun z=>hB (W.sub _ z);have sub:∀b∈wr,b∈B::wr:=fun b h=>List.mem_cons_of_mem _ h;intro k
 induction k with
 | zero =>
  intro i s e hi st hS hR;obtain rfl:i=n:=by omega
  refine codeAny_builtin PyProof.Rows.F.entry_set_update_loop ?_;rw[Around.under_plainId PyProof.Rows.F.plain_set_update_loop _];show wpAny _ A.in1 (pyNext (.ref I) >>= _) _ _ s;refine wpAny_bind (W.done s _ _ st fun s' m=>?_);show wpAny _ A.in1 (ret Value.none) _ _ s';exact wpAny_pure (hR s' (m.mono sub) (hS.keep fun o e=>m.heap B _ hBw e))
 | succ k ih =>
  intro i s e hi st hS hR;have lt:i < n:=by omega
  refine codeAny_builtin PyProof.Rows.F.entry_set_update_loop ?_;rw[Around.under_plainId PyProof.Rows.F.plain_set_update_loop _];show wpAny _ A.in1 (pyNext (.ref I) >>= _) _ _ s;refine wpAny_bind (W.item i s _ _ lt st fun v s' hP st' m=>?_);obtain⟨c,rfl,ec⟩:=hval i v hP;have hS':=hS.keep (h':=s'.heap) fun o e=>m.heap B _ hBw e;show wpAny _ A.in1 (holding [Value.bool c] (setAdd B (.bool c)) >>= _) _ _ s';refine wpAny_bind (wpAny_holding ?_);unfold setAdd;refine wpAny_holding (wpAny_bind ((bO prog w).pyHash (k:=val i) (jv ec) ?_));have room:(firstMet val i).length+1 < scanBound:=by have:=firstMet_length_le val i;omega
  refine add_tB (L:=L) (s:={ s' with toks:=s'.toks+1 }) (jv ec) rfl hS' room fun h' sb S2=>?_
  have S3:SetTB prog w L h' B (fun y=>(firstMet val (i+1)).any (· == y)) (firstMet val (i+1)).length:=S2.congr (fun y=>by rw[firstMet_succ,step_any]) (by rw[firstMet_succ,step_length])
  refine wpAny_pure ⟨plainId_quiet PyProof.Rows.F.plain_set_update_loop _,ih (i+1) _ (by omega) lt (W.frame _ s' _ _ st' (Nat.le_succ _) fun b hb' o e=>?_) S3 fun s2 m2 S4=>?_⟩
  . rw[sb.2 b (fun z:b=B=>hB (by rw[←z];exact hb'))];exact e
  . refine hR s2 (Moved.trans W.gtrans ((m.mono sub).then_heap (Nat.le_succ _) fun b o hb' e=>?_) m2) S4;rw[sb.2 b (fun z:b=B=>hb' (by rw[z];exact List.mem_cons_self))];exact e
end
section
variable {prog:Program}{w:World}{A:Around}{E:Value->Shared->Prop}{s:Shared}
theorem call_setTB {l:Addr}{items:Array Value}{cs:List Bool}{Q:Value->Shared->Prop}(hh:A.handled=none)(hl:s.heap.IsList l items)(hi:items.toList=cs.map Value.bool)(hb:items.size+1 < scanBound)(h:∀(h':Heap) (tk:Nat),SetTB prog w (cZ w) h' s.heap.objs.size (fun y=>(firstMet (fun i=>b2i (cs.getD i false)) items.size).any (· == y)) (firstMet (fun i=>b2i (cs.getD i false)) items.size).length->(∀b o,b < s.heap.objs.size->s.heap.get? b=some o->h'.get? b=some o)->Q (.ref s.heap.objs.size) { s with heap:=h',toks:=tk }) :
 wpAny (model prog w) A (call (.type "set") [.ref l]) Q E s:=by
 obtain⟨c,tl,hmro⟩:=PySem.F.called_set.mro;have hmade:=PySem.F.called_set.made;have hsub:=PySem.F.called_set.sub;refine wpAny_call (codeAny_of_tree ?_);show wpAny _ _ (callAny (.type "set") _) _ _ _;refine wpAny_pure ⟨Code.quiet_builtin _ (by decide +kernel),codeAny_builtin PySem.F.entry_type_call ?_⟩
 rw[Around.under_plain (weight_type_call_type "set" [.ref l] []) rfl];have h1:=PySem.F.called_set.notType;have h2:=PySem.F.called_set.canCreate;have hct:=PySem.F.typeCall_set_1 (.ref l)
 repeat (any_goals (first | assumption | wp_step))
 obtain⟨led,hled⟩:∃led:Bool,led=cZ w:=⟨_,rfl⟩;refine codeAny_mono (lL (.ref l) (E:=E) (Q1:=fun obj s1=>obj = .ref s.heap.objs.size/\s1={ s with heap:=s.heap.push { cls:=.type "set",dict:=none,data:=.set #[] 0 (.fresh 0 0 led) } }) ⟨rfl,by rw[hled]⟩) fun r s1 hr=>?_
 cases r with
 | error e=>exact hr
 | ok fl =>
  cases fl with
  | ret obj =>
   obtain⟨rfl,rfl⟩:=hr;have hS:(s.heap.push { cls:=.type "set",dict:=none,data:=.set #[] 0 (.fresh 0 0 led) }).get? s.heap.objs.size=some { cls:=.type "set",dict:=none,data:=.set #[] 0 (.fresh 0 0 led) }:=Heap.get?_push_size _ rfl;have hT:Shared.TypeIs { s with heap:=s.heap.push { cls:=.type "set",dict:=none,data:=.set #[] 0 (.fresh 0 0 led) } } (.ref s.heap.objs.size) "set":=⟨_,hS,rfl⟩
   have hli:=PySem.F.called_set.init.lookup;have hbi:=PySem.F.called_set.init.bind (.ref s.heap.objs.size)
   repeat (any_goals (first | assumption | wp_step))
   refine codeAny_mono (codeAny_call_builtin (R:=wants (fun r s2=>r = .none/\∃h' tk,s2={ s with heap:=h',toks:=tk } ∧
    SetTB prog w (cZ w) h' s.heap.objs.size (fun y=>(firstMet (fun i=>b2i (cs.getD i false)) items.size).any (· == y)) (firstMet (fun i=>b2i (cs.getD i false)) items.size).length ∧
    (∀b o,b < s.heap.objs.size->s.heap.get? b=some o->h'.get? b=some o)) E) PySem.F.called_set.init.plain PySem.F.entry_set_init (check_set_init_1 hT ?_)) fun r2 s2 hr2=>?_
   . obtain⟨ol,hol,hcl,nl,hdl⟩:=hl;obtain⟨ocls,odict,odata,oslots⟩:=ol;simp only at hcl hdl;subst hcl;subst hdl;have hol':(s.heap.push { cls:=.type "set",dict:=none,data:=.set #[] 0 (.fresh 0 0 led) }).get? l=some { cls:=.type "list",dict:=odict,data:=.seq items nl,slots:=oslots }:=Heap.get?_push_of_some _ hol;have hsls:=PySem.F.sub_list_set;have hslf:=PySem.F.sub_list_frozenset;have hne:(Value.type "list" == Value.type "dict")=false:=by decide
     have hl1:(s.heap.push { cls:=.type "set",dict:=none,data:=.set #[] 0 (.fresh 0 0 led) }).IsList l items:=⟨_,hol',rfl,nl,rfl⟩;unfold Builtin.«set.__init__» noKeywords Builtin.Frozenset.updateFrom;generalize hPI:pyIter=PI
     wp_walk
     subst hPI;refine wpAny_pyIter_list hl1 ?_;refine wpAny_bind (wpAny_runValue ?_);have hlS:l < s.heap.objs.size:=Heap.lt_size hol;have hh3:A.in1.in1.in1.handled=none:=by simp[hh]
     have hneI:l≠(s.heap.push { cls:=.type "set",dict:=none,data:=.set #[] 0 (.fresh 0 0 led) }).objs.size:=by
      rw[Heap.size_push];exact Nat.ne_of_lt (Nat.lt_succ_of_lt hlS)
     have hSf:s.heap.objs.size∉[(s.heap.push { cls:=.type "set",dict:=none,data:=.set #[] 0 (.fresh 0 0 led) }).objs.size,l]:=by
      rw[Heap.size_push];simp only[List.mem_cons,List.mem_singleton,List.not_mem_nil,or_false,not_or];exact⟨Nat.ne_of_lt (Nat.lt_succ_self _),Nat.ne_of_gt hlS⟩
     have hval:∀(i:Nat) (v:Value),items[i]? = some v->∃c:Bool,v = .bool c/\b2i c=(fun i=>b2i (cs.getD i false)) i:=fun i v hv=>by
      rw[←Array.getElem?_toList,hi,List.getElem?_map]at hv;cases e:cs[i]? with
      | none=>rw[e]at hv;cases hv
      | some c=>rw[e]at hv;exact⟨c,(Option.some.inj hv).symm,by show b2i c=b2i (cs.getD i false);rw[List.getD_eq_getElem?_getD,e];rfl⟩
     refine fill_tB (L:=cZ w) ((Walks.list hh3 _ l hneI items).toS) s.heap.objs.size hSf (fun i=>b2i (cs.getD i false)) hval hb (items.size - 0) 0 _ (by omega) (Nat.zero_le _)
      ⟨⟨_,Heap.get?_push_size _ rfl,rfl,rfl⟩,(hl1.push _)⟩ ?hS0 ?hR
     case hS0 =>
      have hget:((s.heap.push { cls:=.type "set",dict:=none,data:=.set #[] 0 (.fresh 0 0 led) }).push { cls:=.type "list_iterator",data:=.fields #[.ref l,.int 0 0] }).get? s.heap.objs.size=some { cls:=.type "set",dict:=none,data:=.set #[] 0 (.fresh 0 0 led) }:=Heap.get?_push_of_some _ hS;refine⟨_,#[],0,.fresh 0 0 led,hget,⟨rfl,rfl,rfl⟩,rfl,fun e he=>by simp at he,fun k=>?_,by decide,by rfl,rfl,hled,List.Pairwise.nil⟩
      show(false=true)<->_;simp
     case hR =>
      intro s' hm hS';obtain⟨h',g',d',tk',os'⟩:=s';have eg:g'=s.gens:=hm.gens;have ed:d'=s.drawn:=hm.drawn;have eo:os'=s.os:=hm.os;subst eg;subst ed;subst eo;show wpAny _ _ _ _ _ _;refine wpAny_pure ?_;show wpAny _ _ (ret Value.none) _ _ _;refine wpAny_pure ⟨rfl,h',tk',rfl,hS',fun b o hb e=>?_⟩;have hb1:b≠s.heap.objs.size:=Nat.ne_of_lt hb;have hb2:b≠(s.heap.push { cls:=.type "set",dict:=none,data:=.set #[] 0 (.fresh 0 0 led) }).objs.size:=by
       rw[Heap.size_push];exact Nat.ne_of_lt (Nat.lt_succ_of_lt hb)
      exact hm.heap b o (by simp only[List.mem_cons,List.mem_singleton,List.not_mem_nil,or_false,not_or];exact⟨hb1,hb2⟩) (Heap.get?_push_of_some _ (Heap.get?_push_of_some _ e))
   . cases r2 with
     | error e=>exact hr2
     | ok fl2 =>
      cases fl2 with
      | ret r =>
       obtain⟨rfl,h',tk,rfl,hS',hk'⟩:=hr2
       repeat (any_goals (first | assumption | wp_step))
       exact h _ _ hS' hk'
      | _=>exact hr2.elim
  | _=>exact hr.elim
end
section
variable {X:Cx}
def d4 (cs:List Bool):Nat:=(firstMet (fun i=>b2i (cs.getD i false)) cs.length).length
def tLenSetB (K:PySem.W.Frag)(te:TE):TE:=fun σ H Q=>te σ H fun x H1=>∃(p:Addr) (cs:List Bool),x = .ref p/\SqL K H1 p (cs.map V.bl)/\cs.length≤100/\Q (.int (d4 cs)) H1
theorem kt:∀{cs:List Bool} {us:List Value},Vals (cs.map V.bl) us->us=cs.map Value.bool
 | [],_,.nil=>rfl
 | c::cs,_,.cons r t=>by cases r;rw[kt t];rfl
theorem pe_lensetB (K:PySem.W.Frag){e:Expr}{te:TE}{p1 p2 pos pos2:Pos}(hc:X.calm=true)(hg1:Gl X "len")(hm1:X.mg "len" = none)(hg2:Gl X "set")(hm2:X.mg "set" = none)(he:PE X e te)(hK:X.K=K:=by rfl)
 (s1:starEach [e] X.env=[(false,eval e X.env)]:=by rfl) (s2:starEach [.Call (.Name "set" p2) [e] [] pos2] X.env=[(false,eval (.Call (.Name "set" p2) [e] [] pos2) X.env)]:=by rfl) :
 PE X (.Call (.Name "len" p1) [.Call (.Name "set" p2) [e] [] pos2] [] pos) (tLenSetB K te):=by
 subst hK;intro pins s σ H Q I h;refine wpAny_Call_Name_kw (bY I hg1 hm1 PySem.boot_len ?_ (by decide) (by decide))
 refine PyProof.Rows.callWith_builtin1 ?_ (by rw[s2];rfl) rfl
 rw[s2];refine Calls.spliced_cons ?_;refine wpAny_Call_Name_kw (bY I hg2 hm2 PyProof.Rows.boot_set ?_ (by decide) (by decide))
 refine PyProof.Rows.callWith_type1 ?_ (by rw[s1];rfl) rfl
 rw[s1];refine Calls.spliced_cons (thn (he pins s σ H _ I h) fun v s3 ⟨x,H1,I1,r1,q1⟩=>Calls.spliced_nil ?_);obtain⟨p,cs,rfl,hp,hl,q⟩:=q1;cases r1;obtain⟨its,rv,pl,hz⟩:=I1.list hp;have ei:=kt rv;subst ei;have sc:(100:Nat)+1 < scanBound:=by decide
 refine call_setTB (cs:=cs) (I1.ok.hd hc) pl.isList (by rw[List.toList_toArray]) (by rw[List.size_toArray,List.length_map];omega) fun h' tk hS hk=>?_
 refine Calls.spliced_nil ?_;obtain⟨o,es,ep,t,ho,hex,hd,_,_,hb,hf,hn,_⟩:=hS;have I2:Inv X pins σ H1 { s3 with heap:=h',toks:=tk }:=I1.kept fun b o e=>hk b o (Heap.lt_size e) e
 refine call_len_set ho hex hd hf (Int.lt_trans (Int.ofNat_lt.mpr hb) (by decide)) ?_
 refine⟨.int _,H1,I2.tok _,⟨_,rfl⟩,?_⟩;rw[hn];have e:(cs.map Value.bool).toArray.size=cs.length:=by rw[List.size_toArray,List.length_map]
 rw[e];exact q
end
end L2
namespace L2
open PySem PySem.Spec PyProof.Rows
theorem slot_si_next:Slot "set_iterator" "__next__" "set_iterator.__next__" :=
 .of (owner:="set_iterator") (n:="__next__") (by rw[typeLookup_type,builtinLookup_eq_fast];kernel_rfl) (by decide +kernel) (by decide +kernel) (by decide +kernel) (by first | exact .inl (by decide +kernel) | exact .inr (by decide +kernel)) (by rw[isSubtype_type];kernel_rfl)
theorem eB:Slot "set_iterator" "__iter__" "set_iterator.__iter__" :=
 .of (owner:="set_iterator") (n:="__iter__") (by rw[typeLookup_type,builtinLookup_eq_fast];kernel_rfl) (by decide +kernel) (by decide +kernel) (by decide +kernel) (by first | exact .inl (by decide +kernel) | exact .inr (by decide +kernel)) (by rw[isSubtype_type];kernel_rfl)
theorem bW:entryFor table "set_iterator.__next__" = some Builtin.«set_iterator.__next__»:=entryFor_of_tree (by kernel_rfl)
theorem entry_si_iter:entryFor table "set_iterator.__iter__" = some Builtin.«dict_keyiterator.__iter__»:=entryFor_alias (id':="dict_keyiterator.__iter__") (by kernel_rfl) rfl (by decide +kernel) (by kernel_rfl)
theorem entry_set_walk:entryFor table "set.__iter__" = some Builtin.«frozenset.__iter__»:=entryFor_alias (id':="frozenset.__iter__") (by kernel_rfl) rfl (by decide +kernel) (by kernel_rfl)
theorem c8 (a:Value):argsOk "set_iterator.__next__" ⟨[a],[]⟩:=by unfold argsOk;kernel_rfl
theorem args_si_iter (a:Value):argsOk "set_iterator.__iter__" ⟨[a],[]⟩:=by unfold argsOk;kernel_rfl
def dc (f:Value)(i:Nat)(a:Addr)(n ep:Nat):Obj:={ cls:=.type "set_iterator",dict:=none,data:=.fields #[f,.int i 0,.ref a,.int n 0,.int ep 0],slots:=#[] }
def SObj (h:Heap)(a:Addr)(es:Array (Int×Value))(ep:Nat)(t:SetTable):Prop:=∃o,h.get? a=some o/\o.ExactSet/\o.data = .set es ep t
theorem SObj.keep {h h':Heap}{a:Addr}{es:Array (Int×Value)}{ep:Nat}{t:SetTable}(x:SObj h a es ep t)(k:∀o,h.get? a=some o->h'.get? a=some o):SObj h' a es ep t:=let ⟨o,ho,r⟩:=x;⟨o,k o ho,r⟩
theorem e7:∀{α:Type} (l:List α) (i:Nat) (x:α),l[i]? = some x->(x::l.eraseIdx i).Perm l
 | _,[],i,x,h=>by simp at h
 | _,y::l,0,x,h=>by
  simp at h;subst h;exact .refl _
 | _,y::l,i+1,x,h=>by
  have h':l[i]? = some x:=by simpa using h
  exact(List.Perm.swap y x _).trans ((e7 l i x h').cons y)
theorem jZ {α:Type}(next:Nat->Nat):∀(fuel k:Nat) (left:List α) (out:Array α),fuel=left.length->(pickOrder.go next fuel k left out).toList.Perm (out.toList++left)
 | 0,k,left,out,e=>by
  have:left=[]:=List.length_eq_zero_iff.mp e.symm;subst this;unfold pickOrder.go;rw[List.append_nil]
 | fuel+1,k,left,out,e=>by
  have hl:next k % left.length < left.length:=Nat.mod_lt _ (by omega)
  have hx:left[next k % left.length]? = some left[next k % left.length]:=List.getElem?_eq_getElem hl;unfold pickOrder.go;rw[hx];dsimp only;have ih:=jZ next fuel (k+1) (left.eraseIdx (next k % left.length)) (out.push left[next k % left.length]) (by rw[List.length_eraseIdx,if_pos hl];omega)
  refine ih.trans ?_;rw[Array.toList_push,List.append_assoc];exact(e7 left _ _ hx).append_left _
theorem pick_perm {α:Type}(next:Nat->Nat)(xs:Array α):(pickOrder next xs).toList.Perm xs.toList:=by
 unfold pickOrder;have:=jZ next xs.size 0 xs.toList #[] (by rw[Array.length_toList])
 simpa using this
section
variable {prog:Program}{w:World}{A:Around}{E:Value->Shared->Prop}{s:Shared}
theorem choose_any {src:Source}{n:Nat}{Q:Nat->Shared->Prop}(hn:n≠0)(h:∀(i:Nat) (d:Drawn),i < n->Q i { s with drawn:=d }):wpAny (model prog w) A (choose src n) Q E s:=fun Γ p _=>by
 unfold choose;rw[Sem.wp_choose];exact⟨hn,h _ _ (Nat.mod_lt _ (by omega))⟩
theorem jo {α:Type}:∀(n:Nat) (xs:List α) (s:Shared) {Q:List α->Shared->Prop},n=xs.length->(∀(l:List α) (d:Drawn),l.Perm xs->Q l { s with drawn:=d })->wpAny (model prog w) A (drawOrder n xs) Q E s
 | 0,xs,s,Q,e,h=>by
  have:xs=[]:=List.length_eq_zero_iff.mp e.symm;subst this;unfold drawOrder;exact wpAny_pure (h [] s.drawn (.refl _))
 | n+1,[],s,Q,e,h=>by cases e
 | n+1,y::ys,s,Q,e,h=>by
  unfold drawOrder;refine wpAny_bind (choose_any (by simp) fun i d hi=>?_)
  have hx:(y::ys)[i]? = some (y::ys)[i]:=List.getElem?_eq_getElem hi;rw[hx];dsimp only;refine wpAny_bind (jo n ((y::ys).eraseIdx i) _ (by rw[List.length_eraseIdx,if_pos hi];omega) fun l d' p=>?_)
  exact wpAny_pure (h _ _ ((p.cons _).trans (e7 _ i _ hx)))
theorem g7 {α:Type}{Q:α->Shared->Prop}(hh:A.handled=none)(h:∀e h',(∀b o,s.heap.get? b=some o->h'.get? b=some o)->Shared.TypeIs { s with heap:=h' } e "StopIteration"->E e { s with heap:=h' }):wpAny (model prog w) A (newExc (.type "StopIteration") [] >>= fun e=>(raiseNew e:Sem α)) Q E s:=by
 refine wpAny_bind ?_;simp only[newExc,newTuple];refine wpAny_bind (wpAny_newObj_type ?_ (by size_fits))
 refine wpAny_bind (m:=firstArgMember _ _) (wpAny_of_eq (a:=Value.none) (by first | rfl | (simp only[firstArgMember];rfl)) ?_)
 refine wpAny_newObj_type ?_ (by size_fits)
 simp only[raiseNew];refine wpAny_bind (wpAny_handled ?_);rw[hh];refine wpAny_bind (wpAny_pure (wpAny_throw (h _ _ (fun b o e=>Heap.get?_push_of_some _ (Heap.get?_push_of_some _ e)) ?_)));exact⟨_,Heap.get?_push_size _ rfl,rfl⟩
def fh (prog:Program)(w:World)(a:Addr)(es:Array (Int×Value))(ep:Nat)(t:SetTable)(xs:List Value)(sl:Nat->Nat):Prop:=
 ∀(A:Around) (E:Value->Shared->Prop) (s:Shared) (Q:Option (Value×Nat)->Shared->Prop) (i:Nat),i≤xs.length->SObj s.heap a es ep t->Q ((xs[i]?).map fun x=>(x,sl (i+1))) s->wpAny (model prog w) A (setNext a (sl i) i ep) Q E s
theorem si_item {it a:Addr}{es:Array (Int×Value)}{ep i:Nat}{t:SetTable}{xs:List Value}{sl:Nat->Nat}{x:Value}{Q:Option Value->Shared->Prop}(N:fh prog w a es ep t xs sl)(hf:t.fits es.size=true)(ho:s.heap.get? it=some (dc (.int (sl i) 0) i a es.size ep))(hS:SObj s.heap a es ep t)(hx:xs[i]? = some x)(hQ:∀h',h'.get? it=some (dc (.int (sl (i+1)) 0) (i+1) a es.size ep)->Heap.SameBut it s.heap h'->Q (some x) { s with heap:=h' }):wpAny (model prog w) A (pyNext (.ref it)) Q E s:=by
 have hT:s.TypeIs (.ref it) "set_iterator":=⟨_,ho,rfl⟩;obtain⟨o,hoS,hex,hd⟩:=id hS;unfold pyNext;refine wpAny_bind (wpAny_attempt (wpAny_callSpecial?_slot (name:=Str.ofString "__next__") hT slot_si_next (wpAny_call_entry slot_si_next hT bW ?_ (c8 _))));show wpAny _ _ (fieldsOf (.ref it) >>= _) _ _ s;refine wpAny_bind (wpAny_fieldsOf ho rfl ?_);show wpAny _ _ (setEntries a >>= _) _ _ s;refine wpAny_bind (wpAny_setEntries_of hoS hd hf ?_);refine wpAny_ite_split (fun c=>absurd c (by simp)) (fun _=>?_)
 show wpAny _ _ (setNext a (sl i) i ep >>= _) _ _ s;refine wpAny_bind (N _ _ _ _ i (Nat.le_of_lt (List.getElem?_eq_some_iff.mp hx).1) hS ?_);rw[hx];show wpAny _ _ (setField (.ref it) 0 (rawInt (sl (i+1))) >>= _) _ _ s;refine wpAny_bind (wpAny_setField_rec ho (by simp) fun h1 o1 b1=>?_)
 refine wpAny_bind (wpAny_setField_rec o1 (by simp) fun h2 o2 b2=>?_)
 exact wpAny_pure ⟨x,rfl,wpAny_pure (hQ h2 o2 (b1.trans b2))⟩
theorem si_done {it a:Addr}{es:Array (Int×Value)}{ep:Nat}{t:SetTable}{xs:List Value}{sl:Nat->Nat}{Q:Option Value->Shared->Prop}(hh:A.handled=none)(N:fh prog w a es ep t xs sl)(hf:t.fits es.size=true)(ho:s.heap.get? it=some (dc (.int (sl xs.length) 0) xs.length a es.size ep))(hS:SObj s.heap a es ep t)(hQ:∀h',Heap.ExtBut it s.heap h'->Q none { s with heap:=h' }):wpAny (model prog w) A (pyNext (.ref it)) Q E s:=by
 have hT:s.TypeIs (.ref it) "set_iterator":=⟨_,ho,rfl⟩;obtain⟨o,hoS,hex,hd⟩:=id hS;unfold pyNext;refine wpAny_bind (wpAny_attempt (wpAny_callSpecial?_slot (name:=Str.ofString "__next__") hT slot_si_next (wpAny_call_entry slot_si_next hT bW ?_ (c8 _))));show wpAny _ _ (fieldsOf (.ref it) >>= _) _ _ s;refine wpAny_bind (wpAny_fieldsOf ho rfl ?_);show wpAny _ _ (setEntries a >>= _) _ _ s;refine wpAny_bind (wpAny_setEntries_of hoS hd hf ?_);refine wpAny_ite_split (fun c=>absurd c (by simp)) (fun _=>?_)
 show wpAny _ _ (setNext a (sl xs.length) xs.length ep >>= _) _ _ s;refine wpAny_bind (N _ _ _ _ xs.length (Nat.le_refl _) hS ?_);rw[List.getElem?_eq_none (Nat.le_refl _)];show wpAny _ _ (setField (.ref it) 2 .none >>= _) _ _ s;refine wpAny_bind (wpAny_setField_rec ho (by simp) fun h1 o1 b1=>?_)
 refine g7 (A:=A.in1) hh fun e h' k hTe=>?_;refine wpAny_bind (wpAny_isInstance (T:="StopIteration") (b:=true) hTe isSubtype_stop ?_);exact wpAny_pure (hQ _ fun b o hb e=>k b o (b1.extBut b o hb e))
theorem jS {it:Addr}{f:Value}{i n ep:Nat}{a:Addr}{Q:Value->Shared->Prop}(ho:s.heap.get? it=some (dc f i a n ep))(h:Q (.ref it) s):wpAny (model prog w) A (pyIter (.ref it)) Q E s:=by
 have hT:s.TypeIs (.ref it) "set_iterator":=⟨_,ho,rfl⟩;refine wpAny_pyIter_slot hT eB (wpAny_call_entry eB hT entry_si_iter ?_ (args_si_iter _));show wpAny _ _ (ret (.ref it)) _ _ s;exact wpAny_pure ⟨_,rfl,"set_iterator",_,hT,slot_si_next.lookup,h⟩
theorem walks_slot (hh:A.handled=none){I a:Addr}(hne:a≠I){es:Array (Int×Value)}{ep:Nat}{t:SetTable}{xs:List Value}{sl:Nat->Nat}(N:fh prog w a es ep t xs sl)(hf:t.fits es.size=true) :
 Walks prog w A I [I,a] [I] xs.length (fun i v=>xs[i]? = some v) (fun i h=>h.get? I=some (dc (.int (sl i) 0) i a es.size ep)/\SObj h a es ep t) where
 sub:=fun b hb=>by simp at hb;simp[hb]
 frame:=fun _ _ _ st k=>⟨k I (by simp) _ st.1,st.2.keep fun o e=>k a (by simp) o e⟩
 item:=fun i s Q E hi st hQ=>by
  have hx:xs[i]? = some xs[i]:=List.getElem?_eq_getElem hi;refine si_item N hf st.1 st.2 hx fun h' o' b'=>?_;exact hQ _ h' s.toks hx ⟨o',st.2.keep fun o e=>b'.extBut a o hne e⟩ fun b o hb e=>b'.extBut b o (fun z=>hb (by simp[z])) e
 done:=fun s Q E st hQ=>si_done hh N hf st.1 st.2 fun h' k=>hQ h' s.toks fun b o hb e=>k b o (fun z=>hb (by simp[z])) e
 self:=fun _ _ _ _ st h=>jS st.1 h
theorem sd_item {it T a:Addr}{es:Array (Int×Value)}{ep i p:Nat}{t:SetTable}{ps:List Nat}{c:Int}{x:Value}{oT:Obj}{nT:Nat}{Q:Option Value->Shared->Prop}(hf:t.fits es.size=true)(ho:s.heap.get? it=some (dc (.ref T) i a es.size ep))(hS:SObj s.heap a es ep t)(hTo:s.heap.get? T=some oT)(hTd:oT.data = .seq (ps.map fun p=>Value.int (p:Nat) 0).toArray nT)(hp:ps[i]? = some p)(hx:es[p]? = some (c,x))(hQ:∀h',h'.get? it=some (dc (.ref T) (i+1) a es.size ep)->Heap.SameBut it s.heap h'->Q (some x) { s with heap:=h' }):wpAny (model prog w) A (pyNext (.ref it)) Q E s:=by
 have hT:s.TypeIs (.ref it) "set_iterator":=⟨_,ho,rfl⟩;obtain⟨o,hoS,hex,hd⟩:=id hS;have hpl:(ps.map fun p=>Value.int (p:Nat) 0).toArray[i]? = some (Value.int (p:Nat) 0):=by
  rw[List.getElem?_toArray,List.getElem?_map,hp];rfl
 unfold pyNext;refine wpAny_bind (wpAny_attempt (wpAny_callSpecial?_slot (name:=Str.ofString "__next__") hT slot_si_next (wpAny_call_entry slot_si_next hT bW ?_ (c8 _))));show wpAny _ _ (fieldsOf (.ref it) >>= _) _ _ s;refine wpAny_bind (wpAny_fieldsOf ho rfl ?_);show wpAny _ _ (setEntries a >>= _) _ _ s;refine wpAny_bind (wpAny_setEntries_of hoS hd hf ?_);refine wpAny_ite_split (fun c=>absurd c (by simp)) (fun _=>?_)
 show wpAny _ _ (seqItems? (.ref T) >>= _) _ _ s;refine wpAny_bind (wpAny_seqItems hTo hTd ?_);dsimp only;simp only[Int.toNat_natCast,hpl];unfold setNextDrawn;refine wpAny_bind (wpAny_bind (wpAny_setState_of hoS hd hf ?_));dsimp only;refine wpAny_ite_split (fun c=>absurd c (by simp)) (fun _=>?_)
 simp only[Int.toNat_natCast,hx];refine wpAny_pure ?_;refine wpAny_bind (wpAny_setField_rec ho (by simp) fun h1 o1 b1=>?_)
 exact wpAny_pure ⟨x,rfl,wpAny_pure (hQ h1 o1 b1)⟩
theorem sd_done {it T a:Addr}{es:Array (Int×Value)}{ep:Nat}{t:SetTable}{ps:List Nat}{oT:Obj}{nT:Nat}{Q:Option Value->Shared->Prop}(hh:A.handled=none)(hf:t.fits es.size=true)(ho:s.heap.get? it=some (dc (.ref T) ps.length a es.size ep))(hS:SObj s.heap a es ep t)(hTo:s.heap.get? T=some oT)(hTd:oT.data = .seq (ps.map fun p=>Value.int (p:Nat) 0).toArray nT)(hQ:∀h',Heap.ExtBut it s.heap h'->Q none { s with heap:=h' }):wpAny (model prog w) A (pyNext (.ref it)) Q E s:=by
 have hT:s.TypeIs (.ref it) "set_iterator":=⟨_,ho,rfl⟩;obtain⟨o,hoS,hex,hd⟩:=id hS;have hpl:(ps.map fun p=>Value.int (p:Nat) 0).toArray[ps.length]? = none:=by
  rw[List.getElem?_toArray,List.getElem?_map,List.getElem?_eq_none (Nat.le_refl _)];rfl
 unfold pyNext;refine wpAny_bind (wpAny_attempt (wpAny_callSpecial?_slot (name:=Str.ofString "__next__") hT slot_si_next (wpAny_call_entry slot_si_next hT bW ?_ (c8 _))));show wpAny _ _ (fieldsOf (.ref it) >>= _) _ _ s;refine wpAny_bind (wpAny_fieldsOf ho rfl ?_);show wpAny _ _ (setEntries a >>= _) _ _ s;refine wpAny_bind (wpAny_setEntries_of hoS hd hf ?_);refine wpAny_ite_split (fun c=>absurd c (by simp)) (fun _=>?_)
 show wpAny _ _ (seqItems? (.ref T) >>= _) _ _ s;refine wpAny_bind (wpAny_seqItems hTo hTd ?_);dsimp only;simp only[Int.toNat_natCast,hpl];refine wpAny_bind (wpAny_setField_rec ho (by simp) fun h1 o1 b1=>?_)
 refine wpAny_bind (wpAny_setField_rec o1 (by simp) fun h2 o2 b2=>?_)
 refine g7 (A:=A.in1) hh fun e h' k hTe=>?_;refine wpAny_bind (wpAny_isInstance (T:="StopIteration") (b:=true) hTe isSubtype_stop ?_);exact wpAny_pure (hQ _ fun b o hb e=>k b o ((b1.trans b2).extBut b o hb e))
theorem walks_drawn (hh:A.handled=none){I T a:Addr}(hne:a≠I)(hnT:T≠I){es:Array (Int×Value)}{ep:Nat}{t:SetTable}{ps:List Nat}{xs:List Value}(hl:xs.length=ps.length)(hxs:∀(i p:Nat),ps[i]? = some p->∃c x,es[p]? = some (c,x)/\xs[i]? = some x)(hf:t.fits es.size=true) :
 Walks prog w A I [I,a,T] [I] xs.length (fun i v=>xs[i]? = some v) (fun i h=>h.get? I=some (dc (.ref T) i a es.size ep)/\SObj h a es ep t/\∃oT nT,h.get? T=some oT/\oT.data = .seq (ps.map fun p=>Value.int (p:Nat) 0).toArray nT) where
 sub:=fun b hb=>by simp at hb;simp[hb]
 frame:=fun _ _ _ st k=>⟨k I (by simp) _ st.1,st.2.1.keep fun o e=>k a (by simp) o e,let ⟨oT,nT,e1,e2⟩:=st.2.2;⟨oT,nT,k T (by simp) _ e1,e2⟩⟩
 item:=fun i s Q E hi st hQ=>by
  obtain⟨oT,nT,e1,e2⟩:=st.2.2;have hp:ps[i]? = some (ps[i]'(by omega)):=List.getElem?_eq_getElem (by omega)
  obtain⟨c,x,hx,hxi⟩:=hxs i _ hp;refine sd_item hf st.1 st.2.1 e1 e2 hp hx fun h' o' b'=>?_;exact hQ _ h' s.toks hxi ⟨o',st.2.1.keep fun o e=>b'.extBut a o hne e,oT,nT,b'.extBut T _ hnT e1,e2⟩ fun b o hb e=>b'.extBut b o (fun z=>hb (by simp[z])) e
 done:=fun s Q E st hQ=>by
  obtain⟨oT,nT,e1,e2⟩:=st.2.2;have st1:=st.1;rw[hl]at st1;exact sd_done hh hf st1 st.2.1 e1 e2 fun h' k=>hQ h' s.toks fun b o hb e=>k b o (fun z=>hb (by simp[z])) e
 self:=fun _ _ _ _ st h=>jS st.1 h
def slA (t:SetTable)(i:Nat):Nat:=match i with | 0=>0 | i+1=>t.place.getD i 0+1
theorem next_led {a:Addr}{es:Array (Int×Value)}{ep:Nat}{t:SetTable}(hf:t.fits es.size=true)(hbt:w.params.followText "set-order" = false)(ht:bH true t)(hd:(!t.plain&&decide (es.size > 1))=false):fh prog w a es ep t (es.toList.map (·.2)) (slA t):=by
 rintro A E s Q i hi ⟨o,hoS,hex,hdd⟩ q;rw[List.length_map,Array.length_toList]at hi;have hps:t.place.size=es.size:=by
  simp only[SetTable.fits,Bool.and_eq_true,beq_iff_eq,decide_eq_true_eq]at hf;exact hf.1
 have rs:∀k j,k < j->j < t.place.size->∀d,t.place.getD k d < t.place.getD j d:=fun k j h1 h2 d=>by
  rw[cR,cR];exact iw ht.2 h1 (by rw[Array.length_toList];exact h2) d
 have gd:∀k,k < t.place.size->∀d e,t.place.getD k d=t.place.getD k e:=fun k hk d e=>by
  rw[cR,cR,List.getElem?_eq_getElem (by rw[Array.length_toList];exact hk)];rfl
 have hb:SetTable.below t.place (slA t i)=i:=by
  refine below_at ht.2 (by omega) (fun k hk=>?_) (fun hlt=>?_)
  . cases i with
    | zero=>omega
    | succ i =>
     show t.place.getD k _ < t.place.getD i 0+1;rw[gd k (by omega) _ 0]
     by_cases e:k=i
     . rw[e];omega
     . have:=rs k i (by omega) (by omega) 0
       omega
  . cases i with
    | zero=>exact Nat.zero_le _
    | succ i =>
     show t.place.getD i 0+1≤t.place.getD (i+1) _;rw[gd (i+1) hlt _ 0];have:=rs i (i+1) (by omega) hlt 0
     omega
 unfold setNext;refine wpAny_bind (wpAny_setState_of hoS hdd hf ?_);dsimp only;unfold setsByText;refine wpAny_bind (wpAny_bind (wpAny_askSetting (wpAny_pure ?_)));have hbt':(model prog w).w.params.followText "set-order" = false:=hbt;dsimp only;refine wpAny_ite_split (fun c=>absurd (hbt'.symm.trans c) (by decide)) (fun _=>?_)
 refine wpAny_ite_split (fun c=>absurd (hd.symm.trans c) (by decide)) (fun _=>?_)
 refine wpAny_bind ?_;show wpAny _ _ (if (!t.led&&!es.isEmpty)=true then _ else _) _ _ s
 refine wpAny_ite_split (fun c=>absurd c (by rw[ht.1];simp)) (fun _=>wpAny_pure ?_)
 refine wpAny_pure ?_;rw[hb];by_cases hlt:i < es.size
 . have e1:es[i]? = some es[i]:=Array.getElem?_eq_getElem hlt;have e2:t.place[i]? = some (t.place[i]'(by omega)):=Array.getElem?_eq_getElem (by omega)
   rw[e1,e2];dsimp only;have e3:(es.toList.map (·.2))[i]? = some es[i].2:=by rw[List.getElem?_map,Array.getElem?_toList,e1];rfl
   have e4:slA t (i+1)=(t.place[i]'(by omega))+1:=by
    show t.place.getD i 0+1=_;rw[cR,Array.getElem?_toList,e2];rfl
   rw[e3]at q;have q':Q (some (es[i].2,slA t (i+1))) s:=q;rw[e4]at q';exact q'
 . have e1:es[i]? = none:=Array.getElem?_eq_none (by omega)
   have e3:(es.toList.map (·.2))[i]? = none:=by rw[List.getElem?_map,Array.getElem?_toList,e1];rfl
   rw[e3]at q;rw[e1];exact q
theorem next_text {a:Addr}{es:Array (Int×Value)}{ep:Nat}{t:SetTable}(hf:t.fits es.size=true)(hbt:w.params.followText "set-order" = true):fh prog w a es ep t ((pickOrder (w.params.setOrder a ep) es).toList.map (·.2)) (fun _=>0):=by
 rintro A E s Q i hi ⟨o,hoS,hex,hdd⟩ q;have hbt':(model prog w).w.params.followText "set-order" = true:=hbt;unfold setNext;refine wpAny_bind (wpAny_setState_of hoS hdd hf ?_);dsimp only;unfold setsByText;refine wpAny_bind (wpAny_bind (wpAny_askSetting (wpAny_pure ?_)));dsimp only;refine wpAny_ite_split (fun _=>?_) (fun c=>absurd hbt' c);refine wpAny_ite_split (fun c=>absurd c (by simp)) (fun _=>?_)
 refine wpAny_bind ?_;unfold setWalk;refine wpAny_bind (wpAny_setState_of hoS hdd hf ?_);dsimp only;unfold setsByText;refine wpAny_bind (wpAny_bind (wpAny_askSetting (wpAny_pure ?_)));dsimp only;refine wpAny_ite_split (fun _=>?_) (fun c=>absurd hbt' c);refine wpAny_bind (wpAny_askSetting (wpAny_pure ?_));refine wpAny_pure ?_;rw[List.getElem?_map,Array.getElem?_toList]at q;show Q (((pickOrder (w.params.setOrder a ep) es)[i]?).map fun e=>(e.2,0)) s;cases hx:(pickOrder (w.params.setOrder a ep) es)[i]? with
 | none=>rw[hx]at q;exact q
 | some e=>rw[hx]at q;exact q
theorem range_vals (es:Array (Int×Value)):(List.range es.size).map (fun p=>((es[p]?).map (·.2)).getD Value.none)=es.toList.map (·.2):=by
 refine List.ext_getElem? fun i=>?_;rw[List.getElem?_map,List.getElem?_map,show es.toList[i]? = es[i]? from Array.getElem?_toList ..]
 by_cases hi:i < es.size
 . rw[List.getElem?_range hi,Array.getElem?_eq_getElem hi];show some (((es[i]?).map (·.2)).getD Value.none)=_;rw[Array.getElem?_eq_getElem hi];rfl
 . rw[List.getElem?_eq_none (by rw[List.length_range];omega),Array.getElem?_eq_none (by omega)]
   rfl
theorem iter_set {a:Addr}{es:Array (Int×Value)}{ep:Nat}{t:SetTable}{Q:Value->Shared->Prop}(hf:t.fits es.size=true)(ht:bH (cZ w) t)(hz:es.size≤sizeLine)(hS:SObj s.heap a es ep t)(h:∀(I:Addr) (fp:List Addr) (xs:List Value) (St:Nat->Heap->Prop) (h1:Heap) (d1:Drawn),(∀A:Around,A.handled=none->Walks prog w A I fp [I] xs.length (fun i v=>xs[i]? = some v) St)->St 0 h1->I∈fp->(∀b∈fp,b=a∨s.heap.objs.size≤b)->s.heap.objs.size≤I->(∀b o,s.heap.get? b=some o->h1.get? b=some o)->xs.Perm (es.toList.map (·.2))->Q (.ref I) { s with heap:=h1,drawn:=d1 }) :
 wpAny (model prog w) A (pyIter (.ref a)) Q E s:=by
 obtain⟨o,hoS,hex,hd⟩:=id hS;have hT:s.TypeIs (.ref a) "set":=⟨o,hoS,hex.1⟩;have hlt:a < s.heap.objs.size:=Heap.lt_size hoS;refine wpAny_pyIter_slot hT PySem.F.slot_set_iter (wpAny_call_entry PySem.F.slot_set_iter hT entry_set_walk ?_ (PySem.F.args_set_iter_1 _));unfold Builtin.«frozenset.__iter__» Builtin.Frozenset.slot0 slotArgs;simp only[List.isEmpty_nil,Bool.not_true,Bool.false_eq_true,↓reduceIte,bind_assoc,List.length_nil,bne_self_eq_false];unfold Builtin.Frozenset.addrOf Builtin.Frozenset.sizeOf;refine wpAny_bind (wpAny_pure ?_)
 try dsimp only
 refine wpAny_bind (wpAny_pure ?_);refine wpAny_bind (wpAny_bind (wpAny_setEntries_of hoS hd hf (wpAny_pure ?_)));unfold setDrawn setsByText;refine wpAny_bind (wpAny_bind (wpAny_setState_of hoS hd hf ?_));dsimp only;refine wpAny_bind (wpAny_bind (wpAny_askSetting (wpAny_pure ?_)));refine wpAny_pure ?_;refine wpAny_ite_split (fun c=>?_) (fun c=>?_)
 . refine wpAny_bind (jo es.size (List.range es.size) s (by rw[List.length_range]) fun ps d pp=>?_)
   have pl:ps.length=es.size:=by rw[pp.length_eq,List.length_range]
   refine wpAny_bind (wpAny_newTuple ?_ (by rw[List.length_map,pl];exact hz))
   refine wpAny_bind (wpAny_setEpoch_of (Heap.get?_push_of_some _ hoS) hd hf ?_);refine wpAny_bind (wpAny_newObj_type (wpAny_pure ⟨_,rfl,"set_iterator",_,⟨_,Heap.get?_push_size _ rfl,rfl⟩,slot_si_next.lookup,?_⟩));obtain⟨oT,eT⟩:∃oT:Obj,oT={ cls:=.type "tuple",data:=.seq (ps.map fun i=>rawInt (i:Nat)).toArray }:=⟨_,rfl⟩;have hIs:(s.heap.push oT).objs.size=s.heap.objs.size+1:=Heap.size_push ..;have mem:∀p∈ps,p < es.size:=fun p hp=>List.mem_range.mp (pp.mem_iff.mp hp);have xat:∀(i p:Nat),ps[i]? = some p->∃c x,es[p]? = some (c,x)/\(ps.map fun p=>((es[p]?).map (·.2)).getD Value.none)[i]? = some x:=fun i p e=>by
    have hp:=mem p (List.mem_of_getElem? e);refine⟨es[p].1,es[p].2,Array.getElem?_eq_getElem hp,?_⟩;rw[List.getElem?_map,e];show some (((es[p]?).map (·.2)).getD Value.none)=_;rw[Array.getElem?_eq_getElem hp];rfl
   have hoT:(s.heap.push oT).get? s.heap.objs.size=some oT:=Heap.get?_push_size _ (by rw[eT];rfl)
   have key:=h (s.heap.push oT).objs.size [(s.heap.push oT).objs.size,a,s.heap.objs.size] (ps.map fun p=>((es[p]?).map (·.2)).getD Value.none) _ ((s.heap.push oT).push (dc (.ref s.heap.objs.size) 0 a es.size ep)) d
    (fun A hh=>walks_drawn (prog:=prog) (w:=w) (A:=A) (t:=t) (ep:=ep) hh (by rw[hIs];exact Nat.ne_of_lt (Nat.lt_succ_of_lt hlt)) (by rw[hIs];exact Nat.ne_of_lt (Nat.lt_succ_self _)) (List.length_map ..) xat hf)
    ⟨Heap.get?_push_size _ rfl,⟨o,Heap.get?_push_of_some _ (Heap.get?_push_of_some _ hoS),hex,hd⟩,oT,0,Heap.get?_push_of_some _ hoT,by rw[eT];rfl⟩ (by simp) (fun b hb=>?_) (by rw[hIs];exact Nat.le_succ _) (fun b o e=>Heap.get?_push_of_some _ (Heap.get?_push_of_some _ e)) ?_
   . rw[eT]at key;exact key
   . rw[hIs]at hb;simp only[List.mem_cons,List.not_mem_nil,or_false]at hb;rcases hb with z | z | z
     . exact .inr (by rw[z];exact Nat.le_succ _)
     . exact .inl z
     . exact .inr (by rw[z];exact Nat.le_refl _)
   . have e1:=pp.map fun p=>((es[p]?).map (·.2)).getD Value.none;rw[range_vals]at e1;exact e1
 . refine wpAny_bind (wpAny_pure ?_);refine wpAny_bind (wpAny_setEpoch_of hoS hd hf ?_);refine wpAny_bind (wpAny_newObj_type (wpAny_pure ⟨_,rfl,"set_iterator",_,⟨_,Heap.get?_push_size _ rfl,rfl⟩,slot_si_next.lookup,?_⟩));have go:∀(xs:List Value) (sl:Nat->Nat),fh prog w a es ep t xs sl->sl 0=0->xs.Perm (es.toList.map (·.2))->Q (.ref s.heap.objs.size) { s with heap:=s.heap.push (dc (.int 0 0) 0 a es.size ep),drawn:=s.drawn }:=fun xs sl N h0 p=>by
    refine h s.heap.objs.size [s.heap.objs.size,a] xs _ (s.heap.push (dc (.int 0 0) 0 a es.size ep)) s.drawn (fun A hh=>walks_slot (prog:=prog) (w:=w) (A:=A) hh (Nat.ne_of_lt hlt) N hf) ⟨?_,o,Heap.get?_push_of_some _ hoS,hex,hd⟩ (by simp) (fun b hb=>?_) (Nat.le_refl _) (fun b o e=>Heap.get?_push_of_some _ e) p
    . rw[h0];exact Heap.get?_push_size _ rfl
    . simp only[List.mem_cons,List.not_mem_nil,or_false]at hb;rcases hb with z | z
      . exact .inr (by rw[z];exact Nat.le_refl _)
      . exact .inl z
   have c':¬((!w.params.followText "set-order" && (!t.plain&&decide (es.size > 1)))=true):=c;cases hbt:w.params.followText "set-order" with
   | true=>exact go _ _ (next_text hf hbt) rfl ((pick_perm _ es).map _)
   | false =>
    rw[hbt]at c';have hl:cZ w=true:=by unfold cZ;rw[hbt];rfl
    rw[hl]at ht;exact go _ _ (next_led hf hbt ht (by simpa using c')) rfl (.refl _)
theorem hint_set {r:Addr}{Q:Bool->Shared->Prop}(hT:s.TypeIs (.ref r) "set")(h:Q false s):wpAny (model prog w) A (Builtin.List.listLengthHint (.ref r)) Q E s:=by
 unfold Builtin.List.listLengthHint;refine wpAny_bind (wpAny_specialOf hT PySem.F.slot_set_len.lookup ?_);generalize hid:("set.__len__" : String)=id0
 wp_delta
 rw[show splitId id0=some ("set", "__len__")from by subst hid;decide +kernel]
 subst hid;refine wpAny_bind (wpAny_isInstance (T:="set") (b:=true) hT (by rw[isSubtype_type];kernel_rfl) ?_)
 refine wpAny_ite_split (fun z=>absurd z (by decide)) (fun _=>?_)
 refine wpAny_ite_split (fun _=>wpAny_bind (wpAny_typeOf hT (wpAny_pure h))) (fun z=>absurd (by decide +kernel) z)
theorem items_eq {xs:List Value}{acc:Array Value}(h:ItemsOf (fun i v=>xs[i]? = some v) acc xs.length):acc.toList=xs:=by
 refine List.ext_getElem? fun i=>?_;by_cases hi:i < xs.length
 . have hz:i < acc.size:=by rw[h.1];exact hi
   have e:acc[i]? = some acc[i]:=Array.getElem?_eq_getElem hz;rw[Array.getElem?_toList,e,h.2 i _ e]
 . rw[List.getElem?_eq_none (by rw[Array.length_toList,h.1];omega),List.getElem?_eq_none (by omega)]
theorem collect_set {a:Addr}{es:Array (Int×Value)}{ep:Nat}{t:SetTable}{R:List Value->Shared->Prop}(hh:A.handled=none)(hf:t.fits es.size=true)(ht:bH (cZ w) t)(hz:es.size≤sizeLine)(hS:SObj s.heap a es ep t)(h:∀(h':Heap) (tk:Nat) (d:Drawn) (xs:List Value),(∀b o,s.heap.get? b=some o->h'.get? b=some o)->xs.Perm (es.toList.map (·.2))->R xs { s with heap:=h',toks:=tk,drawn:=d }):wpAny (model prog w) A (collect (.ref a)) R E s:=by
 obtain⟨o,hoS,hex,hd⟩:=id hS;have hlt:a < s.heap.objs.size:=Heap.lt_size hoS;unfold collect;refine wpAny_bind (wpAny_runValue (codeAny_builtin PySem.F.entry_proto_collect ?_));rw[Around.under_plainId PySem.F.plain_proto_collect _];show wpAny _ A.in1 (newList [] >>= fun l=>again (.builtin "list.__iadd__" ⟨[l,.ref a],[]⟩)) _ _ s;refine wpAny_bind (wpAny_newObj_type ?_);refine wpAny_pure ⟨plainId_quiet PySem.F.plain_list_iadd _,codeAny_builtin PySem.F.entry_list_iadd ?_⟩;rw[Around.under_plainId PySem.F.plain_list_iadd _];show wpAny _ A.in1 (Builtin.List.listExtendWith (.ref s.heap.objs.size) (.ref a) (.ref s.heap.objs.size)) _ _ _;have hL:(s.heap.push { cls:=.type "list",data:=.seq ([]:List Value).toArray }).get? s.heap.objs.size=some { cls:=.type "list",data:=.seq ([]:List Value).toArray }:=Heap.get?_push_size _ rfl;have kL:∀b o,s.heap.get? b=some o->(s.heap.push { cls:=.type "list",data:=.seq ([]:List Value).toArray }).get? b=some o:=fun b o e=>Heap.get?_push_of_some _ e;have zL:(s.heap.push { cls:=.type "list",data:=.seq ([]:List Value).toArray }).objs.size=s.heap.objs.size+1:=Heap.size_push ..;generalize s.heap.push { cls:=.type "list",data:=.seq ([]:List Value).toArray }=hp at hL kL zL⊢;have hS1:SObj hp a es ep t:=hS.keep fun o e=>kL a o e;unfold Builtin.List.listExtendWith;refine wpAny_bind (wpAny_typeOf (T:="set") ⟨o,kL a o hoS,hex.1⟩ ?_);have g1:Builtin.List.listSameRef (.ref s.heap.objs.size) (.ref a)=false:=by simp[Builtin.List.listSameRef,Nat.ne_of_gt hlt]
 have g2:(Value.type "set" == Value.type "list")=false:=by decide
 have g3:(Value.type "set" == Value.type "tuple")=false:=by decide
 simp only[g1,g2,g3,Bool.or_false,Bool.false_eq_true,if_false];refine wpAny_bind (iter_set (s:={ s with heap:=hp }) hf ht hz hS1 fun I fp xs St h1 d1 W st hI hfp hIs keep pm=>?_)
 have hSf:s.heap.objs.size∉fp:=fun z=>by
  rcases hfp _ z with e | e
  . exact Nat.ne_of_gt hlt e
  . have e':hp.objs.size≤s.heap.objs.size:=e;rw[zL]at e';exact absurd e' (Nat.not_succ_le_self _)
 have hIs':s.heap.objs.size+1≤I:=by rw[←zL];exact hIs
 have xl:xs.length≤sizeLine:=by rw[pm.length_eq,List.length_map,Array.length_toList];exact hz
 have key:∀(h:Heap) (c1:Nat),St 0 h->(∀b o,b≠s.heap.objs.size->h1.get? b=some o->h.get? b=some o)->h.get? s.heap.objs.size=some { cls:=.type "list",data:=.seq #[] c1 }->codeAny (model prog w) A (.builtin "list.extend.loop" ⟨[.ref s.heap.objs.size,.ref I,.ref s.heap.objs.size],[]⟩) (fun r s'=>∃(h':Heap) (tk:Nat) (acc:Array Value) (c':Nat),r = .ok (.ret (.ref s.heap.objs.size))/\s'={ s with heap:=h',toks:=tk,drawn:=d1 }/\(∀b o,s.heap.get? b=some o->h'.get? b=some o)/\h'.get? s.heap.objs.size=some { cls:=.type "list",dict:=none,data:=.seq acc c',slots:=#[] }/\acc.toList=xs) { s with heap:=h,drawn:=d1 }:=by
  intro h c1 st1 k1 hS1;refine codeAny_extend_loopS (W A.in1 hh).toS xl s.heap.objs.size hSf _ xs.length 0 _ #[] c1 rfl (Nat.zero_le _) st1 hS1 (ItemsOf.nil _) fun s' acc' c' hm hS' hacc=>?_;refine⟨s'.heap,s'.toks,acc',c',rfl,?_,fun b o e=>?_,hS',items_eq hacc⟩
  . have:=Moved.eq_with hm;exact this
  . have hb:b < s.heap.objs.size:=Heap.lt_size e;refine hm.heap b o (fun z=>?_) (k1 b o (Nat.ne_of_lt hb) (keep b o (kL b o e)));rcases List.mem_cons.mp z with z | z
    . exact Nat.ne_of_lt hb z
    . rw[List.mem_singleton.mp z]at hb;exact absurd (Nat.lt_of_lt_of_le hb (Nat.le_of_succ_le hIs')) (Nat.lt_irrefl _)
 have fin:∀(r:Result) (s':Shared),(∃(h':Heap) (tk:Nat) (acc:Array Value) (c':Nat),r = .ok (.ret (.ref s.heap.objs.size))/\s'={ s with heap:=h',toks:=tk,drawn:=d1 }/\(∀b o,s.heap.get? b=some o->h'.get? b=some o)/\h'.get? s.heap.objs.size=some { cls:=.type "list",dict:=none,data:=.seq acc c',slots:=#[] }/\acc.toList=xs)->wants (fun v s'=>wpAny (model prog w) A (match v with | .ref a=>(load a >>= fun o=>match o.data with | .seq xs _=>pure xs.toList | _=>unsupported "internal:collect") | _=>unsupported "internal:collect") R E s') E r s':=by
  rintro r s' ⟨h',tk,acc,c',rfl,rfl,k',hS',e⟩;show wpAny _ A (load s.heap.objs.size >>= _) _ _ _;refine wpAny_bind (wpAny_load hS' ?_);refine wpAny_pure ?_;rw[e];exact h h' tk d1 xs k' pm
 refine wpAny_bind (wpAny_holding (hint_set ⟨o,keep a o (kL a o hoS),hex.1⟩ ?_));have hS2:=keep _ _ hL;refine wpAny_ite_split (fun _=>?_) (fun _=>wpAny_pure ⟨plainId_quiet PySem.F.plain_extend_loop _,codeAny_mono (key h1 0 st (fun b o _ e=>e) hS2) fin⟩);refine wpAny_bind (wpAny_rule ?_);refine wpAny_bind ?_;show wpAny _ _ (updateSeq s.heap.objs.size (·.push .none) >>= fun _=>updateSeq s.heap.objs.size (·.pop)) _ _ _;refine wpAny_bind (wpAny_updateSeq hS2 rfl ?_);have hS3:=Heap.get?_update_self (Obj.mapSeq (·.push Value.none)) hS2 rfl;refine wpAny_updateSeq (hz:=by seq_fits) hS3 rfl ?_
 have hS4:=Heap.get?_update_self (Obj.mapSeq (·.pop)) hS3 rfl;refine wpAny_pure ⟨plainId_quiet PySem.F.plain_extend_loop _,codeAny_mono (key _ _ ?_ (fun b o hb e=>?_) hS4) fin⟩
 . refine(W A hh).frame 0 _ _ st fun b hb o e=>?_;have hbS:b≠s.heap.objs.size:=fun z=>hSf (z▸hb);exact(Heap.get?_update_other _ _ (Ne.symm hbS)).trans ((Heap.get?_update_other _ _ (Ne.symm hbS)).trans e)
 . exact(Heap.get?_update_other _ _ (Ne.symm hb)).trans ((Heap.get?_update_other _ _ (Ne.symm hb)).trans e)
end
end L2
namespace L2
open PySem PySem.Spec PyProof.Rows
theorem fc (val:Nat->Int):∀i,(firstMet val i).Nodup
 | 0=>List.nodup_nil
 | i+1=>by
  rw[firstMet_succ];unfold step_dedup;have ih:=fc val i
  split
  . exact ih
  . rename_i h;rw[List.nodup_append];refine⟨ih,List.nodup_cons.mpr ⟨List.not_mem_nil,List.nodup_nil⟩,fun a ha b hb=>?_⟩;rw[List.mem_singleton.mp hb];rintro rfl;exact h (List.any_eq_true.mpr ⟨_,ha,beq_self_eq_true _⟩)
theorem met_mem {ns:List Int}{y:Int}:y∈firstMet (fun i=>ns.getD i 0) ns.length<->y∈ns:=by
 have h:=firstMet_any (fun i=>ns.getD i 0) ns.length y;have e:(List.range ns.length).map (fun i=>ns.getD i 0)=ns:=by
  refine List.ext_getElem? fun i=>?_;rw[List.getElem?_map];by_cases hi:i < ns.length
  . rw[List.getElem?_range hi,List.getElem?_eq_getElem hi];show some (ns.getD i 0)=_;rw[List.getD_eq_getElem?_getD,List.getElem?_eq_getElem hi];rfl
  . rw[List.getElem?_eq_none (by rw[List.length_range];omega),List.getElem?_eq_none (by omega)]
    rfl
 rw[e]at h;have g:∀l:List Int,l.any (· == y)=true<->y∈l:=fun l=>by
  rw[List.any_eq_true];constructor
  . rintro⟨x,hx,q⟩;rw[beq_iff_eq]at q;exact q▸hx
  . exact fun q=>⟨y,q,beq_self_eq_true _⟩
 rw[←g,←g,h]
theorem fw:∀{l m:List Int},l.Nodup->(∀x∈l,x∈m)->m.length=l.length->m.Perm l
 | [],m,_,_,e=>by rw[List.length_eq_zero_iff.mp e]
 | x::l,m,nd,sub,e=>by
  have nd':=List.nodup_cons.mp nd;have hx:=sub x (List.mem_cons_self ..);refine(List.perm_cons_erase hx).trans (.cons x (fw nd'.2 (fun y hy=>?_) ?_))
  . refine(List.mem_erase_of_ne ?_).mpr (sub y (List.mem_cons_of_mem _ hy));rintro rfl;exact nd'.1 hy
  . rw[List.length_erase_of_mem hx,e,List.length_cons];rfl
theorem kg:∀{vs:List Value},(∀v∈vs,∃k t,v=Value.int k t)->∃ks,IntsAre vs ks
 | [],_=>⟨[],.nil⟩
 | v::vs,h=>by
  obtain⟨k,t,rfl⟩:=h v (List.mem_cons_self ..);obtain⟨ks,r⟩:=kg fun u hu=>h u (List.mem_cons_of_mem _ hu);exact⟨k::ks,.cons k t r⟩
theorem jk:∀{vs:List Value} {ks:List Int},IntsAre vs ks->∀{k:Int} {t:Tok},Value.int k t∈vs->k∈ks
 | _,_,.nil,_,_,h=>by cases h
 | _,_,.cons n t' r,k,t,h=>by
  rcases List.mem_cons.mp h with e | e
  . cases e;exact List.mem_cons_self ..
  . exact List.mem_cons_of_mem _ (jk r e)
theorem eK:∀{l:List Int},l.Pairwise (·≤·)->l.Nodup->l.Pairwise (· < ·)
 | [],_,_=>.nil
 | x::l,h,nd=>by
  have h':=List.pairwise_cons.mp h;have nd':=List.nodup_cons.mp nd;refine List.pairwise_cons.mpr ⟨fun y hy=>?_,eK h'.2 nd'.2⟩;have:=h'.1 y hy;have ne:x≠y:=by rintro rfl;exact nd'.1 hy
  omega
theorem fG {prog:Program}{w:World}{k:Int}{v:Value}(h:(intKind prog w).is k v=true):∃t,v = .int k t:=Value.isInt_shape h
section
variable {X:Cx}{pins:List (Addr×Obj)}{σ:St}{H:Hp}{s:Shared}
theorem Inv.drw (I:Inv X pins σ H s)(d:Drawn):Inv X pins σ H { s with drawn:=d }:=⟨I.ok,I.os,I.bare,I.base,I.loc,I.cell,I.free,I.freeC,I.pin,I.hok,I.len⟩
end
section
variable {X:Cx}
def tSortSet (K:PySem.W.Frag)(te:TE):TE:=fun σ H Q=>te σ H fun x H1=>∃(p:Addr) (ns:List Int),x = .ref p/\SqL K H1 p (ns.map V.int)/\ns.length < 60/\∀(l:Addr) (zs:List Int),H1 l=none->zs.Pairwise (· < ·)->(∀x,x∈zs<->x∈ns)->Q (.ref l) (upd H1 l (.lst (zs.map V.int)))
theorem pe_sortset (K:PySem.W.Frag){e:Expr}{te:TE}{p1 p2 pos pos2:Pos}(hc:X.calm=true)(hg1:Gl X "sorted")(hm1:X.mg "sorted" = none)(hg2:Gl X "set")(hm2:X.mg "set" = none)(he:PE X e te)(hK:X.K=K:=by rfl)
 (s1:starEach [e] X.env=[(false,eval e X.env)]:=by rfl) (s2:starEach [.Call (.Name "set" p2) [e] [] pos2] X.env=[(false,eval (.Call (.Name "set" p2) [e] [] pos2) X.env)]:=by rfl) :
 PE X (.Call (.Name "sorted" p1) [.Call (.Name "set" p2) [e] [] pos2] [] pos) (tSortSet K te):=by
 subst hK;intro pins s σ H Q I h;refine wpAny_Call_Name_kw (bY I hg1 hm1 boot_sorted ?_ (by decide) (by decide))
 refine PyProof.Rows.callWith_builtin1 ?_ (by rw[s2];rfl) rfl
 rw[s2];refine Calls.spliced_cons ?_;refine wpAny_Call_Name_kw (bY I hg2 hm2 PyProof.Rows.boot_set ?_ (by decide) (by decide))
 refine PyProof.Rows.callWith_type1 ?_ (by rw[s1];rfl) rfl
 rw[s1];refine Calls.spliced_cons (thn (he pins s σ H _ I h) fun v s3 ⟨x,H1,I1,r1,q1⟩=>Calls.spliced_nil ?_);obtain⟨p,ns,rfl,hp,hl,q⟩:=q1;cases r1;obtain⟨its,rv,pl,hz⟩:=I1.list hp;have hi:=e6 rv;have hil:=hi.length;have sc:(200:Nat)+1 < scanBound:=by decide
 refine call_setT (I1.ok.hd hc) pl.isList (by simpa using hi) (by rw[List.size_toArray];omega) fun h1 tk1 hS hk1=>?_
 refine Calls.spliced_nil ?_;have e0:its.toArray.size=ns.length:=by rw[List.size_toArray];omega
 rw[e0]at hS;obtain⟨o,es,ep,t,ho,hex,hd,hel,hmem,hb,hf,hn,ht⟩:=hS;have I2:Inv X pins σ H1 { s3 with heap:=h1,toks:=tk1 }:=I1.kept fun b o e=>hk1 b o (Heap.lt_size e) e
 have hv:∀v∈es.toList.map (·.2),∃k t,v=Value.int k t:=fun v hv=>by
  obtain⟨e,hm,rfl⟩:=List.mem_map.mp hv;obtain⟨⟨k,hk,_⟩,_⟩:=hel e hm;obtain⟨t,et⟩:=fG hk;exact⟨k,t,et⟩
 have mz:(firstMet (fun i=>ns.getD i 0) ns.length).length≤ns.length:=firstMet_length_le _ _;have esz:es.size < 60:=by rw[hn];omega
 refine Calls.call_function_entry kind_sorted plain_sorted entry_sorted (args_sorted1 _) ?_;unfold Builtin.«sorted»;refine wpAny_bind (m:=checkCount "sorted" 1 1 _) (wpAny_pure ?_);refine wpAny_bind (collect_set (A:=X.A.in1) (I2.ok.hd hc) hf ht (Nat.le_of_lt (Nat.lt_of_lt_of_le esz (by decide))) ⟨o,ho,hex,hd⟩ fun h2 tk2 d2 xs hk2 pm=>?_)
 have I3:Inv X pins σ H1 { s3 with heap:=h2,toks:=tk2,drawn:=d2 }:=(I2.kept (t':=tk2) hk2).drw d2
 have xl:xs.length=es.size:=by rw[pm.length_eq,List.length_map,Array.length_toList]
 obtain⟨ks,hks⟩:=kg (vs:=xs) fun v hvv=>hv v (pm.mem_iff.mp hvv);have kl:ks.length=es.size:=by rw[←hks.length,xl]
 have kp:ks.Perm (firstMet (fun i=>ns.getD i 0) ns.length):=by
  refine fw (fc _ _) (fun y hy=>?_) (by rw[kl,hn])
  obtain⟨e,hm,hke⟩:=(hmem y).mp (List.any_eq_true.mpr ⟨y,hy,beq_self_eq_true _⟩);obtain⟨t,et⟩:=fG hke;refine jk hks (t:=t) (pm.mem_iff.mpr ?_);rw[←et];exact List.mem_map.mpr ⟨e,hm,rfl⟩
 have h64:xs.length < 64:=by rw[xl];omega
 refine wpAny_bind (wpAny_newList ?_ (Nat.le_of_lt (Nat.lt_of_lt_of_le h64 (by decide))))
 have hoL:(h2.push (seqObj "list" xs.toArray 0)).get? h2.objs.size=some (seqObj "list" xs.toArray 0):=Heap.get?_push_size _ rfl;refine wpAny_bind (wpAny_holding (wpAny_call_entry slot_list_sort ⟨_,hoL,rfl⟩ entry_list_sort (list_sort_any hoL hks h64 fun out zs a1 a2 a3=>⟨_,rfl,?_⟩) (args_list_sort _)));refine wpAny_pure ⟨_,rfl,?_⟩;obtain⟨c,hc2⟩:=sortedHeap_at (out:=out) hoL;have zp:=a2.trans kp;have hlen:zs.length≤sizeLine:=by rw[zp.length_eq];exact Nat.le_of_lt (Nat.lt_of_lt_of_le (Nat.lt_of_le_of_lt mz hl) (by decide))
 refine⟨.ref h2.objs.size,_,I3.laid (t':=tk2) (a:=h2.objs.size) (o:=.lst (zs.map V.int)) (fun b u e'=>?_) (Nat.le_refl _) ⟨by rw[List.length_map];exact hlen,out.toList,c,dB a1,by rw[Array.toArray_toList];exact hc2⟩,rfl,q _ zs (I3.hok.fresh (Nat.le_refl _)) (eK a3 (zp.nodup_iff.mpr (fc _ _))) fun y=>zp.mem_iff.trans met_mem⟩
 have hb':b < h2.objs.size:=Heap.lt_size e';rw[sortedHeap_old (Nat.ne_of_lt hb') (by rw[Heap.size_push];exact Nat.lt_succ_of_lt hb')]
 exact Heap.get?_push_of_some _ e'
end
end L2
namespace L2
open PySem PySem.Spec PyProof.Rows Tw
open PySem.W (tabObj CodeHd kla_obj kla_fn envX)
section
variable {X:Cx}{pins:List (Addr×Obj)}{σ:St}{H:Hp}{s:Shared}
def ItIs (o:Obj)(l:Addr)(j:Nat):Prop:=o.cls = .type "list_iterator"/\o.data = .fields #[.ref l,.int j 0]
theorem FpOk.more {D:Addr}{p:Addr×Obj}(f:FpOk X pins H D)(h:p.1≠D):FpOk X (p::pins) H D:=⟨f.1,f.2.1,f.2.2.1,f.2.2.2.1,f.2.2.2.2.1,fun q hq=>by
 rcases List.mem_append.mp hq with hq | hq
 . exact f.2.2.2.2.2 q (List.mem_append_left _ hq)
 . rcases List.mem_cons.mp hq with rfl | hq
   . exact h
   . exact f.2.2.2.2.2 q (List.mem_append_right _ hq)⟩
theorem FpOk.pinc {D:Addr}{o:Obj}(f:FpOk X pins H D)(I:Inv X pins σ H s)(e:s.heap.get? D=some o)(hd:∀v,o.data≠.cell v):Inv X ((D,o)::pins) σ H s:=f.pin I e hd fun p hp=>by
 rcases List.mem_cons.mp hp with rfl | hp
 . exact .inl rfl
 . exact .inr hp
theorem Inv.unpin {p:Addr×Obj}(I:Inv X (p::pins) σ H s):Inv X pins σ H s:=I.pins_of fun q hq=>I.pin q (List.mem_append_right _ (.tail _ hq))
end
end L2
namespace L2
open PySem PySem.Spec PyProof.Rows Tw
open PySem.W (tabObj CodeHd kla_obj kla_fn envX)
section
variable {X:Cx}{pins:List (Addr×Obj)}{σ:St}{H:Hp}{s:Shared}
end
end L2
namespace L2
open PySem PySem.Spec PyProof.Rows Tw
open PySem.W (tabObj CodeHd kla_obj kla_fn envX)
section
variable {X:Cx}{pins:List (Addr×Obj)}{σ:St}{H:Hp}{s:Shared}
def BestGt (xs:List V)(kf:V->Int)(B:Array Value)(j:Nat):Prop:=(j=0/\B = #[])∨∃(y:V) (u:Value) (t:Tok),B = #[u,.int (kf y) t]/\RelV y u/\y∈xs.take j/\∀z∈xs.take j,kf z≤kf y
theorem max_kd (a v d:Value):argsOk "max" ⟨[a],[(Str.ofString "key",v),(Str.ofString "default",d)]⟩:=by unfold argsOk;kernel_rfl
theorem max_loop {l It S:Addr}{q:Addr}{xs:List V}{kf:V->Int}{R:Result->Shared->Prop}(hc:X.calm=true)(hl:SqL X.K H l xs){d:Value}{dv:V}(rd:RelV dv d)(hfS:FpOk X pins H S)(hfI:FpOk X pins H It)(hSI:S≠It)(hlI:l≠It)(turn:∀(y:V) (u:Value) (s':Shared) (pins':List (Addr×Obj)),y∈xs->RelV y u->Inv X pins' σ H s'->(∀p∈pins,p∈pins')->wpAny (model X.prog X.w) X.A.in1 (call (.ref q) [u]) (EP X pins' σ fun v H2=>v = .int (kf y)/\H2=H) (fun _ _=>False) s')(hR:∀(y:V) (u:Value) (s':Shared),Inv X pins σ H s'->y∈xs->RelV y u->(∀z∈xs,kf z≤kf y)->R (.ok (.ret u)) s')(hR0:∀(s':Shared),Inv X pins σ H s'->xs=[]->R (.ok (.ret d)) s'):∀(r j:Nat) (s:Shared) (B:Array Value) (c:Nat) (oI:Obj),xs.length - j=r->j≤xs.length->BestGt xs kf B j->ItIs oI l j->Inv X ((S,seqObj "list" B c)::(It,oI)::pins) σ H s->codeAny (model X.prog X.w) X.A (.builtin "max.loop" ⟨[.ref It,.ref q,.ref S],[(Str.ofString "default",d)]⟩) R s:=by
 have hname:(toString "max" ++ toString ".loop" : String) = "max.loop":=by decide
 intro r
 induction r with
 | zero =>
  intro j s B c oI hr hj hB hI J;have hin:j=xs.length:=by omega
  subst hin;have nS:=(J.pin (S,seqObj "list" B c) (List.mem_append_right _ (.head _))).1;have nI:=(J.pin (It,oI) (List.mem_append_right _ (.tail _ (.head _)))).1;obtain⟨its,rv,pl,hz⟩:=J.list hl;have il:=rv.length;rcases hB with⟨e,rfl⟩ | ⟨y,u,t,rfl,ry,hy,hmin⟩
  . have ex:xs=[]:=List.eq_nil_of_length_eq_zero (by omega)
    refine codeAny_builtin PySem.F.entry_max_loop ?_;rw[Around.under_plainId PySem.F.plain_max_loop _];show wpAny _ X.A.in1 (seqItems? (.ref S) >>= _) _ _ _;refine wpAny_bind (wpAny_seqItems nS rfl ?_);show wpAny _ X.A.in1 (tryCatch (pyNext (.ref It)) _ >>= _) _ _ _;refine wpAny_bind (wpAny_tryCatch (wpAny_pyNext_list_end (J.ok.hd hc) ⟨oI,nI,hI.1,hI.2⟩ pl.isList (by rw[List.getElem?_toArray,List.getElem?_eq_none (by omega)]) fun h' he=>?_))
    have J0:Inv X pins σ H s:=(J.unpin).unpin;have J1:Inv X pins σ H { s with heap:=h',toks:=s.toks }:=J0.turned (it:=It) (fun b o hb e=>he b o hb e) hfI.1 hfI.2.1 hfI.2.2.2.1 hfI.2.2.2.2.1 hfI.2.2.2.2.2
    exact wpAny_bind (wpAny_rule (wpAny_pure (hR0 _ J1 ex)))
  refine codeAny_builtin PySem.F.entry_max_loop ?_;rw[Around.under_plainId PySem.F.plain_max_loop _];show wpAny _ X.A.in1 (seqItems? (.ref S) >>= _) _ _ _;refine wpAny_bind (wpAny_seqItems nS rfl ?_);show wpAny _ X.A.in1 (tryCatch (pyNext (.ref It)) _ >>= _) _ _ _;refine wpAny_bind (wpAny_tryCatch (wpAny_pyNext_list_end (J.ok.hd hc) ⟨oI,nI,hI.1,hI.2⟩ pl.isList (by rw[List.getElem?_toArray,List.getElem?_eq_none (by omega)]) fun h' he=>?_))
  have J0:Inv X pins σ H s:=(J.unpin).unpin;have J1:Inv X pins σ H { s with heap:=h',toks:=s.toks }:=J0.turned (it:=It) (fun b o hb e=>he b o hb e) hfI.1 hfI.2.1 hfI.2.2.2.1 hfI.2.2.2.2.1 hfI.2.2.2.2.2
  have nS':=he S _ hSI nS;have s1:=Heap.SameBut.update h' S (Obj.mapSeq fun _=>(#[]:Array Value));show wpAny _ X.A.in1 (updateSeq S (fun _=>#[]) >>= _) _ _ _;refine wpAny_bind ?_;refine wpAny_updateSeq nS' rfl (wpAny_bind (wpAny_letGo (wpAny_pure ?_)));rw[List.take_length]at hy hmin;exact hR y u _ (J1.turned (it:=S) (t':=s.toks) (fun b o hb e=>(s1.2 b hb).trans e) hfS.1 hfS.2.1 hfS.2.2.2.1 hfS.2.2.2.2.1 hfS.2.2.2.2.2) hy ry hmin
 | succ r ih =>
  intro j s B c oI hr hj hB hI J;have hlt:j < xs.length:=by omega
  have nS:=(J.pin (S,seqObj "list" B c) (List.mem_append_right _ (.head _))).1;have nI:=(J.pin (It,oI) (List.mem_append_right _ (.tail _ (.head _)))).1;obtain⟨its,rv,pl,hz⟩:=J.list hl;have il:=rv.length;obtain⟨y,hy⟩:∃y,xs[j]? = some y:=⟨_,List.getElem?_eq_getElem hlt⟩;obtain⟨u,hu,ry⟩:=rv.get hy;have hym:=List.mem_of_getElem? hy;have etk:xs.take (j+1)=xs.take j++[y]:=by rw[List.take_add_one,hy];rfl
  refine codeAny_builtin PySem.F.entry_max_loop ?_;rw[Around.under_plainId PySem.F.plain_max_loop _];show wpAny _ X.A.in1 (seqItems? (.ref S) >>= _) _ _ _;refine wpAny_bind (wpAny_seqItems nS rfl ?_);show wpAny _ X.A.in1 (tryCatch (pyNext (.ref It)) _ >>= _) _ _ _;refine wpAny_bind (wpAny_tryCatch (wpAny_pyNext_list_item ⟨oI,nI,hI.1,hI.2⟩ pl.isList (by rw[List.getElem?_toArray];exact hu) fun h' hit' hs'=>?_))
  obtain⟨oI',hoI',hoc,hod⟩:=hit';have J0:Inv X pins σ H s:=(J.unpin).unpin;have J1:Inv X pins σ H { s with heap:=h',toks:=s.toks }:=J0.turned (it:=It) (fun b o hb e=>(hs'.2 b hb).trans e) hfI.1 hfI.2.1 hfI.2.2.2.1 hfI.2.2.2.2.1 hfI.2.2.2.2.2
  have nS1:h'.get? S=some (seqObj "list" B c):=(hs'.2 S hSI).trans nS;have J2:Inv X ((It,oI')::pins) σ H { s with heap:=h',toks:=s.toks }:=hfI.pinc J1 hoI' (fun v z=>by rw[hod]at z;cases z)
  have J3:Inv X ((S,seqObj "list" B c)::(It,oI')::pins) σ H { s with heap:=h',toks:=s.toks }:=(hfS.more (p:=(It,oI')) hSI.symm).pinc J2 nS1 (fun v z=>by cases z)
  have key:wpAny (model X.prog X.w) X.A.in1 (call (.ref q) [u]) (EP X ((S,seqObj "list" B c)::(It,oI')::pins) σ fun v H2=>v = .int (kf y)/\H2=H) (fun _ _=>False) { s with heap:=h',toks:=s.toks }:=turn y u _ _ hym ry J3 fun p hp=>.tail _ (.tail _ hp)
  have stepK:∀(Q':Value->Shared->Prop) (E':Value->Shared->Prop),(∀(t2:Tok) (s2:Shared),Inv X ((S,seqObj "list" B c)::(It,oI')::pins) σ H s2->Q' (.int (kf y) t2) s2)->wpAny (model X.prog X.w) X.A.in1 (call (.ref q) [u]) Q' E' { s with heap:=h' }:=fun Q' E' hq=>by
   refine wpAny_mono key (fun v s2 he=>?_) fun _ _ z=>z.elim;obtain⟨vv,H',J4,rvv,rfl,rfl⟩:=he;obtain⟨t2,rfl⟩:=rvv;exact hq t2 s2 J4
  have again2:∀{s2:Shared} {w2:Value} {k2:Value} {c2:Nat},Inv X ((S,seqObj "list" B c)::(It,oI')::pins) σ H s2->Heap.SameBut S s2.heap (s2.heap.update S (Obj.mapSeq fun _=>#[w2,k2]))->(s2.heap.update S (Obj.mapSeq fun _=>#[w2,k2])).get? S=some (seqObj "list" #[w2,k2] c2) →
   Inv X ((S,seqObj "list" #[w2,k2] c2)::(It,oI')::pins) σ H { s2 with heap:=s2.heap.update S (Obj.mapSeq fun _=>#[w2,k2]),toks:=s2.toks }:=fun J4 s1 hc2=>by
   have f':=hfS.more (p:=(It,oI')) hSI.symm;exact f'.pinc ((J4.unpin).turned (it:=S) (fun b o hb e=>(s1.2 b hb).trans e) f'.1 f'.2.1 f'.2.2.2.1 f'.2.2.2.2.1 f'.2.2.2.2.2) hc2 (fun v z=>by cases z)
  rcases hB with⟨e0,rfl⟩ | ⟨yb,ub,tb,rfl,rb,hyb,hmin⟩
  . subst e0;show wpAny _ X.A.in1 (tryCatch (holding [u] (call (.ref q) [u])) _ >>= _) _ _ _;refine wpAny_bind (wpAny_tryCatch (wpAny_holding (stepK _ _ fun t2 s2 J4=>?_)));have nS2:=(J4.pin (S,seqObj "list" #[] c) (List.mem_append_right _ (.head _))).1;have nI2:=(J4.pin (It,oI') (List.mem_append_right _ (.tail _ (.head _)))).1;have s1:=Heap.SameBut.update s2.heap S (Obj.mapSeq fun _=>#[u,.int (kf y) t2]);obtain⟨c2,hc2⟩:∃c2,(s2.heap.update S (Obj.mapSeq fun _=>#[u,.int (kf y) t2])).get? S=some (seqObj "list" #[u,.int (kf y) t2] c2):=⟨_,get?_update_seq nS2 fun _=>#[u,.int (kf y) t2]⟩;show wpAny _ X.A.in1 (updateSeq S (fun _=>#[u,.int (kf y) t2]) >>= _) _ _ _;refine wpAny_bind (wpAny_updateSeq nS2 rfl ?_);rw[hname];refine wpAny_pure ⟨plainId_quiet PySem.F.plain_max_loop _,ih 1 _ #[u,.int (kf y) t2] c2 oI' (by omega) (by omega) (.inr ⟨y,u,t2,rfl,ry,?_,fun z hz=>?_⟩) ⟨hoc,hod⟩ (again2 J4 s1 hc2)⟩
    . rw[etk];simp
    . rw[etk]at hz;simp at hz;subst hz;exact Int.le_refl _
  . show wpAny _ X.A.in1 (tryCatch (holding [u] (call (.ref q) [u])) _ >>= _) _ _ _;refine wpAny_bind (wpAny_tryCatch (wpAny_holding (stepK _ _ fun t2 s2 J4=>?_)));have nS2:=(J4.pin (S,seqObj "list" #[ub,.int (kf yb) tb] c) (List.mem_append_right _ (.head _))).1;show wpAny _ X.A.in1 (tryCatch (holding [u,.int (kf y) t2] (richCompare .Gt (.int (kf y) t2) (.int (kf yb) tb) >>= _)) _ >>= _) _ _ _;refine wpAny_bind (wpAny_tryCatch (wpAny_holding (wpAny_bind (CmpOf.ints_gt (prog:=X.prog) (w:=X.w) (A:=X.A.in1) (P:=fun i v=>∃t,v = .int ([kf yb,kf y].getD i 0) t) (fun i=>[kf yb,kf y].getD i 0) (fun i v h=>h) 1 0 _ _ _ _ _ ⟨t2,rfl⟩ ⟨tb,rfl⟩ ?_))));refine wpAny_bind (wpAny_holding (wpAny_truthy_bool ?_));refine wpAny_bind (wpAny_letGo (wpAny_pure ?_));show wpAny _ _ (if decide (kf y > kf yb)=true then _ else _) _ _ _
    by_cases hb':kf y > kf yb
    . have s1:=Heap.SameBut.update s2.heap S (Obj.mapSeq fun _=>#[u,.int (kf y) t2]);obtain⟨c2,hc2⟩:∃c2,(s2.heap.update S (Obj.mapSeq fun _=>#[u,.int (kf y) t2])).get? S=some (seqObj "list" #[u,.int (kf y) t2] c2):=⟨_,get?_update_seq nS2 fun _=>#[u,.int (kf y) t2]⟩;simp only[hb',decide_true,if_true];refine wpAny_bind ?_;refine wpAny_updateSeq nS2 rfl (wpAny_bind (wpAny_letGo ?_));rw[hname];refine wpAny_pure ⟨plainId_quiet PySem.F.plain_max_loop _,ih (j+1) _ #[u,.int (kf y) t2] c2 oI' (by omega) (by omega) (.inr ⟨y,u,t2,rfl,ry,?_,fun z hz=>?_⟩) ⟨hoc,hod⟩ (again2 J4 s1 hc2)⟩
      . rw[etk];simp
      . rw[etk]at hz;rcases List.mem_append.mp hz with hz | hz
        . have:=hmin z hz;omega
        . rw[List.mem_singleton.mp hz];exact Int.le_refl _
    . simp only[hb',decide_false,Bool.false_eq_true,if_false];refine wpAny_bind (wpAny_letGo ?_);rw[hname];refine wpAny_pure ⟨plainId_quiet PySem.F.plain_max_loop _,ih (j+1) _ _ c oI' (by omega) (by omega) (.inr ⟨yb,ub,tb,rfl,rb,?_,fun z hz=>?_⟩) ⟨hoc,hod⟩ J4⟩
      . rw[etk];exact List.mem_append_left _ hyb
      . rw[etk]at hz;rcases List.mem_append.mp hz with hz | hz
        . exact hmin z hz
        . rw[List.mem_singleton.mp hz];omega
theorem max_key {l q:Addr}{xs:List V}{kf:V->Int}{Q:VK}{E:Value->Shared->Prop}(hc:X.calm=true)(I:Inv X pins σ H s)(hl:SqL X.K H l xs){d:Value}{dv:V}(rd:RelV dv d)(turn:∀(y:V) (u:Value) (s':Shared) (pins':List (Addr×Obj)),y∈xs->RelV y u->Inv X pins' σ H s'->(∀p∈pins,p∈pins')->wpAny (model X.prog X.w) X.A.in1 (call (.ref q) [u]) (EP X pins' σ fun v H2=>v = .int (kf y)/\H2=H) (fun _ _=>False) s')(h:∀y∈xs,(∀z∈xs,kf z≤kf y)->Q y H)(h0:xs=[]->Q dv H):wpAny (model X.prog X.w) X.A (call (.builtin "max") [.ref l] [(Str.ofString "key",.ref q),(Str.ofString "default",d)]) (EP X pins σ Q) E s:=by
 have hname:(toString "max" ++ toString ".loop" : String) = "max.loop":=by decide
 obtain⟨its,rv,pl,hz⟩:=I.list hl;obtain⟨ol,hol,_⟩:=id pl.isList;have hll:l < s.heap.objs.size:=Heap.lt_size hol;refine kmk_tree PySem.F.kind_max PySem.F.plain_max PySem.F.entry_max (max_kd _ _ _) ?_;show wpAny _ X.A.in1 (Builtin.Builtins.bindParams "max" ["key", "default"] 0 ⟨[],[(Str.ofString "key",.ref q),(Str.ofString "default",d)]⟩ >>= _) _ _ s;refine wpAny_bind (wpAny_of_eq (show Builtin.Builtins.bindParams "max" ["key", "default"] 0 ⟨[],[(Str.ofString "key",.ref q),(Str.ofString "default",d)]⟩=pure [some (.ref q),some d]from rfl) ?_)
 refine wpAny_bind (wpAny_pure ?_);refine wpAny_bind (wpAny_pyIter_list pl.isList ?_);refine wpAny_bind (wpAny_newList ?_ (Nat.zero_le _));rw[hname];have hS:(s.heap.push { cls:=.type "list_iterator",data:=.fields #[.ref l,.int 0 0] }).objs.size=s.heap.objs.size+1:=size_push' ..;have gI:((s.heap.push { cls:=.type "list_iterator",data:=.fields #[.ref l,.int 0 0] }).push (seqObj "list" #[] 0)).get? s.heap.objs.size=some { cls:=.type "list_iterator",data:=.fields #[.ref l,.int 0 0] }:=
  Heap.get?_push_of_some _ (Heap.get?_push_size _ rfl)
 have gS:((s.heap.push { cls:=.type "list_iterator",data:=.fields #[.ref l,.int 0 0] }).push (seqObj "list" #[] 0)).get? (s.heap.push { cls:=.type "list_iterator",data:=.fields #[.ref l,.int 0 0] }).objs.size=some (seqObj "list" #[] 0):=Heap.get?_push_size _ rfl;have fI:FpOk X pins H s.heap.objs.size:=I.fpOk (Nat.le_refl _) (I.hok.fresh (Nat.le_refl _));have fS:FpOk X pins H (s.heap.push { cls:=.type "list_iterator",data:=.fields #[.ref l,.int 0 0] }).objs.size:=I.fpOk (by omega) (I.hok.fresh (by omega))
 have I1:Inv X pins σ H { s with heap:=(s.heap.push { cls:=.type "list_iterator",data:=.fields #[.ref l,.int 0 0] }).push (seqObj "list" #[] 0),toks:=s.toks }:=I.kept fun b o e=>Heap.get?_push_of_some _ (Heap.get?_push_of_some _ e)
 have hSI:(s.heap.push { cls:=.type "list_iterator",data:=.fields #[.ref l,.int 0 0] }).objs.size≠s.heap.objs.size:=by omega
 have I2:=fI.pinc I1 gI (fun v z=>by cases z)
 have I3:=(fS.more hSI.symm).pinc I2 gS (fun v z=>by cases z)
 refine wpAny_pure ⟨plainId_quiet PySem.F.plain_max_loop _,?_⟩;exact max_loop (xs:=xs) (kf:=kf) hc hl rd fS fI hSI (Nat.ne_of_lt hll) turn (fun y u s' J hy ry hm=>⟨y,H,J,ry,h y hy hm⟩) (fun s' J e=>⟨dv,H,J,rd,h0 e⟩) _ 0 _ #[] 0 _ rfl (Nat.zero_le _) (.inl ⟨rfl,rfl⟩) ⟨rfl,rfl⟩ I3
def tMaxKey (K:PySem.W.Frag)(P:Addr)(q:Str)(te tb td:TE):TE:=fun σ H Q=>te σ H fun v H1=>∃(a:Addr) (xs:List V) (qs:Array Value) (kf:V->Int),v = .ref a/\SqL K H1 a xs/\H1 P=some (.tbl qs)/\qOf qs=q ∧
 (∀H2,Same H1 H2->∀y∈xs,∀Qv:VK,Qv (.int (kf y)) H2->tb (σ++[some y]) H2 Qv) ∧
 ∀H2,Same H1 H2->td σ H2 fun dv H3=>H3=H2/\(∀y∈xs,(∀z∈xs,kf z≤kf y)->Q y H2)/\(xs=[]->Q dv H2)
theorem pe_maxKey (K:PySem.W.Frag){e dd:Expr}{te tb td:TE}{params:Arguments}{body:Expr}{scope:Scope}{lpos kpos kp2 p pos:Pos}{q x:Str}{M1:List Str}{P:Addr}{k:Nat}(L:LamOk X params body scope q x M1 P tb)(hr:Room (k+3) X.A)(hg:Gl X "max")(hm:X.mg "max" = none)(ha:PE X e te)(hd:PE X dd td)(hK:X.K=K:=by rfl)(hc:X.calm=true:=by rfl)
 (he:starEach [e] X.env=[(false,eval e X.env)]:=by rfl) :
 PE X (.Call (.Name "max" p) [e] [⟨some "key",.Lambda params body scope lpos,kpos⟩,⟨some "default",dd,kp2⟩] pos) (tMaxKey K P q te tb td):=by
 subst hK;intro pins s σ H Q I h;refine wpAny_Call_Name_kw (bY I hg hm PyProof.Rows.boot_max ?_ (by decide) (by decide))
 refine callWith_builtin_kwB (by rw[he];rfl) rfl (evalArgs_kw2 rfl ?_ (by rw[he];rfl))
 rw[he];refine Calls.spliced_cons (thn (ha pins s σ H _ I h) fun v s1 ⟨xv,H1,I1,r1,q1⟩=>Calls.spliced_nil ?_);obtain⟨a,xs,qs,kf,rfl,hl,hP,hq,key,done⟩:=q1;cases r1;refine kwAll_cons ?_;obtain⟨c,ec,C⟩:=L.tab.ex;obtain⟨clos,hcl,h1,h2⟩:=kr (scope:=scope) (env:=X.env) fun y hy hk=>I1.ok.has y.1 (L.nm.cap y hy hk);subst hq;refine ji I1 hP L.qual ec (C _ I1.mod.kin) L.dflt hcl fun f c' ctv s2 H2 I2 sm ho hf hge hlt hc'=>?_;have ff:FpOk X pins H2 f:=I1.fpOk hge hf;have I3:Inv X ((f,kla_obj "<lambda>" (qOf qs) params body scope clos ((X.mg "__name__").getD .none) c' ctv)::pins) σ H2 s2:=ff.pinc I2 ho (fun v z=>by cases z)
 refine kwAll_cons (thn (hd _ s2 σ H2 _ I3 (done H2 sm)) fun dv s3 ⟨dx,H3,I4,rd,e3,q3,q4⟩=>kwAll_nil ?_);subst e3;refine wpAny_mono (max_key (Q:=Q) (kf:=kf) (q:=f) (d:=dv) (dv:=dx) hc I4 (sq_same hl sm) rd (fun y u s' pins' hy ry J sub=>?_) q3 q4) (fun v s' ⟨vv,H',J,r,qq⟩=>⟨vv,H',J.unpin,r,qq⟩) fun _ _ z=>z;exact key_call J J.env0.in1 hr.in1 (sub _ (.head _)) hc' L.sc L.nm h1 h2 (L.bind _ _ _ _ _) ry (L.body _ _ _ _ _ _ _) (key _ sm y hy _ ⟨rfl,rfl⟩)
end
end L2
namespace Tw
open PySem L2
theorem eP:∀{m:Nat} {P A B C:List Int},ShortT m A->ShortT m B->ShortT m C->encT m A≤encT m B->encT m B≤encT m C->P <+: A->P <+: C->P <+: B
 | _,[],_,_,_,_,_,_,_,_,_,_=>List.nil_prefix
 | m,x::P,A,B,C,hA,hB,hC,h1,h2,pa,pc=>by
  obtain⟨A',rfl⟩:=pa;obtain⟨C',rfl⟩:=pc;cases m with
  | zero=>exact absurd hA.1 (by simp)
  | succ m =>
   have l1:=dq hB hA;have l2:=dq hC hB;rw[decide_eq_false (by omega)]at l1 l2
   cases B with
   | nil =>
    have:lexB [] (x::P++A')=true:=rfl;rw[this]at l1;cases l1
   | cons y B =>
    have l1':(if y=x then lexB B (P++A')else decide (y < x))=false:=l1
    have l2':(if x=y then lexB (P++C') B else decide (x < y))=false:=l2
    have e:x=y:=by
     apply Classical.byContradiction;intro ne;rw[if_neg (fun h=>ne h.symm)]at l1';rw[if_neg ne]at l2';have:=of_decide_eq_false l1';have:=of_decide_eq_false l2';omega
    subst e;have e1:(x+1)*25 ^ m+encT m (P++A')≤(x+1)*25 ^ m+encT m B:=h1;have e2:(x+1)*25 ^ m+encT m B≤(x+1)*25 ^ m+encT m (P++C'):=h2;have hA':ShortT m (P++A'):=ShortT.tail (x:=x) hA;have hC':ShortT m (P++C'):=ShortT.tail (x:=x) hC;have ih:=eP (P:=P) hA' (ShortT.tail hB) hC' (by omega) (by omega) (List.prefix_append _ _) (List.prefix_append _ _)
    exact(List.prefix_cons_inj x).mpr ih
theorem h9:∀{a b:List Int},lexB a b=false->lexB b a=false->a=b
 | [],[],_,_=>rfl
 | [],_::_,h,_=>by cases h
 | _::_,[],_,h=>by cases h
 | x::a,y::b,h1,h2=>by
  have h1:(if x=y then lexB a b else decide (x < y))=false:=h1
  have h2:(if y=x then lexB b a else decide (y < x))=false:=h2
  by_cases c:x=y
  . subst c;rw[if_pos rfl]at h1 h2;rw[h9 h1 h2]
  . rw[if_neg c]at h1;rw[if_neg (fun q=>c q.symm)]at h2;have:=of_decide_eq_false h1;have:=of_decide_eq_false h2;omega
open PyProof.Rows (b2i) in
def dg (A:List Int)(x:Int):Int:=12*b2i (decide (x∈A))+x
theorem dg_bd {A:List Int}{x:Int}(h:0≤x/\x < 12):0≤dg A x/\dg A x < 24:=by
 have:=gL (decide (x∈A));unfold dg;omega
theorem ly {A:List Int}{x y:Int}(hx:0≤x/\x < 12)(hy:0≤y/\y < 12)(e:dg A x=dg A y):x=y:=by
 have:=gL (decide (x∈A));have:=gL (decide (y∈A));unfold dg at e;omega
def Pl12 (l:List Int):Prop:=∀x∈l,0≤x/\x < 12
theorem dZ {A:List Int}:∀{a b:List Int},Pl12 a->Pl12 b->a.map (dg A)=b.map (dg A)->a=b
 | [],[],_,_,_=>rfl
 | [],_::_,_,_,h=>by cases h
 | _::_,[],_,_,h=>by cases h
 | x::a,y::b,ha,hb,h=>by
  rw[List.map_cons,List.map_cons]at h;injection h with h1 h2
  rw[ly (ha x (by simp)) (hb y (by simp)) h1,dZ (fun z hz=>ha z (List.mem_cons_of_mem _ hz)) (fun z hz=>hb z (List.mem_cons_of_mem _ hz)) h2]
theorem pre_dg {A P B:List Int}(hP:Pl12 P)(hB:Pl12 B)(h:P.map (dg A) <+: B.map (dg A)):P <+: B:=by
 have e:=List.prefix_iff_eq_take.mp h;rw[List.length_map,←List.map_take]at e;have:=dZ hP (fun z hz=>hB z (List.mem_of_mem_take hz)) e;rw[this];exact List.take_prefix _ _
theorem gR {A B:List Int}(hl:B.length≤12)(h:Pl12 B):ShortT 12 (B.map (dg A)):=⟨by rw[List.length_map];exact hl,fun x hx=>by
 obtain⟨y,hy,rfl⟩:=List.mem_map.mp hx;exact dg_bd (h y hy)⟩
theorem k8 {A:List Int}(hA:Pl12 A):∀{a b:List Int},Pl12 b->(∀x∈a,x∈A)->(∀(i k:Nat) (x:Int),a[i]? = some x->b[k]? = some x->i=k)->(∀x∈b,x∈A->x∈a)->(a <+: b->a=b)->lexB (a.map (dg A)) (b.map (dg A))=false
 | [],[],_,_,_,_,_=>rfl
 | [],y::b,_,_,_,_,h=>by have:=h List.nil_prefix;cases this
 | x::a,[],_,_,_,_,_=>rfl
 | x::a,y::b,hb,ha,hi,hm,h=>by
  show(if dg A x=dg A y then lexB (a.map (dg A)) (b.map (dg A))else decide (dg A x < dg A y))=false
  have hx12:=hA x (ha x (by simp))
  have hy12:=hb y (by simp)
  by_cases c:x=y
  . subst c;rw[if_pos rfl];refine k8 hA (fun z hz=>hb z (List.mem_cons_of_mem _ hz)) (fun z hz=>ha z (List.mem_cons_of_mem _ hz)) (fun i k z h1 h2=>?_) (fun z hz hzA=>?_) fun q=>?_
    . have:=hi (i+1) (k+1) z (by simpa using h1) (by simpa using h2)
      omega
    . rcases List.mem_cons.mp (hm z (List.mem_cons_of_mem _ hz) hzA)with e | e
      . subst e;obtain⟨k,hk⟩:=List.mem_iff_getElem?.mp hz;have:=hi 0 (k+1) z (by simp) (by simpa using hk)
        omega
      . exact e
    . have:=h ((List.prefix_cons_inj x).mpr q);injection this
  . rw[if_neg (fun q=>c (ly hx12 hy12 q))];have ny:y∉A:=fun q=>by
     rcases List.mem_cons.mp (hm y (by simp) q)with e | e
     . exact c e.symm
     . obtain⟨k,hk⟩:=List.mem_iff_getElem?.mp e;have:=hi (k+1) 0 y (by simpa using hk) (by simp)
       omega
    refine decide_eq_false ?_;unfold dg;rw[decide_eq_true (ha x (by simp)),decide_eq_false ny]
    show ¬12*1+x < 12*0+y;omega
section
variable {n:Nat}{rs:List Road}{f:Int->Int->Int}
theorem pl12 (t:Tree n rs){l:List Int}(h:∀x∈l,x∈pl n):Pl12 l:=fun x hx=>by
 have:=mem_pl.mp (h x hx);have:=t.hi;omega
theorem fJ (t:Tree n rs){a b:Int}{ws:List Int}(w:WayOf n rs f a b ws):ws.length≤12:=by
 have:=jc (w.d.nodup t.len) w.rng;have:=t.hi;omega
theorem line_all (t:Tree n rs)(m:Met rs (pl n) f){s:Int}(hs:s∈pl n){W:Int->List Int}(hW:∀x∈pl n,WayOf n rs f s x (W x)){S:List Int}(hS:∀x∈S,x∈pl n){lst:Int}(hl:lst∈S)(mx:∀y∈S,f s y≤f s lst){ys:List Int}(hm:∀x,x∈ys<->x∈S)(srt:ys.Pairwise fun x y=>encT 12 ((W x).map (dg (W lst)))≤encT 12 ((W y).map (dg (W lst)))):ax f (s::ys)=2*((rs.filter (bQ f s ys)).map fun r=>r.2.2).sum - f s lst/\(s::ys).getLast (by simp)=lst:=by
 have hy:∀x∈ys,x∈pl n:=fun x hx=>hS x ((hm x).mp hx);have p12:∀x∈pl n,Pl12 (W x):=fun x hx=>pl12 t (hW x hx).rng;have sh:∀x∈pl n,ShortT 12 ((W x).map (dg (W lst))):=fun x hx=>gR (fJ t (hW x hx)) (p12 x hx);have hlp:=hS lst hl;have top:∀y∈S,lexB ((W lst).map (dg (W lst))) ((W y).map (dg (W lst)))=false:=fun y hyS=>by
  have hyp:=hS y hyS;refine k8 (p12 lst hlp) (p12 y hyp) (fun x hx=>hx) (fun i k x h1 h2=>way_ix t m hs hW hlp hyp h1 h2) (fun x _ hx=>hx) fun pre=>?_;have e1:=(WayOf.mem t m hyp hlp (hW y hyp)).mp (pre.subset (List.mem_of_getElem? (hW lst hlp).last));have:=mx y hyS;have n1:=m.nn lst hlp y hyp;have z:f lst y=0:=by omega
  have e2:y=lst:=Met.zero_eq t m hlp hyp z;rw[e2]
 have last:(s::ys).getLast (by simp)=lst:=by
  have ne:ys≠[]:=fun q=>by
   have:=(hm lst).mpr hl;rw[q]at this;cases this
  rw[List.getLast_cons ne];have hmem:=List.getLast_mem ne;have le:encT 12 ((W lst).map (dg (W lst)))≤encT 12 ((W (ys.getLast ne)).map (dg (W lst))):=by
   have h1:=List.dropLast_concat_getLast ne;have h2:=(hm lst).mpr hl;rw[←h1]at h2 srt;rcases List.mem_append.mp h2 with q | q
   . exact(List.pairwise_append.mp srt).2.2 lst q _ (by simp)
   . rw[List.mem_singleton.mp q];exact Int.le_refl _
  have l1:=top _ ((hm _).mp hmem);have l2:=dq (sh _ (hy _ hmem)) (sh lst hlp);rw[decide_eq_false (by omega)]at l2
  have e:=dZ (p12 _ hlp) (p12 _ (hy _ hmem)) (h9 l1 l2);have a1:=(hW lst hlp).last;have a2:=(hW _ (hy _ hmem)).last;rw[e,a2]at a1;injection a1
 refine⟨?_,last⟩;rw[line_len t m (K:=fun x=>encT 12 ((W x).map (dg (W lst)))) hs hy srt,last];intro r hr x hx y hy' z hz k1 k2 c1 c2;obtain⟨P,hP⟩:=sd_pre t m hs hW hr;have q1:=(hP x (hy x hx)).mp c1;have q2:=(hP z (hy z hz)).mp c2;have pP:Pl12 P:=fun v hv=>p12 x (hy x hx) v (q1.subset hv);exact(hP y (hy y hy')).mpr (pre_dg pP (p12 y (hy y hy')) (eP (sh x (hy x hx)) (sh y (hy y hy')) (sh z (hy z hz)) k1 k2 (List.IsPrefix.map _ q1) (List.IsPrefix.map _ q2)))
end
end Tw
namespace L2
open PySem PySem.Spec PyProof.Rows
section
variable {X:Cx}{tg:Expr}
end
end L2
namespace Tw
open PySem L2
def top (i:Nat):Stmt:=PySem.Challenge.pw_treewells_k74_whole_lines.main.body.getD i (.Pass ⟨0,0,0,0⟩)
abbrev ci:Stmt:=top 7
abbrev cH:Stmt:=top 8
abbrev bB:Stmt:=top 9
abbrev gh:Stmt:=top 10
abbrev cx:Stmt:=top 11
abbrev di:Stmt:=top 12
abbrev cy:Stmt:=top 13
abbrev dP:Stmt:=top 14
abbrev d5:Stmt:=top 15
abbrev fj:Stmt:=top 16
abbrev gc:Stmt:=top 17
abbrev bz:Stmt:=top 19
abbrev d6:Stmt:=top 20
abbrev bT:Stmt:=top 21
abbrev d8:Stmt:=top 23
abbrev fo:Stmt:=top 24
abbrev dW:Stmt:=top 25
abbrev dU:Stmt:=top 26
abbrev bP:Stmt:=top 27
abbrev gf:Stmt:=top 28
abbrev dh:Stmt:=top 29
abbrev cu:Stmt:=top 30
abbrev fm:Stmt:=top 31
abbrev sOn:Stmt:=top 32
abbrev gg:Stmt:=top 33
abbrev d7:Stmt:=top 34
abbrev cw:Stmt:=top 35
abbrev sLaw:Stmt:=top 36
end Tw
namespace Tw
open PySem L2
structure Bi (K:PySem.W.Frag) (mg:Str->Option Value):Prop where
 isinstance:mg "isinstance" = none
 int:mg "int" = none
 bool:mg "bool" = none
 list:mg "list" = none
 len:mg "len" = none
 all:mg "all" = none
 sum:mg "sum" = none
 range:mg "range" = none
 max:mg "max" = none
 min:mg "min" = none
 set:mg "set" = none
 sorted:mg "sorted" = none
 zip:mg "zip" = none
 any:mg "any" = none
 dict:mg "dict" = none
 reversed:mg "reversed" = none
 tuple:mg "tuple" = none
 ii:PySem.W.kitOne K (.type "int") (.type "int")=some true
 ib:PySem.W.kitOne K (.type "int") (.type "bool")=some false
 ll:PySem.W.kitOne K (.type "list") (.type "list")=some true
 bb:PySem.W.kitOne K (.type "bool") (.type "bool")=some true
 tt:PySem.W.kitOne K (.type "tuple") (.type "tuple")=some true
structure Def (K:PySem.W.Frag) (mg:Str->Option Value) (x:Str) (st:Stmt) (ps:List Str) (f:Addr) (fd:FuncData):Prop where
 fn:Fun K x x st f fd
 bn:Binds K fd ps []
 mg:mg x=some (.ref f)
section
variable {P:Program}{w:World}{K:PySem.W.Frag}{mg:Str->Option Value}{base:Heap}
def dE:Sp:=fun vs H Q _=>∃i:Int,vs=[.int i]/\Q (.bl true) H
theorem scWhole:FnScope ["value"] ["value"] (ae ci):=⟨rfl,rfl,rfl,by decide +kernel,rfl,by decide +kernel,by decide +kernel⟩
theorem gz {f:Addr}{fd:FuncData}(F:Def K mg "is_whole" ci ["value"] f fd)(B:Bi K mg):FnOk P w K mg base CX0 1 f fd ["value"] dE:=by
 refine F.fn.ok scWhole (fun vs H Q E h=>?_) (fun cdv A outer s H vs Q E hr h=>?_)
 . obtain⟨i,rfl,_⟩:=h;rfl
 . obtain⟨i,rfl,k⟩:=h;refine⟨_,ah (aB (f8 (aD bX (by rfl) B.isinstance PyProof.Rows.boot_isinstance (a7 (pv 0) (a7 (eG (v:=.ty "int") rfl B.int PyProof.Rows.boot_int rfl) af)))
    (iA (l4 (aD bX (by rfl) B.isinstance PyProof.Rows.boot_isinstance (a7 (pv 0) (a7 (eG (v:=.ty "bool") rfl B.bool PyProof.Rows.boot_bool rfl) af))))))),?_⟩
   refine⟨_,rfl,_,_,_,_,rfl,.int i,B.ii,_,rfl,iteT ?_⟩;exact⟨_,rfl,_,_,_,_,rfl,.int i,B.ib,_,rfl,k⟩
def ip:Sp:=fun vs H Q _=>∃n v:Int,vs=[.int n,.int v]/\Q (.bl (decide (0≤v/\v < n))) H
theorem scPlace:FnScope ["many", "value"] ["many", "value"] (ae cH):=⟨rfl,rfl,rfl,by decide +kernel,rfl,by decide +kernel,by decide +kernel⟩
theorem jb {f fW:Addr}{fd fdW:FuncData}(F:Def K mg "is_place" cH ["many", "value"] f fd)(FW:Def K mg "is_whole" ci ["value"] fW fdW)(B:Bi K mg):FnOk P w K mg base CX0 2 f fd ["many", "value"] ip:=by
 have GW:FnOk P w K mg base CX0 1 fW fdW ["value"] dE:=gz FW B;refine F.fn.ok scPlace (fun vs H Q E h=>?_) (fun cdv A outer s H vs Q E hr h=>?_)
 . obtain⟨n,v,rfl,_⟩:=h;rfl
 . obtain⟨n,v,rfl,k⟩:=h;refine⟨_,ah (aB (f8 (am GW hr rfl FW.mg FW.fn.kp FW.bn .nil aF (a7 (pv 1) af)) (iA (pe_chain op_le j9 ag (pv 1) (pv 0))))),?_⟩;refine⟨_,rfl,v,rfl,_,rfl,iteT ?_⟩;refine⟨_,rfl,_,_,rfl,rfl,_,rfl,iteD (fun h0=>?_) (fun h0=>?_)⟩
   . refine⟨_,rfl,_,_,rfl,rfl,?_⟩;have e:decide (0≤v/\v < n)=decide (v < n):=by simp[h0]
     rw[e]at k;exact k
   . have e:decide (0≤v/\v < n)=false:=by simp[h0]
     rw[e]at k;exact k
def kH:Sp:=fun vs H Q _=>∃(n:Int) (a:Addr) (z:List Int),vs=[.int n,.ref a]/\H a=some (.lst (zV z))/\Q (.bl (bE n z)) H
theorem scRoad:FnScope ["many", "row"] ["many", "row"] (ae gh):=⟨rfl,rfl,rfl,by decide +kernel,rfl,by decide +kernel,by decide +kernel⟩
theorem ok_road {f fW fP:Addr}{fd fdW fdP:FuncData}(F:Def K mg "is_road" gh ["many", "row"] f fd)(FW:Def K mg "is_whole" ci ["value"] fW fdW)(FP:Def K mg "is_place" cH ["many", "value"] fP fdP)(B:Bi K mg):FnOk P w K mg base CX0 3 f fd ["many", "row"] kH:=by
 have GW:FnOk P w K mg base CX0 1 fW fdW ["value"] dE:=gz FW B;have GP:FnOk P w K mg base CX0 2 fP fdP ["many", "value"] ip:=jb FP FW B;refine F.fn.ok scRoad (fun vs H Q E h=>?_) (fun cdv A outer s H vs Q E hr h=>?_)
 . obtain⟨n,a,z,rfl,_⟩:=h;rfl
 . obtain⟨n,a,z,rfl,ha,k⟩:=h;have hr1:Room 1 _:=hr.mono (by decide)
   refine⟨_,ad (bG (PW.pt (ft (aJ gt (aD bS (by rfl) B.len PySem.boot_len (a7 (pv 1) af)) ag (b9 _))
    (eX (dk (dj (am GW hr1 rfl FW.mg FW.fn.kp FW.bn .nil aF (a7 (av bd (pv 1) ag (fun _ _=>rfl)) af))))))) (ah (aB gX)) aQ)
    (ah (aB (f8 (am GP hr rfl FP.mg FP.fn.kp FP.bn .nil aF (a7 (pv 0) (a7 (av bd (pv 1) ag (fun _ _=>rfl)) af)))
      (f8 (am GP hr rfl FP.mg FP.fn.kp FP.bn .nil aF (a7 (pv 0) (a7 (av bd (pv 1) ag (fun _ _=>rfl)) af)))
      (f8 (cD gt (av bd (pv 1) ag (fun _ _=>rfl)) (av bd (pv 1) ag (fun _ _=>rfl)) (b9 _))
      (iA (cD op_ge (av bd (pv 1) ag (fun _ _=>rfl)) ag (b9 _)))))))),?_⟩
   have hl:(zV z).length=z.length:=by unfold zV;simp
   refine⟨_,rfl,a,_,rfl,.inl (SqL.of ha),rfl,_,rfl,?_⟩;by_cases h3:z.length=3
   . obtain⟨x,y,l,rfl⟩:∃x y l,z=[x,y,l]:=by
      match z,h3 with
      | [x,y,l],_=>exact⟨x,y,l,rfl⟩
     have at0:atI (zV [x,y,l]) 0=some (V.int x):=rfl;have at1:atI (zV [x,y,l]) 1=some (V.int y):=rfl;have at2:atI (zV [x,y,l]) 2=some (V.int l):=rfl;refine iteF ?_;refine⟨_,rfl,a,_,_,_,rfl,rfl,SqL.of ha,at2,l,rfl,_,rfl,iteF ?_⟩;refine⟨_,rfl,_,rfl,a,_,_,_,rfl,rfl,SqL.of ha,at0,n,x,rfl,_,rfl,?_⟩;have ek:bE n [x,y,l]=(decide (0≤x/\x < n)&&decide (0≤y/\y < n)&&!decide (x=y)&&decide (1≤l)):=rfl;rw[ek]at k;refine iteB (fun e1=>?_) (fun e1=>?_)
     . rw[e1,Bool.true_and]at k;refine⟨_,rfl,_,rfl,a,_,_,_,rfl,rfl,SqL.of ha,at1,n,y,rfl,_,rfl,iteB (fun e2=>?_) (fun e2=>?_)⟩
       . rw[e2,Bool.true_and]at k;refine⟨_,rfl,a,_,_,_,rfl,rfl,SqL.of ha,at0,_,rfl,a,_,_,_,rfl,rfl,SqL.of ha,at1,rfl,_,rfl,?_⟩;have ev:decide (V.int x=V.int y)=decide (x=y):=by
          by_cases e:x=y
          . subst e;simp
          . simp[e]
         rw[ev];refine iteB (fun e3=>?_) (fun e3=>?_)
         . rw[e3,Bool.true_and]at k;exact⟨_,rfl,a,_,_,_,rfl,rfl,SqL.of ha,at2,_,_,rfl,rfl,k⟩
         . rw[e3,Bool.false_and]at k;exact k
       . rw[e2,Bool.false_and,Bool.false_and]at k;exact k
     . rw[e1,Bool.false_and,Bool.false_and,Bool.false_and]at k;exact k
   . have e:bE n z=false:=by
      unfold bE
      split
      . simp at h3
      . rfl
     rw[e]at k;have e2:(!decide (V.int ((zV z).length:Int)=V.int 3))=true:=by
      rw[hl];have:¬(V.int (z.length:Int)=V.int 3):=fun q=>h3 (by injection q with q;omega)
      rw[decide_eq_false this];rfl
     rw[e2];refine iteT ?_;exact iteT k
end
end Tw
namespace Tw
open PySem L2
section
variable {P:Program}{w:World}{K:PySem.W.Frag}{mg:Str->Option Value}{base:Heap}
theorem near_put {H:Hp}{D:Addr}{ds:List Addr}{n:Nat}{pre:List Road}{r:Road}(h:NearAt H D ds (bv n pre))(nd:ds.Nodup)(v:Valid n r){da db:Addr}(ha:ds[r.1.toNat]? = some da)(hb:ds[r.2.1.toNat]? = some db):NearAt (upd (upd H da (.dK (dV (put (nbOf pre r.1) r.2.1 r.2.2)))) db (.dK (dV (put (nbOf pre r.2.1) r.1 r.2.2)))) D ds (bv n (pre++[r])):=by
 have hl:ds.length=n:=by rw[h.len,bj]
 have a0:=v.a0;have a1:=v.a1;have b0:=v.b0;have b1:=v.b1;have ne:=v.ne;have inj:∀{i j:Nat} {x:Addr},ds[i]? = some x->ds[j]? = some x->i=j:=fun{i j x} e1 e2=>by
  obtain⟨h1,q1⟩:=List.getElem?_eq_some_iff.mp e1;obtain⟨h2,q2⟩:=List.getElem?_eq_some_iff.mp e2;exact(List.getElem_inj nd).mp (q1.trans q2.symm)
 have dD:∀{i:Nat} {x:Addr},ds[i]? = some x->D≠x:=fun{i x} e z=>by
  have hi:i < n:=by rw[←hl];exact(List.getElem?_eq_some_iff.mp e).1
  have q:=h.row i x _ e (bu hi);rw[←z,h.top]at q;cases q
 refine⟨?_,by rw[h.len,bj,bj],fun i p d e1 e2=>?_⟩
 . rw[ac (dD hb),ac (dD ha)];exact h.top
 . have hi:i < n:=by rw[←hl];exact(List.getElem?_eq_some_iff.mp e1).1
   rw[bu hi]at e2;cases e2;rw[gY];have old:=h.row i p _ e1 (bu hi);unfold nb1;by_cases ib:i=r.2.1.toNat
   . have ep:p=db:=by rw[ib,hb]at e1;exact(Option.some.inj e1).symm
     subst ep;have e3:((i:Nat):Int)=r.2.1:=by omega
     rw[a9,e3,if_neg ne,if_pos rfl]
   . have np:p≠db:=fun z=>ib (inj e1 (z▸hb));rw[ac np];by_cases ia:i=r.1.toNat
     . have ep:p=da:=by rw[ia,ha]at e1;exact(Option.some.inj e1).symm
       subst ep;have e3:((i:Nat):Int)=r.1:=by omega
       rw[a9,e3,if_pos rfl]
     . have np2:p≠da:=fun z=>ia (inj e1 (z▸ha));rw[ac np2,if_neg (by omega),if_neg (by omega)]
       exact old
def iq:Sp:=fun vs H Q _=>∃(n:Nat) (a:Addr) (as:List Addr) (rs:List Road),vs=[.int n,.ref a]/\RowsAt H a as (rs.map rowI)/\n≤12/\(∀r∈rs,Valid n r)/\rs.length≤100 ∧
 ∀(D:Addr) (ds:List Addr) (H':Hp),Same H H'->NearAt H' D ds (bv n rs)->Q (.ref D) H'
theorem scNear:FnScope ["many", "roads", "near", "row"] ["many", "roads"] (ae dP):=⟨rfl,rfl,rfl,by decide +kernel,rfl,by decide +kernel,by decide +kernel⟩
theorem az {α:Type}{xs:List α}{i:Int}{v:α}(h0:0≤i)(h:xs[i.toNat]? = some v):atI xs i=some v:=by
 have e:i=((i.toNat:Nat):Int):=by omega
 rw[e];exact dO h
theorem dM {as:List Addr}{i:Nat}{y:V}(h:(as.map V.ref)[i]? = some y):∃p,as[i]? = some p/\y=V.ref p:=by
 rw[List.getElem?_map]at h;cases e:as[i]? with
 | none=>rw[e]at h;cases h
 | some p=>rw[e]at h;exact⟨p,rfl,(Option.some.inj h).symm⟩
theorem c6 {as:List Addr}{i:Nat}{p:Addr}(h:as[i]? = some p):(as.map V.ref)[i]? = some (V.ref p):=by rw[List.getElem?_map,h];rfl
theorem nodup_snoc {l:List Addr}{p:Addr}(h:l.Nodup)(hp:p∉l):(l++[p]).Nodup:=
 List.nodup_append.mpr ⟨h,by simp,fun a ha b hb e=>by
  have:b=p:=by simpa using hb
  exact hp (by rw[←this,←e];exact ha)⟩
theorem iC {f:Addr}{fd:FuncData}(F:Def K mg "neighbours" dP ["many", "roads"] f fd)(B:Bi K mg):FnOk P w K mg base CX0 1 f fd ["many", "roads"] iq:=by
 refine F.fn.ok scNear (fun vs H Q E h=>?_) (fun cdv A outer s H vs Q E hr h=>?_)
 . obtain⟨n,a,as,rs,rfl,_⟩:=h;rfl
 . obtain⟨n,a,as,rs,rfl,hR,hn,hv,hlen,k⟩:=h;have hu:=dy hr;refine⟨_,ad (ix (ae dP).names ["many", "roads", "near", "row"] ["many", "roads", "near", "row", "place"] 2 scNear.nd rfl (Or.inl rfl) (be rfl B.range (a7 (pv 0) af)) (fun _ _ _ _=>bL) (fun _ _ _ _=>j8))
    (ad (bA PassesOwn.never rfl (iy (pv 1)) (ay (i:=3) scNear.nd rfl (Or.inl rfl))
      (ad (dG hu (av bd (pv 2) (av bd (pv 3) ag (fun _ _=>rfl)) (fun _ _=>rfl)) (av bd (pv 3) ag (fun _ _=>rfl)) (av bd (pv 3) ag (fun _ _=>rfl)) rfl)
      (ah (dG hu (av bd (pv 2) (av bd (pv 3) ag (fun _ _=>rfl)) (fun _ _=>rfl)) (av bd (pv 3) ag (fun _ _=>rfl)) (av bd (pv 3) ag (fun _ _=>rfl)) rfl))))
    (ah (aB (pv 2)))),?_⟩
   refine⟨_,rfl,(n:Int),rfl,by omega,by omega,fun D hD=>?_⟩
   rw[Int.toNat_natCast];refine cp (fun i ys H2=>∃ds:List Addr,ys=ds.map V.ref/\ds.length=i/\ds.Nodup/\H2 D=some (.lst ys)/\(∀d∈ds,H2 d=some (.dK [])/\d≠D/\H d=none)/\Same H H2/\i≤n) (fun i ys H2 ⟨_,_,_,_,q,_⟩=>q)
    ⟨[],rfl,rfl,List.nodup_nil,a9,(fun _ z=>nomatch z),aj hD,Nat.zero_le _⟩ ?_ ?_
   . rintro i ys H2 hi ⟨ds,rfl,hl,nd,hDl,hds,sm,hin⟩;refine yesI ?_;intro p hp;have npD:D≠p:=a8 hDl hp;have npd:∀d∈ds,d≠p:=fun d hd=>a8 (hds d hd).1 hp;refine⟨by rw[ac npD];exact hDl,?_,ds++[p],by rw[List.map_append];rfl,by rw[List.length_append,hl];rfl,nodup_snoc nd (fun z=>npd p z rfl),a9,fun d hd=>?_,fun b o e=>?_,hi⟩
     . rw[List.length_map,hl];exact au (by omega)
     . rcases List.mem_append.mp hd with z | z
       . exact⟨by rw[ac (hds d z).2.1,ac (npd d z)];exact(hds d z).1,(hds d z).2⟩
       . have e:d=p:=by simpa using z
         subst e;exact⟨by rw[ac npD.symm,a9],npD.symm,sm.free hp⟩
     . have e2:=sm b o e;have nb:b≠D:=a8 e hD;rw[ac nb,ac (a8 e2 hp)];exact e2
   . rintro ys H2 ⟨ds,rfl,hl,nd,hDl,hds,sm,_⟩;have hN0:NearAt H2 D ds (bv n []):=⟨hDl,by rw[bj];exact hl,fun i p d e1 e2=>by
      have hi:i < n:=by rw[←hl];exact(List.getElem?_eq_some_iff.mp e1).1
      rw[bu hi]at e2;cases e2;exact(hds p (List.mem_of_getElem? e1)).1⟩
     refine⟨_,rfl,a,rfl,⟨_,SqL.of (hR.mono sm).top⟩,d0 (K:=K) (a:=a) (xs:=as.map V.ref) (fun i σ H3=>∃v,σ=[some (.int n),some (.ref a),some (.ref D),v]/\Same H H3/\NearAt H3 D ds (bv n (rs.take i)))
      ⟨none,rfl,sm,hN0⟩ (fun i σ H3 _ ⟨_,_,s3,_⟩=>SqL.of (hR.mono s3).top) ?_ ?_⟩
     . rintro i y σ H3 hi ⟨v,rfl,s3,hN3⟩;obtain⟨p,hp,rfl⟩:=dM hi;have hil:i < rs.length:=by
        have:=(List.getElem?_eq_some_iff.mp hp).1;have l2:=hR.len;rw[List.length_map]at l2;omega
       obtain⟨r,er⟩:∃r,rs[i]? = some r:=⟨rs[i],by simp[hil]⟩
       have V0:=hv r (List.mem_of_getElem? er);have a0:=V0.a0;have a1:=V0.a1;have b0:=V0.b0;have b1:=V0.b1;have ne:=V0.ne;have hrow:H3 p=some (.lst [.int r.1,.int r.2.1,.int r.2.2]):=(hR.mono s3).row i p (rowI r) hp (by rw[List.getElem?_map,er];rfl)
       have hdl:ds.length=n:=hl;obtain⟨da,eda⟩:∃d,ds[r.1.toNat]? = some d:=⟨ds[r.1.toNat]'(by omega),List.getElem?_eq_getElem _⟩
       obtain⟨db,edb⟩:∃d,ds[r.2.1.toNat]? = some d:=⟨ds[r.2.1.toNat]'(by omega),List.getElem?_eq_getElem _⟩
       have ga:(bv n (rs.take i))[r.1.toNat]? = some (nbOf (rs.take i) r.1):=by
        rw[bu (by omega)]
        have:((r.1.toNat:Nat):Int)=r.1:=by omega
        rw[this]
       have gb:(bv n (rs.take i))[r.2.1.toNat]? = some (nbOf (rs.take i) r.2.1):=by
        rw[bu (by omega)]
        have:((r.2.1.toNat:Nat):Int)=r.2.1:=by omega
        rw[this]
       have hda:=hN3.row _ _ _ eda ga;have hdb:=hN3.row _ _ _ edb gb;have ndab:db≠da:=fun z=>by
        obtain⟨h1,q1⟩:=List.getElem?_eq_some_iff.mp eda;obtain⟨h2,q2⟩:=List.getElem?_eq_some_iff.mp edb;have:=(List.getElem_inj nd).mp (q1.trans (z.symm.trans q2.symm));omega
       have npa:p≠da:=l7 hrow hda (by intro z;cases z)
       have nDa:D≠da:=l7 hN3.top hda (by intro z;cases z)
       have sz:∀v,(dV (nbOf (rs.take i) v)).length < sizeLine:=fun v=>by
        rw[cf];have q:=nbOf_length_le (rs.take i) v;have q2:(rs.take i).length≤rs.length:=by rw[List.length_take];omega
        exact au (by omega)
       refine⟨_,rfl,p,_,_,_,rfl,rfl,SqL.of hrow,rfl,_,rfl,_,rfl,p,_,_,_,rfl,rfl,SqL.of hrow,rfl,D,_,_,_,rfl,rfl,SqL.of hN3.top,az a0 (c6 eda),_,rfl,p,_,_,_,rfl,rfl,SqL.of hrow,rfl,da,_,rfl,DPut.k (k:=Sum.inl r.2.1) hda (sz _),?_⟩;have hrow2:(upd H3 da (HO.dK (putK (dV (nbOf (rs.take i) r.1)) (Sum.inl r.2.1:Key) (V.int r.2.2)))) p=some (.lst [.int r.1,.int r.2.1,.int r.2.2]):=by rw[ac npa];exact hrow
       have hD2:(upd H3 da (HO.dK (putK (dV (nbOf (rs.take i) r.1)) (Sum.inl r.2.1:Key) (V.int r.2.2)))) D=some (.lst (ds.map V.ref)):=by rw[ac nDa];exact hN3.top
       have hdb2:(upd H3 da (HO.dK (putK (dV (nbOf (rs.take i) r.1)) (Sum.inl r.2.1:Key) (V.int r.2.2)))) db=some (.dK (dV (nbOf (rs.take i) r.2.1))):=by rw[ac ndab];exact hdb
       refine⟨_,rfl,p,_,_,_,rfl,rfl,SqL.of hrow2,rfl,_,rfl,_,rfl,p,_,_,_,rfl,rfl,SqL.of hrow2,rfl,D,_,_,_,rfl,rfl,SqL.of hD2,az b0 (c6 edb),_,rfl,p,_,_,_,rfl,rfl,SqL.of hrow2,rfl,db,_,rfl,DPut.k (k:=Sum.inl r.1) hdb2 (sz _),?_⟩;refine⟨_,rfl,fun b o e=>?_,?_⟩
       . rw[ac (a8 e (hds db (List.mem_of_getElem? edb)).2.2),ac (a8 e (hds da (List.mem_of_getElem? eda)).2.2)];exact s3 b o e
       . rw[iK,iK,List.take_add_one,er];exact near_put hN3 nd V0 eda edb
     . rintro σ H3 ⟨v,rfl,s3,hN3⟩;refine⟨_,rfl,k D ds H3 s3 ?_⟩;have l2:=hR.len;rw[List.length_map]at l2;rw[List.length_map,l2,List.take_length]at hN3;exact hN3
end
end Tw
namespace Tw
open PySem L2
section
variable {P:Program}{w:World}{K:PySem.W.Frag}{mg:Str->Option Value}{base:Heap}
def fL:Sp:=fun vs H Q _=>∃(n:Nat) (D:Addr) (ds:List Addr) (rs:List Road) (g:Int),vs=[.ref D,.int g]/\NearAt H D ds (bv n rs)/\n≤12/\(∀r∈rs,Valid n r)/\0≤g/\g < n ∧
 ∀(S:Addr) (st:List (Int×Int)) (H':Hp),Same H H'->H S=none->H' S=some (.dK (dV st))->Srch n (nbOf rs) g st.length st->Q (.ref S) H'
theorem scSteps:FnScope ["near", "goal", "steps", "reached", "done", "here", "place"] ["near", "goal"] (ae d5):=⟨rfl,rfl,rfl,by decide +kernel,rfl,by decide +kernel,by decide +kernel⟩
theorem adj_rng {n:Nat}{rs:List Road}(hv:∀r∈rs,Valid n r){q p:Int}(h:p∈(nbOf rs q).map (·.1)):0≤p/\p < n:=by
 obtain⟨r,hr,j⟩:=(c9 rs q p).mp h;have v:=hv r hr;have:=v.a0;have:=v.a1;have:=v.b0;have:=v.b1;rcases j with⟨a,b⟩ | ⟨a,b⟩<;>omega
theorem bM (a:List Int)(x:Int):zV a++[V.int x]=zV (a++[x]):=by unfold zV;rw[List.map_append];rfl
theorem aL {z:List Int}{i:Nat}{x:Int}(h:z[i]? = some x):(zV z)[i]? = some (V.int x):=by unfold zV;rw[List.getElem?_map,h];rfl
theorem ai (z:List Int):(zV z).length=z.length:=by unfold zV;simp
theorem lB {d:List (Int×Int)}{i:Nat}{kv:Key×V}(h:(dV d)[i]? = some kv):∃p q,d[i]? = some (p,q)/\kv=(Sum.inl p,V.int q):=by
 unfold dV at h;rw[List.getElem?_map]at h;cases e:d[i]? with
 | none=>rw[e]at h;cases h
 | some p=>rw[e]at h;exact⟨p.1,p.2,rfl,(Option.some.inj h).symm⟩
theorem bx:∀(m:Nat) (l:List Int),l.Nodup->(∀x∈l,0≤x/\x < m)->l.length≤m:=by
 intro m
 induction m with
 | zero =>
  intro l _ h;cases l with
  | nil=>exact Nat.le_refl _
  | cons x t=>have:=h x (by simp);omega
 | succ m ih =>
  intro l hn h;by_cases hm:((m:Nat):Int)∈l
  . have hp:=List.perm_cons_erase hm;rw[hp.length_eq,List.length_cons];obtain⟨h1,h2⟩:=List.nodup_cons.mp (hp.nodup_iff.mp hn);have:=ih (l.erase (m:Int)) h2 fun x hx=>by
     have b:=h x (List.mem_of_mem_erase hx);have:x≠(m:Int):=fun e=>h1 (e▸hx);omega
    omega
  . have:=ih l hn fun x hx=>by
     have b:=h x hx;have:x≠(m:Int):=fun e=>hm (e▸hx);omega
    omega
theorem Mid.length {n:Nat}{nb:Int->List (Int×Int)}{g:Int}{k i:Nat}{q:Int}{st:List (Int×Int)}(s:Mid n nb g k i q st):st.length≤n:=by
 have:=bx n (st.map (·.1)) s.nd fun x hx=>by
  obtain⟨p,hp,e⟩:=List.mem_map.mp hx;rw[←e];exact s.rng p hp
 simpa using this
theorem gA {f:Addr}{fd:FuncData}(F:Def K mg "steps_to" d5 ["near", "goal"] f fd)(B:Bi K mg):FnOk P w K mg base CX0 1 f fd ["near", "goal"] fL:=by
 refine F.fn.ok scSteps (fun vs H Q E h=>?_) (fun cdv A outer s H vs Q E hr h=>?_)
 . obtain⟨n,D,ds,rs,g,rfl,_⟩:=h;rfl
 . obtain⟨n,D,ds,rs,g,rfl,hN,hn,hv,hg0,hg1,k⟩:=h;have hu:=dy hr;have nd:=scSteps.nd;refine⟨_,ad (ao (i:=2) nd rfl (Or.inl rfl) (k4 (iZ (pv 1) (pv 1) jX) rfl rfl (by simp) (by decide)))
    (ad (ao (i:=3) nd rfl (Or.inl rfl) (aG (a7 (pv 1) af)))
    (ad (ao (i:=4) nd rfl (Or.inl rfl) ag)
    (ad (iY PassesOwn.never (aJ j9 (pv 4) (aD bS (by rfl) B.len PySem.boot_len (a7 (pv 3) af)) (b9 _))
      (ad (ao (i:=5) nd rfl (Or.inl rfl) (av bd (pv 3) (pv 4) (fun _ _=>rfl)))
      (ad (jW (bA PassesOwn.never rfl (k3 (av bd (pv 0) (pv 5) (fun _ _=>rfl))) (ay (i:=6) nd rfl (Or.inl rfl))
        (ah (bG (eZ (dI hu (pv 6) (pv 2)))
          (ad (dG hu (pv 2) (pv 6) (pv 5) rfl)
          (ah (bt (dQ PySem.F.plainAttrs_list PySem.F.slot_list_append PySem.F.type_list_append bN (pv 3) (a7 (pv 6) af)))))
          aQ))))
      (ah (kQ (i:=4) nd rfl (Or.inl rfl) ag lj)))))
    (ah (aB (pv 2)))))),?_⟩
   intro S hS;refine⟨_,rfl,_,rfl,a9,[(Sum.inl g,V.int g)],rfl,by show 1≤15;decide,?_⟩
   have eS:dY [] [((Sum.inl g:Key),V.int g)]=dV [(g,g)]:=rfl;rw[eS];refine⟨_,rfl,by show 1≤sizeLine;exact aV (by decide),fun R hR=>?_⟩
   have nRS:R≠S:=fun z=>by rw[z,a9]at hR;cases hR
   have hR0:H R=none:=by
    rw[ac nRS,ac nRS]at hR;exact hR
   have dl:ds.length=n:=by rw[hN.len,bj]
   refine⟨fun m σ H2=>∃(k:Nat) (st:List (Int×Int)) (v5 v6:Option V),m=n - k/\σ=[some (.ref D),some (.int g),some (.ref S),some (.ref R),some (.int k),v5,v6]/\k≤st.length ∧
    Same H H2/\H2 S=some (.dK (dV st))/\H2 R=some (.lst (zV (st.map (·.1))))/\Srch n (nbOf rs) g k st,⟨n,0,[(g,g)],none,none,rfl,rfl,Nat.zero_le _,?_,?_,?_,Srch.start hg0 hg1⟩,?_⟩
   . intro b o e;rw[ac (a8 e hR0),ac (a8 e hS),ac (a8 e hS)];exact e
   . rw[ac nRS.symm,a9]
   . rw[a9];rfl
   . rintro m σ H2 ⟨k0,st,v5,v6,rfl,rfl,hk,sm,hS2,hR2,sr⟩;refine⟨_,rfl,_,rfl,R,_,rfl,.inl (SqL.of hR2),_,_,rfl,rfl,_,rfl,?_⟩;have hle:=sr.length;refine iteD (fun hlt=>?_) (fun hge=>?_)
     . rw[ai,List.length_map]at hlt;have hlt':k0 < st.length:=by omega
       obtain⟨q,hq⟩:∃q,(st.map (·.1))[k0]? = some q:=⟨(st.map (·.1))[k0]'(by simpa using hlt'),List.getElem?_eq_getElem _⟩
       have hqr:0≤q/\q < n:=by
        have:=List.mem_of_getElem? hq;obtain⟨p,hp,e⟩:=List.mem_map.mp this;rw[←e];exact sr.rng p hp
       obtain⟨d,hd⟩:∃d,ds[q.toNat]? = some d:=⟨ds[q.toNat]'(by omega),List.getElem?_eq_getElem _⟩
       have gq:(bv n rs)[q.toNat]? = some (nbOf rs q):=by
        rw[bu (by omega)]
        have:((q.toNat:Nat):Int)=q:=by omega
        rw[this]
       have hdH:H d=some (.dK (dV (nbOf rs q))):=hN.row _ _ _ hd gq;have hd2:=sm _ _ hdH;have hD2:=sm _ _ hN.top;have nSd:S≠d:=fun z=>by rw[z]at hS;rw[hS]at hdH;cases hdH
       have nRd:R≠d:=fun z=>by rw[z]at hR0;rw[hR0]at hdH;cases hdH
       refine⟨fun σ' H'=>∃(st':List (Int×Int)) (v5 v6:Option V),σ'=[some (.ref D),some (.int g),some (.ref S),some (.ref R),some (.int ((k0:Int)+1)),v5,v6]/\k0+1≤st'.length ∧
        Same H H'/\H' S=some (.dK (dV st'))/\H' R=some (.lst (zV (st'.map (·.1))))/\Srch n (nbOf rs) g (k0+1) st',?_,?_⟩
       . rintro σ' H' ⟨st',v5,v6,rfl,h1,h2,h3,h4,h5⟩;have:=h5.length;exact⟨n - (k0+1),by omega,k0+1,st',v5,v6,rfl,by simp,h1,h2,h3,h4,h5⟩
       . refine⟨_,rfl,_,rfl,R,_,_,_,rfl,rfl,SqL.of hR2,dO (aL hq),?_⟩;refine⟨_,rfl,_,rfl,D,_,_,_,rfl,rfl,SqL.of hD2,az hqr.1 (c6 hd),d,_,rfl,hd2,fun o=>?_⟩;refine jl (fun i σ H4=>∃(st':List (Int×Int)) (v6:Option V),σ=[some (.ref D),some (.int g),some (.ref S),some (.ref R),some (.int k0),some (.int q),v6]/\Mid n (nbOf rs) g k0 i q st' ∧
          H4 S=some (.dK (dV st'))/\H4 R=some (.lst (zV (st'.map (·.1))))/\H4 d=some (.frz o (.dK (dV (nbOf rs q))))/\(∀b u,H b=some u->b≠d->H4 b=some u)) ?_ ?_ ?_ ?_
         . exact⟨st,_,rfl,sr.mid hq,by rw[ac nSd];exact hS2,by rw[ac nRd];exact hR2,a9,fun b u e nb=>by rw[ac nb];exact sm b u e⟩
         . rintro i σ H4 _ ⟨_,_,_,_,_,_,h,_⟩;exact h
         . rintro i kv σ H4 hi ⟨st',v6,rfl,md,hS4,hR4,hd4,sm4⟩;obtain⟨p,l,hpl,rfl⟩:=lB hi;have hp:((nbOf rs q).map (·.1))[i]? = some p:=by rw[List.getElem?_map,hpl];rfl
           have pr:=adj_rng hv (List.mem_of_getElem? hp);have l':st'.length≤n:=md.length;refine⟨_,rfl,_,rfl,S,_,rfl,DGet.k (k:=Sum.inl p) hS4,_,rfl,?_⟩;rw[gG];refine iteN (fun e=>?_) (fun e=>?_)
           . have hnp:p∉st'.map (·.1):=of_decide_eq_false e;refine⟨_,rfl,_,rfl,_,rfl,S,_,rfl,DPut.k (k:=Sum.inl p) hS4 (by rw[cf];exact au (by omega)),?_⟩
             have nRS':R≠S:=nRS;refine⟨_,rfl,.inl ⟨rfl,_,SqL.of (by rw[ac nRS'];exact hR4)⟩,_,rfl,R,_,_,rfl,rfl,by rw[ac nRS'];exact hR4,by rw[ai,List.length_map];exact au (by omega),?_⟩
             refine⟨st'++[(p,q)],_,rfl,md.new hp hnp pr.1 pr.2,?_,?_,?_,?_⟩
             . rw[ac nRS.symm,a9,iK,jV hnp]
             . rw[a9];show some (HO.lst (zV (st'.map (·.1))++[V.int p]))=_;rw[bM,List.map_append];rfl
             . rw[ac nRd.symm,ac nSd.symm];exact hd4
             . intro b u e nb;rw[ac (a8 e hR0),ac (a8 e hS)];exact sm4 b u e nb
           . have hp':p∈st'.map (·.1):=of_decide_eq_true e;exact⟨st',_,rfl,md.old hp hp',hS4,hR4,hd4,sm4⟩
         . rintro σ H4 ⟨st',v6,rfl,md,hS4,hR4,hd4,sm4⟩;refine⟨d,o,_,hd4,(fun o' u' z=>by rw[hd2]at z;cases z),?_⟩
           refine⟨_,rfl,_,_,rfl,rfl,?_⟩;have sd:=md.done (by rw[cf])
           refine⟨st',_,_,rfl,?_,?_,by rw[ac nSd];exact hS4,by rw[ac nRd];exact hR4,sd⟩
           . have:=(List.getElem?_eq_some_iff.mp md.here).1;rw[List.length_map]at this;omega
           . intro b u e;by_cases nb:b=d
             . subst nb;rw[a9,←hdH];exact e.symm▸rfl
             . rw[ac nb];exact sm4 b u e nb
     . rw[ai,List.length_map]at hge;have e:k0=st.length:=by omega
       subst e;exact⟨_,rfl,k S st H2 sm hS hS2 sr⟩
end
end Tw
namespace Tw
open PySem L2
section
variable {P:Program}{w:World}{K:PySem.W.Frag}{mg:Str->Option Value}{base:Heap}
theorem jN {n i:Nat}(h:i < n):(pl n).take (i+1)=(pl n).take i++[(i:Int)]:=by
 rw[List.take_add_one,f6 h];rfl
theorem eJ:∀{rs qs:List Road},rs.map rowI=qs.map rowI->rs=qs
 | [],[],_=>rfl
 | [],_::_,h=>by simp at h
 | _::_,[],h=>by simp at h
 | r::rs,q::qs,h=>by
  rw[List.map_cons,List.map_cons]at h;injection h with h1 h2
  rw[iT h1,eJ h2]
theorem d3 (i j:Int):decide (V.int i=V.int j)=decide (i=j):=by
 by_cases e:i=j
 . subst e;simp
 . simp[e]
theorem IsTree.iff {n:Nat}{rs:List Road}(h1:1≤n)(h2:n≤12)(hl:(rs.length:Int)=n - 1)(hv:∀r∈rs,Valid n r):IsTree n (rs.map rowI)<->Conn n rs:=by
 constructor
 . rintro⟨_,_,_,qs,e,_,c⟩;rw[eJ e];exact c
 . intro c;exact⟨by omega,by omega,by rw[List.length_map];exact hl,rs,rfl,hv,c⟩
def g9:Sp:=fun vs H Q _=>∃(n:Int) (a:Addr) (as:List Addr) (zss:List (List Int)),vs=[.int n,.ref a]/\RowsAt H a as zss/\zss.length≤100 ∧
 ∀(b:Bool) (H':Hp),Same H H'->(b=true<->IsTree n zss)->Q (.bl b) H'
theorem scIsTree:FnScope ["many", "roads"] ["many", "roads"] (ae cx):=⟨rfl,rfl,rfl,by decide +kernel,rfl,by decide +kernel,by decide +kernel⟩
theorem ok_istree {f fW fP fR fN fS:Addr}{fd fdW fdP fdR fdN fdS:FuncData}(F:Def K mg "is_tree" cx ["many", "roads"] f fd)(FW:Def K mg "is_whole" ci ["value"] fW fdW)(FP:Def K mg "is_place" cH ["many", "value"] fP fdP)(FR:Def K mg "is_road" gh ["many", "row"] fR fdR)(FN:Def K mg "neighbours" dP ["many", "roads"] fN fdN)(FS:Def K mg "steps_to" d5 ["near", "goal"] fS fdS)(B:Bi K mg){tm:Tok}(hM:mg "MOST_PLACES" = some (.int 12 tm)):FnOk P w K mg base CX0 4 f fd ["many", "roads"] g9:=by
 have GW:FnOk P w K mg base CX0 1 fW fdW ["value"] dE:=gz FW B;have GR:FnOk P w K mg base CX0 3 fR fdR ["many", "row"] kH:=ok_road FR FW FP B;have GN:FnOk P w K mg base CX0 1 fN fdN ["many", "roads"] iq:=iC FN B;have GS:FnOk P w K mg base CX0 1 fS fdS ["near", "goal"] fL:=gA FS B;refine F.fn.ok scIsTree (fun vs H Q E h=>?_) (fun cdv A outer s H vs Q E hr h=>?_)
 . obtain⟨n,a,as,zss,rfl,_⟩:=h;rfl
 . obtain⟨n,a,as,zss,rfl,hR,hz,k⟩:=h;have hr1:Room 1 _:=hr.mono (by decide)
   refine⟨_,ad (bG (PW.pt (ft (dk (dj (am GW hr1 rfl FW.mg FW.fn.kp FW.bn .nil aF (a7 (pv 0) af))))
    (ft (aJ j9 (pv 0) ag (b9 _)) (eX (aJ op_gt (pv 0) (pe_glob (v:=.int 12) rfl hM ⟨_,rfl⟩) (b9 _)))))) (ah (aB gX)) aQ)
    (ad (bG (PW.pt (ft (aJ gt (aD bS (by rfl) B.len PySem.boot_len (a7 (pv 1) af)) (ak f9 (pv 0) ag) (b9 _))
      (eX (dk (dj (aD (eU rfl) (by rfl) B.all PyProof.Rows.boot_all (a7 (bK (ae cx).names ["many", "roads"] ["many", "roads", "row"] (iy (pv 1)) (fun _ _ _ _=>bL)
        (fun _ _ _ _=>am GR hr rfl FR.mg FR.fn.kp FR.bn .nil aF (a7 (pv 0) (a7 (pv 2) af)))) af))))))) (ah (aB gX)) aQ)
    (ah (aB (cD ja (aD call_lenD (by rfl) B.len PySem.boot_len (a7 (am GS hr1 rfl FS.mg FS.fn.kp FS.bn .nil aF
      (a7 (am GN hr1 rfl FN.mg FN.fn.kp FN.bn .nil aF (a7 (pv 0) (a7 (pv 1) af))) (a7 ag af))) af)) (pv 0) (b9 _))))),?_⟩
   refine⟨_,rfl,n,rfl,_,rfl,iteF ?_⟩;refine⟨_,rfl,_,_,rfl,rfl,_,rfl,?_⟩;refine iteD (fun h1=>?_) (fun h1=>?_)
   . refine iteT ?_;exact k false H (Same.refl H) ⟨(fun z=>nomatch z),fun t=>absurd t.lo (by omega)⟩
   refine⟨_,rfl,_,_,rfl,rfl,_,rfl,?_⟩;refine iteD (fun h2=>?_) (fun h2=>?_)
   . exact k false H (Same.refl H) ⟨(fun z=>nomatch z),fun t=>absurd t.hi (by omega)⟩
   obtain⟨m,rfl⟩:∃m:Nat,n=(m:Int):=⟨n.toNat,by omega⟩
   have m1:1≤m:=by omega
   have m2:m≤12:=by omega
   have len:as.length=zss.length:=hR.len;refine⟨_,rfl,a,_,rfl,.inl (SqL.of hR.top),_,rfl,_,_,rfl,rfl,rfl,_,rfl,?_⟩;rw[d3,List.length_map,len];refine iteN (fun e=>?_) (fun e=>?_)
   . refine iteT ?_;have:=of_decide_eq_false e;exact k false H (Same.refl H) ⟨(fun z=>nomatch z),fun t=>absurd t.len (by omega)⟩
   have hlen:=of_decide_eq_true e;refine⟨_,rfl,a,rfl,⟨_,SqL.of hR.top⟩,fun D hD=>?_⟩;refine bV (K:=K) (a:=a) (xs:=as.map V.ref) (fun i ys H2=>ys=((zss.take i).map (bE m)).map V.bl/\H2 D=some (.lst ys)/\Same H H2) ?_ ?_ ?_ ?_
   . rintro i ys H2 ⟨_,h2,sm⟩;exact⟨h2,SqL.of (sm _ _ hR.top)⟩
   . exact⟨rfl,a9,aj hD⟩
   . rintro i y ys H2 hi ⟨rfl,hD2,sm⟩;obtain⟨p,hp,rfl⟩:=dM hi;have hil:i < zss.length:=by
      have:=(List.getElem?_eq_some_iff.mp hp).1;omega
     have er:zss[i]? = some zss[i]:=List.getElem?_eq_getElem hil;refine yesI ?_;refine⟨_,rfl,_,rfl,(m:Int),p,zss[i],rfl,sm _ _ (hR.row i p _ hp er),hD2,?_,?_,a9,?_⟩
     . rw[List.length_map,List.length_map,List.length_take];exact au (by omega)
     . rw[List.take_add_one,er,List.map_append,List.map_append];rfl
     . exact fun b o e=>by rw[ac (a8 e hD)];exact sm b o e
   . rintro ys H2 ⟨rfl,hD2,sm⟩;rw[List.length_map,len,List.take_length]at hD2;refine⟨D,zss.map (bE m),rfl,SqL.of hD2,_,rfl,?_⟩;have ea:(zss.map (bE m)).all id=zss.all (bE m):=by rw[List.all_map];rfl
     rw[ea];refine iteN (fun e=>?_) (fun e=>?_)
     . refine k false H2 sm ⟨(fun z=>nomatch z),fun t=>?_⟩;obtain⟨rs,e2,v,_⟩:=t.ex;rw[e2,all_roads.mpr v]at e;cases e
     . obtain⟨rs,rfl,v⟩:=gi e;rw[List.length_map]at hlen hz;refine⟨_,rfl,_,rfl,m,a,as,rs,rfl,hR.mono sm,m2,v,hz,fun E ds H3 sm3 hN=>?_⟩;refine⟨m,E,ds,rs,0,rfl,hN,m2,v,by omega,by omega,fun S st H4 sm4 hS0 hS4 sr=>?_⟩
       refine⟨S,_,rfl,hS4,_,rfl,rfl,?_⟩;rw[d3,cf];refine k _ H4 ((sm.trans sm3).trans sm4) ?_;rw[decide_eq_true_iff,IsTree.iff m1 m2 hlen v,←sr.conn m1];omega
end
end Tw
namespace Tw
open PySem L2
section
variable {P:Program}{w:World}{K:PySem.W.Frag}{mg:Str->Option Value}{base:Heap}
def fO:Sp:=fun vs H Q _=>∃(n:Int) (a:Addr) (as:List Addr) (zss:List (List Int)),vs=[.int n,.ref a]/\RowsAt H a as zss/\zss.length≤100/\IsTree n zss/\∀H':Hp,Same H H'->Q .non H'
theorem scCheck:FnScope ["many", "roads"] ["many", "roads"] (ae di):=⟨rfl,rfl,rfl,by decide +kernel,rfl,by decide +kernel,by decide +kernel⟩
theorem ok_check {f fT:Addr}{fd fdT:FuncData}(F:Def K mg "check_tree" di ["many", "roads"] f fd)(FT:Def K mg "is_tree" cx ["many", "roads"] fT fdT)(GT:FnOk P w K mg base CX0 4 fT fdT ["many", "roads"] g9):FnOk P w K mg base CX0 5 f fd ["many", "roads"] fO:=by
 refine F.fn.ok scCheck (fun vs H Q E h=>?_) (fun cdv A outer s H vs Q E hr h=>?_)
 . obtain⟨n,a,as,zss,rfl,_⟩:=h;rfl
 . obtain⟨n,a,as,zss,rfl,hR,hz,t,k⟩:=h;refine⟨_,ah (bG (dk (dj (am GT hr rfl FT.mg FT.fn.kp FT.bn .nil aF (a7 (pv 0) (a7 (pv 1) af))))) (ah gk) aQ),?_⟩;refine⟨_,rfl,_,rfl,n,a,as,zss,rfl,hR,hz,fun b H' sm hb=>?_⟩;refine⟨_,rfl,?_⟩;rw[hb.mpr t];exact iteF (k H' sm)
end
end Tw
namespace Tw
open PySem L2
section
variable {P:Program}{w:World}{K:PySem.W.Frag}{mg:Str->Option Value}{base:Heap}
theorem dC {d:List (Int×Int)}{x l:Int}(nd:(d.map (·.1)).Nodup)(h:(x,l)∈d):valV (dV d) (Sum.inl x:Key)=some (V.int l):=by
 induction d with
 | nil=>cases h
 | cons p t ih =>
  obtain⟨h1,h2⟩:=List.nodup_cons.mp (show(p.1::t.map (·.1)).Nodup from nd)
  rcases List.mem_cons.mp h with e | h
  . subst e;exact de rfl
  . have ne:¬((Sum.inl p.1:Key)=Sum.inl x):=fun e=>h1 (by rw[Sum.inl.inj e];exact List.mem_map.mpr ⟨_,h,rfl⟩)
    exact(df (p:=((Sum.inl p.1:Key),V.int p.2)) ne).trans (ih h2 h)
theorem zV_at {zs:List Int}{i:Nat}{y:V}(hi:(zV zs)[i]? = some y):∃z,zs[i]? = some z/\y=V.int z:=by
 unfold zV at hi;rw[List.getElem?_map]at hi;cases e:zs[i]? with
 | none=>rw[e]at hi;cases hi
 | some z=>rw[e]at hi;exact⟨z,rfl,(Option.some.inj hi).symm⟩
def jD:Sp:=fun vs H Q _=>∃(n:Nat) (D:Addr) (ds:List Addr) (rs:List Road) (g:Int) (f:Int->Int->Int),vs=[.ref D,.int g]/\NearAt H D ds (bv n rs)/\Tree n rs/\Met rs (pl n) f/\0≤g/\g < n ∧
 ∀(L:Addr) (H':Hp),Same H H'->H L=none->H' L=some (.lst (zV ((pl n).map (f g))))->Q (.ref L) H'
theorem scFars:FnScope ["near", "start", "steps", "fars", "place"] ["near", "start"] (ae fj):=⟨rfl,rfl,rfl,by decide +kernel,rfl,by decide +kernel,by decide +kernel⟩
theorem ok_fars {f fS:Addr}{fd fdS:FuncData}(F:Def K mg "fars_from" fj ["near", "start"] f fd)(FS:Def K mg "steps_to" d5 ["near", "goal"] fS fdS)(B:Bi K mg):FnOk P w K mg base CX0 2 f fd ["near", "start"] jD:=by
 have GS:FnOk P w K mg base CX0 1 fS fdS ["near", "goal"] fL:=gA FS B;refine F.fn.ok scFars (fun vs H Q E h=>?_) (fun cdv A outer s H vs Q E hr h=>?_)
 . obtain⟨n,D,ds,rs,g,f,rfl,_⟩:=h;rfl
 . obtain⟨n,D,ds,rs,g,f,rfl,hN,t,m,g0,g1,k⟩:=h;have hu:=dy hr;have nd:=scFars.nd;have th:=t.hi;refine⟨_,(ad (ao (i:=2) nd rfl (Or.inl rfl) (am GS (hr.mono (by decide)) rfl FS.mg FS.fn.kp FS.bn .nil aF (a7 (pv 0) (a7 (pv 1) af))))
    (ad (ix (ae fj).names ["near", "start", "steps", "fars", "place"] ["near", "start", "steps", "fars", "x4", "place"] 3 nd rfl (Or.inl rfl) (bg K (pv 0)) (fun _ _ _ _=>bL) (fun _ _ _ _=>ag))
    (ad (jW (bA PassesOwn.never rfl (k3 (pv 2)) (ay (i:=4) nd rfl (Or.inl rfl)) (ah (bG (aJ gt (pv 4) (pv 1) (b9 _)) (ah (gl (ak bo (av (ixK K) (pv 3) (c7 hu (pv 2) (pv 4) (fun _ _=>rfl)) (fun _ _=>rfl)) (c7 hu (av (ixK K) (pv 0) (pv 4) (fun _ _=>rfl)) (c7 hu (pv 2) (pv 4) (fun _ _=>rfl)) (fun _ _=>rfl))) (iz (pv 3) (pv 4) eC))) aQ))))
    (ah (aB (pv 3)))))),?_⟩
   refine⟨_,rfl,_,rfl,n,D,ds,rs,g,rfl,hN,th,t.valid,g0,g1,fun S st H1 s1 hS0 hS1 sr=>?_⟩;have dl:ds.length=n:=by rw[hN.len,bj]
   have stl:=sr.length;refine⟨_,rfl,D,rfl,⟨_,SqL.of (s1 _ _ hN.top)⟩,fun L hL=>?_⟩;have hL0:H L=none:=s1.free hL;have nSL:S≠L:=a8 hS1 hL;refine bV (K:=K) (a:=D) (xs:=ds.map V.ref) (fun i ys H2=>ys=zV (List.replicate i 0)/\H2 L=some (.lst ys)/\Same H1 H2) (fun _ _ _ h=>⟨h.2.1,SqL.of (h.2.2 _ _ (s1 _ _ hN.top))⟩) ⟨rfl,a9,aj hL⟩ ?_ ?_
   . rintro i y ys H2 hi ⟨rfl,hL2,s2⟩;have hil:i < ds.length:=by have:=(List.getElem?_eq_some_iff.mp hi).1;rw[List.length_map]at this;exact this
     refine yesI ?_;refine⟨hL2,by rw[ai,List.length_replicate];exact au (by omega),?_,a9,fun b o e=>by rw[ac (a8 e hL)];exact s2 b o e⟩
     rw[bM,List.replicate_succ']
   rintro ys H2 ⟨rfl,hL2,s2⟩;rw[List.length_map,dl]at hL2;refine⟨_,rfl,S,_,rfl,s2 _ _ hS1,fun o=>?_⟩;have keyn:∀{j:Nat} {p q:Int},st[j]? = some (p,q)->0≤p/\p < n:=fun h=>sr.rng _ (List.mem_of_getElem? h);refine jl (fun i σ H4=>∃(zs:List Int) (v4:Option V),σ=[some (.ref D),some (.int g),some (.ref S),some (.ref L),v4]/\zs.length=n/\H4 L=some (.lst (zV zs))/\H4 S=some (.frz o (.dK (dV st)))/\Same H H4 ∧
    (∀(j:Nat) (p q:Int),j < i->st[j]? = some (p,q)->zs[p.toNat]? = some (f g p))/\(i=0->zs=List.replicate n 0)) ?_ ?_ ?_ ?_
   . exact⟨List.replicate n 0,_,rfl,List.length_replicate,by rw[ac nSL.symm];exact hL2,a9,fun b u e=>by rw[ac (a8 e hS0)];exact s2 _ _ (s1 b u e),fun j p q hj=>absurd hj (Nat.not_lt_zero _),fun _=>rfl⟩
   . rintro i σ H4 _ ⟨_,_,_,_,_,h,_⟩;exact h
   . rintro i kv σ H4 hi ⟨zs,v4,rfl,zl,hL4,hS4,s4,inv,i0⟩;obtain⟨p,q,hpq,rfl⟩:=lB hi;have pr:=keyn hpq;refine⟨_,rfl,_,rfl,rfl,_,rfl,?_⟩;show(if (!decide (V.int p=V.int g))=true then _ else _)
     rw[d3];refine iteN (fun e=>?_) (fun e=>?_)
     . have hne:=of_decide_eq_false e;have hi0:0 < i:=by
        rcases Nat.eq_zero_or_pos i with z | z
        . subst z;rw[sr.first]at hpq;cases hpq;exact absurd rfl hne
        . exact z
       obtain⟨j,hj,_,hqk,_⟩:=sr.par i p q hpq hi0;obtain⟨r,hrm,jr,ed⟩:=sr.dist m t.len i p q hpq hi0;obtain⟨q',hj'⟩:∃q',st[j]? = some (q,q'):=by
        rw[List.getElem?_map]at hqk;cases e:st[j]? with
        | none=>rw[e]at hqk;cases hqk
        | some x=>rw[e]at hqk;exact⟨x.2,by rw[←(Option.some.inj hqk:x.1=q)]⟩
       have qr:=keyn hj';have hzq:=inv j q q' hj hj';have hget:DGet H4 S (V.int p) (some (V.int q)):=.inl ⟨_,Sum.inl p,.inr ⟨o,hS4⟩,rfl,(dC sr.nd (List.mem_of_getElem? hpq)).symm⟩;obtain⟨d,hd⟩:∃d,ds[p.toNat]? = some d:=⟨ds[p.toNat]'(by omega),List.getElem?_eq_getElem _⟩
       have gp:(bv n rs)[p.toNat]? = some (nbOf rs p):=by
        rw[bu (by omega),show((p.toNat:Nat):Int)=p by omega]
       have hdH:=s4 _ _ (hN.row _ _ _ hd gp);have hget2:DGet H4 d (V.int q) (some (V.int r.2.2)):=.inl ⟨_,Sum.inl q,.inl hdH,rfl,(dC (gB p rs) ((t.nb_mem p q r.2.2).mpr ⟨r,hrm,jr.symm,rfl⟩)).symm⟩;refine⟨_,rfl,_,rfl,_,rfl,S,_,rfl,hget,L,_,_,_,rfl,rfl,SqL.of hL4,az qr.1 (aL hzq),_,rfl,_,rfl,D,_,_,_,rfl,rfl,SqL.of (s4 _ _ hN.top),az pr.1 (c6 hd),_,rfl,_,rfl,S,_,rfl,hget,d,_,rfl,hget2,_,_,rfl,rfl,?_⟩;have ixp:ixN (zV zs).length p=some p.toNat:=by
        unfold ixN;rw[if_pos pr.1,if_pos (by rw[ai];omega)]
       refine⟨_,rfl,_,rfl,L,_,_,p.toNat,rfl,rfl,hL4,ixp,?_⟩;refine⟨zs.set p.toNat (f g p),_,rfl,by rw[List.length_set];exact zl,?_,?_,fun b u e=>?_,fun j' p' q'' hj2 hst=>?_,fun z=>by omega⟩
       . rw[a9];show some (HO.lst ((zV zs).set p.toNat (V.int (f g q+r.2.2))))=_;rw[←ed];unfold zV;rw[List.map_set]
       . rw[ac nSL];exact hS4
       . rw[ac (a8 e hL0)];exact s4 b u e
       . by_cases ej:j'=i
         . subst ej;rw[hpq]at hst;cases hst;exact List.getElem?_set_self (by omega)
         . have hp':=keyn hst;have ne:p.toNat≠p'.toNat:=fun z=>by
            have hz:p=p':=by omega
            have a1:(st.map (·.1))[i]? = some p:=by rw[List.getElem?_map,hpq];rfl
            have a2:(st.map (·.1))[j']? = some p:=by rw[List.getElem?_map,hst,hz];rfl
            obtain⟨h1,q1⟩:=List.getElem?_eq_some_iff.mp a1;obtain⟨h2,q2⟩:=List.getElem?_eq_some_iff.mp a2;exact ej ((List.getElem_inj sr.nd).mp (q2.trans q1.symm))
           rw[List.getElem?_set_ne ne];exact inv j' p' q'' (by omega) hst
     . have he:=of_decide_eq_true e;subst he;have hi0:i=0:=by
        have a1:(st.map (·.1))[i]? = some p:=by rw[List.getElem?_map,hpq];rfl
        have a2:(st.map (·.1))[0]? = some p:=by rw[List.getElem?_map,sr.first];rfl
        obtain⟨h1,q1⟩:=List.getElem?_eq_some_iff.mp a1;obtain⟨h2,q2⟩:=List.getElem?_eq_some_iff.mp a2;exact(List.getElem_inj sr.nd).mp (q1.trans q2.symm)
       subst hi0;refine⟨zs,_,rfl,zl,hL4,hS4,s4,fun j' p' q'' hj2 hst=>?_,fun z=>by omega⟩
       have:j'=0:=by omega
       subst this;rw[hpq]at hst;cases hst;rw[i0 rfl,m.zero p (mem_pl.mpr ⟨g0,g1⟩)];rw[List.getElem?_replicate,if_pos (by omega)]
   . rintro σ H4 ⟨zs,v4,rfl,zl,hL4,hS4,s4,inv,_⟩;refine⟨S,o,_,hS4,(fun o' u' z=>by rw[s2 _ _ hS1]at z;cases z),?_⟩
     have e:zs=(pl n).map (f g):=by
      refine List.ext_getElem? fun i=>?_;by_cases hi:i < n
      . obtain⟨j,hj⟩:=List.mem_iff_getElem?.mp (sr.all t (i:Int) (mem_pl.mpr ⟨by omega,by omega⟩))
        rw[List.getElem?_map]at hj;cases es:st[j]? with
        | none=>rw[es]at hj;cases hj
        | some x =>
         rw[es]at hj;have e1:x.1=(i:Int):=Option.some.inj hj;have hjl:j < (dV st).length:=by rw[cf];exact(List.getElem?_eq_some_iff.mp es).1
         have:=inv j x.1 x.2 hjl es;rw[e1,Int.toNat_natCast]at this;rw[this,List.getElem?_map,f6 hi];rfl
      . rw[List.getElem?_eq_none (by omega),List.getElem?_eq_none (by rw[List.length_map,bC];omega)]
     refine⟨_,rfl,k L _ (fun b u e=>?_) hL0 ?_⟩
     . rw[ac (a8 e hS0)];exact s4 b u e
     . rw[ac nSL.symm,hL4,e]
end
end Tw
namespace Tw
open PySem L2
section
variable {P:Program}{w:World}{K:PySem.W.Frag}{mg:Str->Option Value}{base:Heap}
def plcs (n:Int)(zs:List Int):Bool:=(zs.map fun z=>decide (0≤z/\z < n)).all id
theorem plcs_iff {n:Int}{zs:List Int}:plcs n zs=true<->∀z∈zs,0≤z/\z < n:=by
 unfold plcs;rw[List.all_eq_true];exact⟨fun h z hz=>of_decide_eq_true (h _ (List.mem_map.mpr ⟨z,hz,rfl⟩)),fun h x hx=>by obtain⟨z,hz,rfl⟩:=List.mem_map.mp hx;exact decide_eq_true (h z hz)⟩
def kO:Sp:=fun vs H Q _=>∃(n:Int) (a:Addr) (zs:List Int),vs=[.int n,.ref a]/\H a=some (.lst (zV zs))/\zs.length≤400/\∀H':Hp,Same H H'->Q (.bl (plcs n zs)) H'
theorem scAreP:FnScope ["many", "some"] ["many", "some"] (ae bB):=⟨rfl,rfl,rfl,by decide +kernel,rfl,by decide +kernel,by decide +kernel⟩
theorem ok_arep {f fP fW:Addr}{fd fdP fdW:FuncData}(F:Def K mg "are_places" bB ["many", "some"] f fd)(FP:Def K mg "is_place" cH ["many", "value"] fP fdP)(FW:Def K mg "is_whole" ci ["value"] fW fdW)(B:Bi K mg):FnOk P w K mg base CX0 3 f fd ["many", "some"] kO:=by
 have GP:FnOk P w K mg base CX0 2 fP fdP ["many", "value"] ip:=jb FP FW B;refine F.fn.ok scAreP (fun vs H Q E h=>?_) (fun cdv A outer s H vs Q E hr h=>?_)
 . obtain⟨n,a,zs,rfl,_⟩:=h;rfl
 . obtain⟨n,a,zs,rfl,ha,hl,k⟩:=h;refine⟨_,(ah (aB (aD (eU rfl) (by rfl) B.all PyProof.Rows.boot_all (a7 (bK (ae bB).names ["many", "some"] ["many", "some", "value"] (bg K (pv 1)) (fun _ _ _ _=>bL) (fun _ _ _ _=>(am GP (hr.mono (by decide)) rfl FP.mg FP.fn.kp FP.bn .nil aF (a7 (pv 0) (a7 (pv 2) af))))) af)))),?_⟩
   refine⟨_,rfl,a,rfl,⟨_,SqL.of ha⟩,fun D hD=>?_⟩;refine bV (K:=K) (a:=a) (xs:=zV zs) (fun i ys H2=>ys=((zs.take i).map fun z=>decide (0≤z/\z < n)).map V.bl/\H2 D=some (.lst ys)/\Same H H2) (fun _ _ _ h=>⟨h.2.1,SqL.of (h.2.2 _ _ ha)⟩) ⟨rfl,a9,aj hD⟩ ?_ ?_
   . rintro i y ys H2 hi ⟨rfl,hD2,s2⟩;obtain⟨z,hz',rfl⟩:=zV_at hi;have hil:i < zs.length:=(List.getElem?_eq_some_iff.mp hz').1;refine yesI ?_;refine⟨_,rfl,_,rfl,n,z,rfl,hD2,by rw[List.length_map,List.length_map,List.length_take];exact au (by omega),?_,a9,fun b o e=>by rw[ac (a8 e hD)];exact s2 b o e⟩
     rw[List.take_add_one,hz',List.map_append,List.map_append];rfl
   . rintro ys H2 ⟨rfl,hD2,s2⟩;refine⟨D,_,rfl,SqL.of hD2,?_⟩;rw[List.take_of_length_le (by rw[ai];exact Nat.le_refl _)]
     exact k H2 s2
def eh:Sp:=fun vs H Q _=>∃(n:Int) (a:Addr) (zs:List Int),vs=[.int n,.ref a]/\H a=some (.lst (zV zs))/\zs.length≤400/\(∀z∈zs,0≤z/\z < n)/\∀H':Hp,Same H H'->Q .non H'
theorem scCheckP:FnScope ["many", "some"] ["many", "some"] (ae cy):=⟨rfl,rfl,rfl,by decide +kernel,rfl,by decide +kernel,by decide +kernel⟩
theorem ok_checkp {f fA fP fW:Addr}{fd fdA fdP fdW:FuncData}(F:Def K mg "check_places" cy ["many", "some"] f fd)(FA:Def K mg "are_places" bB ["many", "some"] fA fdA)(FP:Def K mg "is_place" cH ["many", "value"] fP fdP)(FW:Def K mg "is_whole" ci ["value"] fW fdW)(B:Bi K mg):FnOk P w K mg base CX0 4 f fd ["many", "some"] eh:=by
 have GA:FnOk P w K mg base CX0 3 fA fdA ["many", "some"] kO:=ok_arep FA FP FW B;refine F.fn.ok scCheckP (fun vs H Q E h=>?_) (fun cdv A outer s H vs Q E hr h=>?_)
 . obtain⟨n,a,zs,rfl,_⟩:=h;rfl
 . obtain⟨n,a,zs,rfl,ha,hl,hz,k⟩:=h;refine⟨_,(ah (bG (dk (dj (am GA (hr.mono (by decide)) rfl FA.mg FA.fn.kp FA.bn .nil aF (a7 (pv 0) (a7 (pv 1) af))))) (ah gk) aQ)),?_⟩
   refine⟨_,rfl,_,rfl,n,a,zs,rfl,ha,hl,fun H2 s2=>?_⟩;rw[plcs_iff.mpr hz];exact⟨_,rfl,iteF (k H2 s2)⟩
end
end Tw
namespace Tw
open PySem L2
section
variable {P:Program}{w:World}{K:PySem.W.Frag}{mg:Str->Option Value}{base:Heap}
theorem gM {α:Type}{xs:List α}{v:α}(h:xs[xs.length - 1]? = some v):atI xs (-1)=some v:=by
 have hl:0 < xs.length:=by have:=(List.getElem?_eq_some_iff.mp h).1;omega
 unfold atI ixN;rw[if_neg (by decide),if_pos (by omega)]
 show xs[((-1:Int)+xs.length).toNat]? = _;rw[show((-1:Int)+xs.length).toNat=xs.length - 1 by omega];exact h
theorem jL {ws:List Int}{p:Int}(h:ws[ws.length - 1]? = some p):(zV ws)[(zV ws).length - 1]? = some (V.int p):=by rw[ai];exact aL h
def jB:Sp:=fun vs H Q _=>∃(n:Nat) (D:Addr) (ds:List Addr) (rs:List Road) (a b:Int) (f:Int->Int->Int),vs=[.ref D,.int a,.int b]/\NearAt H D ds (bv n rs)/\Tree n rs/\Met rs (pl n) f/\a∈pl n/\b∈pl n ∧
 ∀(L:Addr) (ws:List Int) (H':Hp),Same H H'->H L=none->H' L=some (.lst (zV ws))->WayOf n rs f a b ws->Q (.ref L) H'
theorem scWayB:FnScope ["near", "a", "b", "steps", "places"] ["near", "a", "b"] (ae gc):=⟨rfl,rfl,rfl,by decide +kernel,rfl,by decide +kernel,by decide +kernel⟩
theorem ok_wayb {f fS:Addr}{fd fdS:FuncData}(F:Def K mg "way_between" gc ["near", "a", "b"] f fd)(FS:Def K mg "steps_to" d5 ["near", "goal"] fS fdS)(B:Bi K mg):FnOk P w K mg base CX0 2 f fd ["near", "a", "b"] jB:=by
 have GS:FnOk P w K mg base CX0 1 fS fdS ["near", "goal"] fL:=gA FS B;refine F.fn.ok scWayB (fun vs H Q E h=>?_) (fun cdv A outer s H vs Q E hr h=>?_)
 . obtain⟨n,D,ds,rs,a,b,f,rfl,_⟩:=h;rfl
 . obtain⟨n,D,ds,rs,a,b,f,rfl,hN,t,m,ha,hb,k⟩:=h;have hu:=dy hr;have nd:=scWayB.nd;have th:=t.hi;have br:=mem_pl.mp hb;refine⟨_,(ad (ao (i:=3) nd rfl (Or.inl rfl) (am GS (hr.mono (by decide)) rfl FS.mg FS.fn.kp FS.bn .nil aF (a7 (pv 0) (a7 (pv 2) af))))
    (ad (ao (i:=4) nd rfl (Or.inl rfl) (aG (a7 (pv 1) af)))
    (ad (iY PassesOwn.never (aJ gt (av (ixK K) (pv 4) (j7 g5 ag) (fun _ _=>rfl)) (pv 2) (b9 _)) (ah (bt (dQ PySem.F.plainAttrs_list PySem.F.slot_list_append PySem.F.type_list_append bN (pv 4) (bw (c7 hu (pv 3) (av (ixK K) (pv 4) (j7 g5 ag) (fun _ _=>rfl)) (fun _ _=>rfl)) af)))))
    (ah (aB (pv 4)))))),?_⟩
   refine⟨_,rfl,_,rfl,n,D,ds,rs,b,rfl,hN,th,t.valid,br.1,br.2,fun S st H1 s1 hS0 hS1 sr=>?_⟩;refine⟨_,rfl,by show 1≤sizeLine;exact aV (by decide),fun L hL=>?_⟩
   have hL0:H L=none:=s1.free hL;have nSL:S≠L:=a8 hS1 hL;refine⟨fun μ σ H2=>∃(ws:List Int) (p:Int),μ=(f b p).toNat/\σ=[some (.ref D),some (.int a),some (.int b),some (.ref S),some (.ref L)]/\Same H H2/\H2 S=some (.dK (dV st))/\H2 L=some (.lst (zV ws))/\Desc rs f b ws/\ws[0]? = some a/\ws[ws.length - 1]? = some p/\(∀x∈ws,x∈pl n),
    ⟨_,[a],a,rfl,rfl,?_,?_,a9,Desc.one,rfl,rfl,?_⟩,?_⟩
   . intro x o e;rw[ac (a8 e hL0)];exact s1 x o e
   . rw[ac nSL];exact hS1
   . intro x hx;rw[List.mem_singleton.mp hx];exact ha
   . rintro μ σ H2 ⟨ws,p,rfl,rfl,s2,hS2,hL2,d,w0,wl,rng⟩;refine⟨_,rfl,_,rfl,L,_,_,_,rfl,rfl,SqL.of hL2,gM (jL wl),_,rfl,rfl,_,rfl,?_⟩;rw[d3];have wn:=bx n ws (d.nodup t.len) fun x hx=>mem_pl.mp (rng x hx);have pm:p∈pl n:=rng p (List.mem_of_getElem? wl);refine iteN (fun e=>?_) (fun e=>?_)
     . have hpb:=of_decide_eq_false e;obtain⟨i,hi⟩:=List.mem_iff_getElem?.mp (sr.all t p pm);obtain⟨q,hpq⟩:∃q,st[i]? = some (p,q):=by
        rw[List.getElem?_map]at hi;cases es:st[i]? with
        | none=>rw[es]at hi;cases hi
        | some x=>rw[es]at hi;exact⟨x.2,by rw[←(Option.some.inj hi:x.1=p)]⟩
       have hi0:0 < i:=by
        rcases Nat.eq_zero_or_pos i with z | z
        . subst z;rw[sr.first]at hpq;cases hpq;exact absurd rfl hpb
        . exact z
       obtain⟨r,hrm,jr,ed⟩:=sr.dist m t.len i p q hpq hi0;obtain⟨j,_,_,hqk,_⟩:=sr.par i p q hpq hi0;have qm:q∈pl n:=by
        obtain⟨x,hx,ex⟩:=List.mem_map.mp (List.mem_of_getElem? hqk);rw[←ex];exact mem_pl.mpr (sr.rng x hx)
       have hget:DGet H2 S (V.int p) (some (V.int q)):=.inl ⟨_,Sum.inl p,.inl hS2,rfl,(dC sr.nd (List.mem_of_getElem? hpq)).symm⟩;have:=t.len r hrm;have fq:=m.nn b hb q qm;refine⟨fun σ' H'=>∃(ws:List Int),σ'=[some (.ref D),some (.int a),some (.int b),some (.ref S),some (.ref L)]/\Same H H'/\H' S=some (.dK (dV st))/\H' L=some (.lst (zV ws))/\Desc rs f b ws/\ws[0]? = some a/\ws[ws.length - 1]? = some q/\(∀x∈ws,x∈pl n),?_,?_⟩
       . rintro σ' H' ⟨ws',rfl,h1,h2,h3,h4,h5,h6,h7⟩;exact⟨(f b q).toNat,by omega,ws',q,rfl,rfl,h1,h2,h3,h4,h5,h6,h7⟩
       . refine⟨_,rfl,.inl ⟨rfl,_,SqL.of hL2⟩,_,rfl,_,rfl,_,rfl,L,_,_,_,rfl,rfl,SqL.of hL2,gM (jL wl),S,_,rfl,hget,L,_,_,rfl,rfl,hL2,by rw[ai];exact au (by omega),?_⟩
         refine⟨ws++[q],rfl,fun x o e=>by rw[ac (a8 e hL0)];exact s2 x o e,by rw[ac nSL];exact hS2,by rw[a9,bM],d.snoc wl hrm jr.symm ed,?_,?_,?_⟩
         . have:0 < ws.length:=(List.getElem?_eq_some_iff.mp w0).1;rw[List.getElem?_append_left this];exact w0
         . rw[List.length_append];simp
         . intro x hx;rcases List.mem_append.mp hx with z | z
           . exact rng x z
           . rw[List.mem_singleton.mp z];exact qm
     . have hpb:=of_decide_eq_true e;subst hpb;exact⟨_,rfl,k L ws H2 s2 hL0 hL2 ⟨d,w0,wl,rng⟩⟩
end
end Tw
namespace Tw
open PySem L2
open PySem.Builtin.Int (intBits)
section
variable {P:Program}{w:World}{K:PySem.W.Frag}{mg:Str->Option Value}{base:Heap}
def jE (K:PySem.W.Frag):Sp:=fun vs H Q _=>∃(a:Addr) (ns:List Int) (k:Nat),vs=[.ref a,.int k]/\SqL K H a (zV ns)/\Q (.int (ns.getD k 0)) H
theorem scCell:FnScope ["_law_script", "_law_k"] ["_law_script", "_law_k"] (ae fo):=⟨rfl,rfl,rfl,by decide +kernel,rfl,by decide +kernel,by decide +kernel⟩
theorem k7 {f:Addr}{fd:FuncData}(F:Def K mg "_law_cell_at" fo ["_law_script", "_law_k"] f fd)(B:Bi K mg):FnOk P w K mg base CX0 1 f fd ["_law_script", "_law_k"] (jE K):=by
 refine F.fn.ok scCell (fun vs H Q E h=>?_) (fun cdv A outer s H vs Q E hr h=>?_)
 . obtain⟨a,ns,k,rfl,_⟩:=h;rfl
 . obtain⟨a,ns,k,rfl,hS,q⟩:=h;refine⟨_,ad (bG (aJ j9 (pv 1) (aD bS (by rfl) B.len PySem.boot_len (a7 (pv 0) af)) (b9 _)) (ah (aB (av bd (pv 0) (pv 1) (fun _ _=>rfl)))) aQ)
    (ah (aB ag)),?_⟩
   refine⟨_,rfl,_,rfl,a,_,rfl,.inl hS,_,_,rfl,rfl,_,rfl,?_⟩;rw[ai];refine iteD (fun h=>?_) (fun h=>?_)
   . have hk:k < ns.length:=by omega
     have e:ns[k]? = some ns[k]:=List.getElem?_eq_getElem hk;refine⟨_,rfl,_,rfl,a,_,_,_,rfl,rfl,hS,dO (aL e),?_⟩;rw[List.getD_eq_getElem?_getD,e]at q;exact q
   . have hk:ns[k]? = none:=List.getElem?_eq_none (by omega)
     rw[List.getD_eq_getElem?_getD,hk]at q;exact q
theorem cV {K:PySem.W.Frag}{H:Hp}{p:Addr}{xs:List V}(h:H p=some (.lst xs)){i:Int}(h0:0≤i)(h1:i < xs.length):∃v,v∈xs/\SqL K H p xs/\atI xs i=some v/\xs[i.toNat]? = some v:=by
 have hi:i.toNat < xs.length:=by omega
 exact⟨xs[i.toNat],List.getElem_mem hi,SqL.of h,az h0 (List.getElem?_eq_getElem hi),List.getElem?_eq_getElem hi⟩
theorem gJ {a:Int}(h1:-(2 ^ 64) < a)(h2:a < 2 ^ 64):intBits a≤64:=intBits_le_64 h1 h2
theorem ins_get {α:Type}{l:List α}{j:Nat}{x:α}(hj:j≤l.length)(i:Nat):(l.take j++x::l.drop j)[i]? = if i < j then l[i]? else if i=j then some x else l[i - 1]?:=by
 have lt:(l.take j).length=j:=by rw[List.length_take];omega
 by_cases h:i < j
 . rw[if_pos h,List.getElem?_append_left (by omega),List.getElem?_take_of_lt h]
 . rw[if_neg h,List.getElem?_append_right (by omega),lt]
   by_cases e:i=j
   . subst e;rw[if_pos rfl,Nat.sub_self];rfl
   . rw[if_neg e];obtain⟨d,rfl⟩:∃d,i=j+d+1:=⟨i - j - 1,by omega⟩
     rw[show j+d+1 - j=d+1 by omega,List.getElem?_cons_succ,List.getElem?_drop]
     rfl
theorem RoadsAt.fresh {H:Hp}{a q:Addr}{as:List Addr}{rs:List Road}(h:RoadsAt H a as rs)(hq0:H q=none):q∉as:=fun z=>by
 obtain⟨j,hj⟩:=List.mem_iff_getElem?.mp z;have hjl:j < rs.length:=by rw[←h.len];exact(List.getElem?_eq_some_iff.mp hj).1
 have e:=h.rows.row j q (rowI rs[j]) hj (by rw[List.getElem?_map,List.getElem?_eq_getElem hjl];rfl)
 rw[hq0]at e;cases e
theorem RoadsAt.ins {H H5:Hp}{a q:Addr}{as:List Addr}{rs:List Road}{r':Road}{j:Nat}(h:RoadsAt H a as rs)(s:Same H H5)(hq0:H q=none)(hq:H5 q=some (.lst (zV (rowI r'))))(hj:j≤rs.length):RoadsAt (upd H5 a (.lst ((as.map V.ref).take j++.ref q::(as.map V.ref).drop j))) a (as.take j++q::as.drop j) (rs.take j++r'::rs.drop j):=by
 have nqa:q≠a:=fun z=>by rw[z,h.rows.top]at hq0;cases hq0
 have nq:=h.fresh hq0;have la:=h.len;refine⟨⟨?_,?_,fun i p z e1 e2=>?_⟩,?_⟩
 . rw[a9,List.map_append,List.map_cons,List.map_take,List.map_drop]
 . rw[List.length_append,List.length_cons,List.length_map,List.length_append,List.length_cons,List.length_take,List.length_take,List.length_drop,List.length_drop];omega
 . rw[ins_get (by omega)]at e1
   rw[List.map_append,List.map_cons,List.map_take,List.map_drop,ins_get (by rw[List.length_map];exact hj)]at e2
   by_cases h1:i < j
   . rw[if_pos h1]at e1 e2;have na:p≠a:=fun z=>h.ne_top (z▸List.mem_of_getElem? e1);rw[ac na];exact s _ _ (h.rows.row i p z e1 e2)
   . rw[if_neg h1]at e1 e2;by_cases h2:i=j
     . rw[if_pos h2]at e1 e2;cases e1;cases e2;rw[ac nqa];exact hq
     . rw[if_neg h2]at e1 e2;have na:p≠a:=fun z=>h.ne_top (z▸List.mem_of_getElem? e1);rw[ac na];exact s _ _ (h.rows.row _ p z e1 e2)
 . exact((eO as j q).nodup_iff).mpr (List.nodup_cons.mpr ⟨nq,h.nd⟩)
theorem zV_ins (l:List Int)(j:Nat)(x:Int):(zV l).take j++V.int x::(zV l).drop j=zV (l.take j++x::l.drop j):=by
 unfold zV;rw[List.map_append,List.map_cons,List.map_take,List.map_drop]
theorem mem_cutV {xs:List V}{lo hi:Option Int}{y:V}(h:y∈cutV xs lo hi):y∈xs:=by
 unfold cutV at h;exact List.mem_of_mem_drop (List.mem_of_mem_take h)
theorem bf (z:List Int):(zV z).all bR=true:=by
 unfold zV;rw[List.all_map,List.all_eq_true];intro x _;rfl
theorem e8 {z:List Int}{i:Nat}{y:V}(h:(zV z)[i]? = some y):∃x,z[i]? = some x/\y=V.int x:=by
 unfold zV at h;rw[List.getElem?_map]at h;cases e:z[i]? with
 | none=>rw[e]at h;cases h
 | some x=>rw[e]at h;exact⟨x,rfl,(Option.some.inj h).symm⟩
theorem iS {H:Hp}{a:Addr}{as:List Addr}{zss:List (List Int)}(h:RowsAt H a as zss):Rows2 K H a as (zss.map zV):=by
 refine⟨SqL.of h.top,by rw[List.length_map];exact h.len,fun i p xs e1 e2=>?_⟩
 rw[List.getElem?_map]at e2;cases e:zss[i]? with
 | none=>rw[e]at e2;cases e2
 | some z =>
  rw[e]at e2;cases e2;exact⟨SqL.of (h.row i p z e1 e),bf z⟩
theorem rows_same (zss:List (List Int)):((List.range (zss.map zV).length).all fun j=>eqVs ((zss.map zV).getD j []) ((zss.map zV).getD j []))=true:=by
 rw[List.all_eq_true];intro j hj;have hj':=List.mem_range.mp hj;rw[List.length_map]at hj';have e:(zss.map zV).getD j []=zV zss[j]:=by
  rw[List.getD_eq_getElem?_getD,List.getElem?_map,List.getElem?_eq_getElem hj'];rfl
 rw[e];exact dN (bf _)
theorem copy_rows {H1:Hp}{R D:Addr}{as:List Addr}{zss:List (List Int)}{te:TE}{σ:St}{Qf:Hp->Prop}(hR:RowsAt H1 R as zss)(hz:zss.length≤100)(hD:H1 D=none)(hte:∀(p:Addr) (H4:Hp) (Qv:VK) (zs:List V),H4 p=some (.lst zs)->(∀l,H4 l=none->Qv (.ref l) (upd H4 l (.lst zs)))->te (σ++[some (.ref p)]) H4 Qv)(k:∀(bs:List Addr) (H2:Hp),RowsAt H2 D bs zss->Same H1 H2->(∀b∈bs,H1 b=none)->Qf H2):∃W:Nat->Nat->List V->Hp->Prop,(∃m,W 0 m [] (upd H1 D (.lst [])))/\∀i m ys H2,W i m ys H2->H2 D=some (.lst ys)/\(((Itl K R).stop i H2/\Qf H2)∨((Itl K R).go i H2/\∃N:List V->Hp->Prop,(∀ys' H',N ys' H'->∃m',m' < m/\W (i+1) m' ys' H')/\∀y H3,(Itl K R).yld i H2 y H3->tYes (σ++[some y]) H3 fun c H4=>if c=true then te (σ++[some y]) H4 fun z H5=>H5 D=some (.lst ys)/\ys.length < sizeLine/\N (ys++[z]) (upd H5 D (.lst (ys++[z])))else N ys H4)):=by
 have al:=hR.len;refine bV (K:=K) (a:=R) (xs:=as.map V.ref) (fun i ys H2=>∃bs:List Addr,ys=bs.map V.ref/\bs.length=i/\H2 D=some (.lst ys)/\Same H1 H2/\(∀(j:Nat) (p:Addr) (z:List Int),bs[j]? = some p->zss[j]? = some z->H2 p=some (.lst (zV z)))/\∀b∈bs,H1 b=none/\b≠D)
  (fun i ys H2 ⟨_,_,_,h1,h2,_⟩=>⟨h1,SqL.of (h2 _ _ hR.top)⟩) ⟨[],rfl,rfl,a9,aj hD,(fun j p r e=>by simp at e),(fun b hb=>nomatch hb)⟩ ?_ ?_
 . rintro i y ys H2 hi ⟨bs,rfl,bl,hD2,s2,rw2,fr2⟩;obtain⟨p,hp,rfl⟩:=dM hi;have hil:i < zss.length:=by rw[←al];exact(List.getElem?_eq_some_iff.mp hp).1
   have er:zss[i]? = some zss[i]:=List.getElem?_eq_getElem hil;have hrow:=s2 _ _ (hR.row i p zss[i] hp er);refine yesI ?_;refine hte p H2 _ _ hrow fun q hq=>?_;have nDq:D≠q:=a8 hD2 hq;refine⟨by rw[ac nDq];exact hD2,by rw[List.length_map,bl];exact au (by omega),bs++[q],by rw[List.map_append];rfl,by rw[List.length_append,bl];rfl,a9,fun b o e=>?_,fun j p' r e1 e2=>?_,fun b hb=>?_⟩
   . rw[ac (a8 e hD),ac (a8 (s2 b o e) hq)];exact s2 b o e
   . by_cases hj:j < bs.length
     . rw[List.getElem?_append_left hj]at e1;have h2:=rw2 j p' r e1 e2;rw[ac (fr2 p' (List.mem_of_getElem? e1)).2,ac (a8 h2 hq)];exact h2
     . rw[List.getElem?_append_right (by omega)]at e1
       have hz:j - bs.length=0:=by
        have:=(List.getElem?_eq_some_iff.mp e1).1;simp at this;omega
       rw[hz]at e1;have e3:q=p':=by simpa using e1
       subst e3;have e4:j=i:=by omega
       subst e4;rw[er]at e2;cases e2;rw[ac nDq.symm,a9]
   . rcases List.mem_append.mp hb with z | z
     . exact fr2 b z
     . have e:b=q:=by simpa using z
       subst e;exact⟨s2.free hq,nDq.symm⟩
 . rintro ys H2 ⟨bs,rfl,bl,hD2,s2,rw2,fr2⟩;rw[List.length_map,al]at bl;exact k bs H2 ⟨hD2,bl,fun i p z e1 e2=>rw2 i p z e1 e2⟩ s2 fun b hb=>(fr2 b hb).1
theorem RowsAt.freshR {H:Hp}{a q:Addr}{as:List Addr}{zss:List (List Int)}(h:RowsAt H a as zss)(hq0:H q=none):q∉as:=fun z=>by
 obtain⟨j,hj⟩:=List.mem_iff_getElem?.mp z;have hjl:j < zss.length:=by rw[←h.len];exact(List.getElem?_eq_some_iff.mp hj).1
 have e:=h.row j q zss[j] hj (List.getElem?_eq_getElem hjl);rw[hq0]at e;cases e
end
end Tw
namespace Tw
open PySem L2
open PySem.Builtin.Int (intBits)
section
variable {P:Program}{w:World}{K:PySem.W.Frag}{mg:Str->Option Value}{base:Heap}
def mg1 (x k:Int):Int:=(x*48271+k*k*69621+3) % 2147483647
def mg2 (x k:Int):Int:=mg1 x k*mg1 x k % 2147483629
def mgF (x k:Int):Int:=mg2 x k*mg2 x k % 2147483587
theorem mg1_lo (x k:Int):0≤mg1 x k:=Int.emod_nonneg _ (by decide)
theorem mg1_hi (x k:Int):mg1 x k < 2147483647:=Int.emod_lt_of_pos _ (by decide)
theorem mg2_lo (x k:Int):0≤mg2 x k:=Int.emod_nonneg _ (by decide)
theorem mg2_hi (x k:Int):mg2 x k < 2147483629:=Int.emod_lt_of_pos _ (by decide)
theorem l8 (x k:Int):0≤mgF x k:=Int.emod_nonneg _ (by decide)
theorem l9 (x k:Int):mgF x k < 2147483587:=Int.emod_lt_of_pos _ (by decide)
def jQ:Sp:=fun vs H Q _=>∃x k:Int,vs=[.int x,.int k]/\-1000 < k/\k < 1000/\Q (.int (mgF x k)) H
theorem scMixed:FnScope ["_law_cell", "_law_k", "_law_number"] ["_law_cell", "_law_k"] (ae dW):=⟨rfl,rfl,rfl,by decide +kernel,rfl,by decide +kernel,by decide +kernel⟩
theorem ok_mixed {f:Addr}{fd:FuncData}(F:Def K mg "_law_mixed" dW ["_law_cell", "_law_k"] f fd):FnOk P w K mg base CX0 1 f fd ["_law_cell", "_law_k"] jQ:=by
 refine F.fn.ok scMixed (fun vs H Q E h=>?_) (fun cdv A outer s H vs Q E hr h=>?_)
 . obtain⟨x,k,rfl,_⟩:=h;rfl
 . obtain⟨x,k,rfl,k0,k1,q⟩:=h;have nd:=scMixed.nd;refine⟨_,(ad (ao (i:=2) nd rfl (Or.inl rfl) (ak b8 (ak bo (ak bo (ak gu (pv 0) ag) (ak gu (ak gu (pv 1) (pv 1)) ag)) ag) ag))
    (ad (ao (i:=2) nd rfl (Or.inl rfl) (ak b8 (ak k5 (pv 2) (pv 2)) ag))
    (ah (aB (ak b8 (ak k5 (pv 2) (pv 2)) ag))))),?_⟩
   refine⟨_,rfl,_,_,rfl,rfl,.inr ⟨by decide,by decide⟩,_,rfl,_,rfl,_,_,rfl,rfl,.inl ⟨by omega,by omega⟩,_,_,rfl,rfl,.inr ⟨by decide,by decide⟩,_,_,rfl,rfl,_,_,rfl,rfl,_,_,rfl,rfl,(by show(0:Int) < 2147483647;decide),?_⟩
   have a:=mg1_lo x k;have b:=mg1_hi x k;have e1:intBits (mg1 x k)≤64:=gJ (by omega) (by omega)
   refine⟨_,rfl,_,rfl,_,_,rfl,rfl,je e1 e1 (by decide),_,_,rfl,rfl,(by show(0:Int) < 2147483629;decide),?_⟩
   have a:=mg2_lo x k;have b:=mg2_hi x k;have e2:intBits (mg2 x k)≤64:=gJ (by omega) (by omega)
   exact⟨_,rfl,_,rfl,_,_,rfl,rfl,je e2 e2 (by decide),_,_,rfl,rfl,(by show(0:Int) < 2147483587;decide),q⟩
def jP:Sp:=fun vs H Q _=>∃(c:Int) (n:Nat),vs=[.int c,.int n]/\n≤12/\∀(L:Addr) (l:List Int) (H':Hp),Same H H'->H L=none->H' L=some (.lst (zV l))->l.Perm (pl n)->Q (.ref L) H'
theorem scNames:FnScope ["_law_cell", "_law_many", "_law_points", "_law_k"] ["_law_cell", "_law_many"] (ae dU):=⟨rfl,rfl,rfl,by decide +kernel,rfl,by decide +kernel,by decide +kernel⟩
theorem ok_names {f:Addr}{fd:FuncData}(F:Def K mg "_law_names" dU ["_law_cell", "_law_many"] f fd)(B:Bi K mg):FnOk P w K mg base CX0 1 f fd ["_law_cell", "_law_many"] jP:=by
 refine F.fn.ok scNames (fun vs H Q E h=>?_) (fun cdv A outer s H vs Q E hr h=>?_)
 . obtain⟨c,n,rfl,_⟩:=h;rfl
 . obtain⟨c,n,rfl,hn,k⟩:=h;have nd:=scNames.nd;refine⟨_,(ad (ao (i:=2) nd rfl (Or.inl rfl) (aG af))
    (ad (bA PassesOwn.never rfl (be rfl B.range (a7 (pv 1) af)) (ay (i:=3) nd rfl (Or.inl rfl)) (ad (bt (dQ PySem.F.plainAttrs_list PySem.F.slot_list_insert PySem.F.type_list_insert gZ (pv 2) (bi (ak b8 (pv 0) (ak bo (pv 3) ag)) (a7 (pv 3) af))))
    (ah (ao (i:=0) nd rfl (Or.inl rfl) (ak cF (pv 0) (ak bo (pv 3) ag))))))
    (ah (aB (pv 2))))),?_⟩
   refine⟨by show 0≤sizeLine;exact aV (by decide),fun L hL=>?_⟩
   refine⟨_,rfl,(n:Int),rfl,by omega,by omega,?_⟩
   rw[Int.toNat_natCast];refine bF (fun i σ H2=>∃(c:Int) (l:List Int) (v3:Option V),σ=[some (.int c),some (.int n),some (.ref L),v3]/\l.Perm (pl i)/\H2 L=some (.lst (zV l))/\Same H H2) ⟨c,[],none,rfl,.refl _,a9,aj hL⟩ ?_ ?_
   . rintro i σ H2 hi ⟨c,l,v3,rfl,pm,hl2,sm⟩;have ll:l.length=i:=by rw[pm.length_eq,bC]
     refine⟨_,rfl,.inl ⟨rfl,_,SqL.of hl2⟩,_,rfl,_,rfl,_,_,rfl,rfl,_,_,rfl,rfl,(by omega),_,rfl,?_⟩
     have i0:=Int.emod_nonneg c (show(0+(i:Int)+1)≠0 by omega)
     have i1:=Int.emod_lt_of_pos c (show(0:Int) < 0+(i:Int)+1 by omega)
     obtain⟨j,hj⟩:∃j:Nat,c % (0+(i:Int)+1)=(j:Int):=⟨_,(Int.toNat_of_nonneg i0).symm⟩;refine⟨L,_,j,_,rfl,(by rw[←hj]),hl2,by rw[ai];omega,by rw[ai];exact au (by omega),?_⟩
     refine⟨_,rfl,_,rfl,_,_,rfl,rfl,_,_,rfl,rfl,⟨by omega,by omega⟩,?_⟩
     refine⟨_,l.take j++(i:Int)::l.drop j,_,rfl,names_step pm j,?_,fun b o e=>by rw[ac (a8 e hL)];exact sm b o e⟩
     rw[a9,show(0+(i:Int))=(i:Int) by omega,zV_ins]
   . rintro σ H2 ⟨c,l,v3,rfl,pm,hl2,sm⟩;exact⟨_,rfl,k L l H2 sm hL hl2 pm⟩
def Nm (i:Nat)(x:Int):Prop:=0≤x/\x < 10 ^ 38/\(i < 48->x < 2147483587)
structure Nums (m:Nat) (xs:List Int):Prop where
 len:xs.length=m
 ok:∀(i:Nat) (x:Int),xs[i]? = some x->Nm i x
theorem Nums.get {m:Nat}{xs:List Int}(h:Nums m xs){i:Nat}(hi:i < m):∃x,xs[i]? = some x/\0≤x/\x < 10 ^ 38/\(i < 48->x < 2147483587):=by
 have hl:i < xs.length:=by rw[h.len];exact hi
 exact⟨xs[i],List.getElem?_eq_getElem hl,h.ok i _ (List.getElem?_eq_getElem hl)⟩
theorem Nums.set {m:Nat}{xs:List Int}(h:Nums m xs){i:Nat}{x:Int}(hx:Nm i x):Nums m (xs.set i x):=by
 refine⟨by rw[List.length_set];exact h.len,fun j y e=>?_⟩
 by_cases q:i=j
 . subst q;have hl:i < xs.length:=by have:=(List.getElem?_eq_some_iff.mp e).1;rw[List.length_set]at this;exact this
   rw[List.getElem?_set_self hl]at e;cases e;exact hx
 . rw[List.getElem?_set_ne q]at e;exact h.ok j y e
theorem Nums.snoc {m:Nat}{xs:List Int}(h:Nums m xs){x:Int}(hx:Nm m x):Nums (m+1) (xs++[x]):=by
 refine⟨by rw[List.length_append,h.len];rfl,fun j y e=>?_⟩
 by_cases q:j < xs.length
 . rw[List.getElem?_append_left q]at e;exact h.ok j y e
 . rw[List.getElem?_append_right (by omega)]at e
   have hz:j - xs.length=0:=by have:=(List.getElem?_eq_some_iff.mp e).1;simp at this;omega
   rw[hz]at e;have e2:x=y:=by simpa using e
   subst e2;have:j=m:=by have:=h.len;omega
   subst this;exact hx
theorem Nums.nil:Nums 0 []:=⟨rfl,fun i x e=>by simp at e⟩
theorem jz (z:List Int)(i:Nat)(x:Int):(zV z).set i (V.int x)=zV (z.set i x):=by unfold zV;rw[List.map_set]
theorem zV_cat (a b:List Int):zV a++zV b=zV (a++b):=by unfold zV;rw[List.map_append]
theorem lF:∀{xs:List V} {p:Int->Prop},(∀v∈xs,∃z,v=V.int z/\p z)->∃ls:List Int,xs=zV ls/\∀z∈ls,p z
 | [],_,_=>⟨[],rfl,fun _ h=>nomatch h⟩
 | x::t,p,h=>by
  obtain⟨z,rfl,hz⟩:=h x List.mem_cons_self;obtain⟨ls,rfl,hl⟩:=lF (xs:=t) (p:=p) fun v hv=>h v (List.mem_cons_of_mem _ hv);refine⟨z::ls,rfl,fun y hy=>?_⟩;rcases List.mem_cons.mp hy with rfl | e
  . exact hz
  . exact hl y e
theorem jI {n i:Nat}(h:i < n):ixN n (i:Int)=some i:=by
 unfold ixN;rw[if_pos (by omega),if_pos (by omega)];congr 1
theorem atI_m1 {α:Type}{xs:List α}{v:α}(h:xs[xs.length - 1]? = some v):atI xs (-1)=some v:=by
 have hl:0 < xs.length:=by have:=(List.getElem?_eq_some_iff.mp h).1;omega
 unfold atI ixN;rw[if_neg (by decide),if_pos (by omega)]
 show xs[((-1:Int)+xs.length).toNat]? = _;rw[show((-1:Int)+xs.length).toNat=xs.length - 1 by omega];exact h
def gQ (K:PySem.W.Frag):Sp:=fun vs H Q _=>∃(a:Addr) (ns:List Int),vs=[.ref a]/\SqL K H a (zV ns)/\ns.length≤63 ∧
 ∀(L:Addr) (xs:List Int) (H':Hp),Same H H'->H L=none->H' L=some (.lst (zV xs))->Nums 96 xs->Q (.ref L) H'
theorem scNumbers:FnScope ["_law_script", "_law_numbers_here", "_law_left", "_law_k", "_law_base", "_law_at"] ["_law_script"] (ae bP):=⟨rfl,rfl,rfl,by decide +kernel,rfl,by decide +kernel,by decide +kernel⟩
theorem ok_numbers {f fM fA:Addr}{fd fdM fdA:FuncData}(F:Def K mg "_law_numbers" bP ["_law_script"] f fd)(FM:Def K mg "_law_mixed" dW ["_law_cell", "_law_k"] fM fdM)(FA:Def K mg "_law_cell_at" fo ["_law_script", "_law_k"] fA fdA)(B:Bi K mg):FnOk P w K mg base CX0 2 f fd ["_law_script"] (gQ K):=by
 have GM:FnOk P w K mg base CX0 1 fM fdM ["_law_cell", "_law_k"] jQ:=ok_mixed FM;have GA:FnOk P w K mg base CX0 1 fA fdA ["_law_script", "_law_k"] (jE K):=k7 FA B;refine F.fn.ok scNumbers (fun vs H Q E h=>?_) (fun cdv A outer s H vs Q E hr h=>?_)
 . obtain⟨a,ns,rfl,_⟩:=h;rfl
 . obtain⟨a,ns,rfl,hS,hl,k⟩:=h;have nd:=scNumbers.nd;have hu:=dy hr;refine⟨_,(ad (ao (i:=1) nd rfl (Or.inr rfl) (bK (ae bP).names ["_law_script", "_law_numbers_here", "_law_left", "_law_k", "_law_base", "_law_at"] ["_law_script", "_law_numbers_here", "_law_left", "x3", "_law_base", "_law_at", "_law_k"] (be rfl B.range (aH ag af)) (fun _ _ _ _=>bL) (fun _ _ _ _=>(am GM (hr.mono (by decide)) rfl FM.mg FM.fn.kp FM.bn .nil aF (a7 (am GA (hr.mono (by decide)) rfl FA.mg FA.fn.kp FA.bn .nil aF (a7 (pv 0) (aH ag af))) (bi (ak bo ag (pv 6)) af))))))
    (ad (ao (i:=2) nd rfl (Or.inl rfl) (cj (slK K) (pv 0) (cB ag) (cB ag)))
    (ad (bA PassesOwn.never rfl (be rfl B.range (a7 (aD (lenK K) (by rfl) B.len PySem.boot_len (a7 (pv 2) af)) af)) (ay (i:=3) nd rfl (Or.inl rfl)) (ah (gl (am GM (hr.mono (by decide)) rfl FM.mg FM.fn.kp FM.bn .nil aF (bi (ak bo (av (ixK K) (pv 1) (ak b8 (pv 3) ag) (fun _ _=>rfl)) (av (ixK K) (pv 2) (pv 3) (fun _ _=>rfl))) (bi (ak bo (pv 3) ag) af))) (iz (pv 1) (ak b8 (pv 3) ag) eC))))
    (ad (ao (i:=1) nd rfl (Or.inr rfl) (ak iB (pv 1) (bK (ae bP).names ["_law_script", "_law_numbers_here", "_law_left", "_law_k", "_law_base", "_law_at"] ["_law_script", "_law_numbers_here", "_law_left", "x3", "_law_base", "_law_at", "_law_k"] (be rfl B.range (aH ag af)) (fun _ _ _ _=>bL) (fun _ _ _ _=>(ak bo (ak gu (av (ixK K) (pv 1) (pv 6) (fun _ _=>rfl)) (ak jH ag ag)) (av (ixK K) (pv 1) (ak f9 (pv 6) ag) (fun _ _=>rfl)))))))
    (ad (bG (PW.pt (eY (aJ ja (ak b8 (ak gw (am GA (hr.mono (by decide)) rfl FA.mg FA.fn.kp FA.bn .nil aF (a7 (pv 0) (aH ag af))) ag) ag) ag (b9 _)) (dF (aJ (fV K (Nat.lt_of_succ_lt hu)) (pv 2) (aG af) (b9 _))))) (ah (bA PassesOwn.never rfl (be rfl B.range (aH ag af)) (ay (i:=3) nd rfl (Or.inl rfl)) (ad (ao (i:=4) nd rfl (Or.inl rfl) (av (ixK K) (aG (aH ag (bi (ak jH ag ag) af))) (ak gw (pv 3) ag) (fun _ _=>rfl)))
    (ad (ao (i:=5) nd rfl (Or.inl rfl) (ak b8 (pv 3) (aD (lenK K) (by rfl) B.len PySem.boot_len (a7 (pv 2) af))))
    (ad (gl (ak b8 (av (ixK K) (pv 2) (pv 5) (fun _ _=>rfl)) (pv 4)) (iz (pv 1) (pv 3) eC))
    (ah (gl (ak gw (av (ixK K) (pv 2) (pv 5) (fun _ _=>rfl)) (pv 4)) (iz (pv 2) (pv 5) eC)))))))) aQ)
    (ah (aB (pv 1)))))))),?_⟩
   refine⟨(48:Int),rfl,by decide,by decide,fun L hL=>?_⟩
   refine cp (n:=48) (fun i ys H2=>∃xs:List Int,ys=zV xs/\Nums i xs/\H2 L=some (.lst ys)/\Same H H2) (fun _ _ _ ⟨_,_,_,h,_⟩=>h) ⟨[],rfl,Nums.nil,a9,aj hL⟩ ?_ ?_
   . rintro i ys H2 hi ⟨xs,rfl,nm,hL2,s2⟩;refine yesI ?_;refine⟨_,rfl,a,ns,0,rfl,s2.seq hS,_,rfl,_,_,rfl,rfl,_,_,rfl,by omega,by omega,hL2,by rw[ai,nm.len];exact au (by omega),xs++[mgF (ns.getD 0 0) (90+(0+(i:Int)))],bM _ _,nm.snoc ?_,a9,fun b o e=>by rw[ac (a8 e hL)];exact s2 b o e⟩
     have a0:=l8 (ns.getD 0 0) (90+(0+(i:Int)));have a1:=l9 (ns.getD 0 0) (90+(0+(i:Int)));exact⟨a0,by omega,fun _=>a1⟩
   rintro ys H2 ⟨xs0,rfl,nm0,hL2,s2⟩;refine⟨_,rfl,_,rfl,_,rfl,a,_,rfl,s2.seq hS,fun Z hZ=>?_⟩;obtain⟨ls,els,hls⟩:=lF (xs:=cutV (zV ns) (some 2) (some 63)) (p:=fun _=>True) fun v hv=>by
    obtain⟨z,_,e⟩:=List.mem_map.mp (show v∈ns.map V.int from mem_cutV hv)
    exact⟨z,e.symm,trivial⟩
   have hll:ls.length≤63:=by
    have h1:(zV ls).length≤(zV ns).length:=by rw[←els];exact fH _ _ _
    rw[ai,ai]at h1;omega
   rw[els];have nLZ:L≠Z:=a8 hL2 hZ;have hZ0:H Z=none:=s2.free hZ;refine⟨_,rfl,Z,_,rfl,.inl (SqL.of a9),_,rfl,by omega,by rw[ai];omega,?_⟩
   rw[ai,Int.toNat_natCast];refine bF (fun i σ H3=>∃(xs:List Int) (v3:Option V),σ=[some (.ref a),some (.ref L),some (.ref Z),v3,none,none]/\Nums 48 xs/\H3 L=some (.lst (zV xs))/\H3 Z=some (.lst (zV ls))/\Same H H3) ⟨xs0,none,rfl,nm0,by rw[ac nLZ];exact hL2,a9,(Same.upd2 s2 hZ0)⟩ ?_ ?_
   . rintro i σ H3 hi ⟨xs,v3,rfl,nm,hL3,hZ3,s3⟩;have m0:(0+(i:Int)) % 48=((i % 48:Nat):Int):=by omega
     obtain⟨x,hx,x0,x1,x2⟩:=nm.get (show i % 48 < 48 by omega)
     obtain⟨z,hz⟩:∃z,ls[i]? = some z:=⟨_,List.getElem?_eq_getElem hi⟩;refine⟨_,rfl,_,rfl,_,_,rfl,rfl,(by show(0:Int) < 48;decide),L,_,_,_,rfl,rfl,SqL.of hL3,(by rw[m0];exact dO (aL hx)),_,rfl,_,rfl,Z,_,_,_,rfl,rfl,SqL.of hZ3,az (by omega) (by rw[show((0:Int)+(i:Int)).toNat=i by omega];exact aL hz),_,_,rfl,rfl,_,rfl,_,_,rfl,rfl,_,_,rfl,by omega,by omega,?_⟩
     refine⟨_,rfl,_,rfl,_,_,rfl,rfl,(by show(0:Int) < 48;decide),L,_,_,i % 48,rfl,rfl,hL3,(by rw[m0,ai,nm.len];exact jI (by omega)),?_⟩
     have a0:=l8 (x+z) (0+(i:Int)+2);have a1:=l9 (x+z) (0+(i:Int)+2);refine⟨xs.set (i % 48) (mgF (x+z) (0+(i:Int)+2)),_,rfl,nm.set ⟨a0,by omega,fun _=>a1⟩,by rw[a9,jz],by rw[ac nLZ.symm];exact hZ3,fun b o e=>by rw[ac (a8 e hL)];exact s3 b o e⟩
   rintro σ H3 ⟨xs1,v3,rfl,nm1,hL3,hZ3,s3⟩;refine⟨_,rfl,(48:Int),rfl,by decide,by decide,fun D hD=>?_⟩
   have nLD:L≠D:=a8 hL3 hD;have nZD:Z≠D:=a8 hZ3 hD;have hD0:H D=none:=s3.free hD;refine cp (n:=48) (fun i ys H4=>∃xs:List Int,ys=zV xs/\xs.length=i/\(∀x∈xs,0≤x/\x < 10 ^ 38)/\H4 D=some (.lst ys)/\Same H3 H4) (fun _ _ _ ⟨_,_,_,_,h,_⟩=>h) ⟨[],rfl,rfl,(fun _ h=>nomatch h),a9,aj hD⟩ ?_ ?_
   . rintro i ys H4 hi ⟨xs,rfl,xl,xb,hD4,s4⟩;refine yesI ?_;obtain⟨x,hx,x0,_,x1⟩:=nm1.get (show i < 48 by omega)
     obtain⟨y,hy,y0,y1⟩:∃y,atI (zV xs1) (0+(i:Int) - 1)=some (V.int y)/\0≤y/\y < 2147483587:=by
      rcases Nat.eq_zero_or_pos i with e | e
      . subst e;obtain⟨y,hy,y0,_,y1⟩:=nm1.get (show 47 < 48 by decide)
        exact⟨y,(by rw[show(0:Int)+((0:Nat):Int) - 1 = -1 by omega];exact atI_m1 (by rw[ai,nm1.len];exact aL hy)),y0,y1 (by decide)⟩
      . obtain⟨y,hy,y0,_,y1⟩:=nm1.get (show i - 1 < 48 by omega)
        exact⟨y,az (by omega) (by rw[show((0:Int)+(i:Int) - 1).toNat=i - 1 by omega];exact aL hy),y0,y1 (by omega)⟩
     have x2:=x1 (by omega)
     refine⟨_,rfl,_,rfl,L,_,_,_,rfl,rfl,SqL.of (s4 _ _ hL3),az (by omega) (by rw[show((0:Int)+(i:Int)).toNat=i by omega];exact aL hx),_,_,rfl,rfl,⟨by decide,by decide,by decide⟩,_,_,rfl,rfl,.inl ⟨by omega,by omega⟩,_,rfl,_,rfl,_,_,rfl,rfl,L,_,_,_,rfl,rfl,SqL.of (s4 _ _ hL3),hy,_,_,rfl,rfl,hD4,by rw[ai,xl];exact au (by omega),xs++[x*10 ^ 28+y],bM _ _,by rw[List.length_append,xl];rfl,fun v hv=>?_,a9,fun b o e=>by rw[ac (a8 e hD)];exact s4 b o e⟩
     rcases List.mem_append.mp hv with h | h
     . exact xb v h
     . have:v=x*10 ^ 28+y:=by simpa using h
       subst this;omega
   rintro ys H4 ⟨xs2,rfl,xl2,xb2,hD4,s4⟩;refine⟨L,D,_,_,rfl,rfl,s4 _ _ hL3,hD4,by rw[ai,ai,nm1.len,xl2];exact aV (by decide),fun M hM=>?_⟩
   rw[zV_cat];have nmM:Nums 96 (xs1++xs2):=by
    refine⟨by rw[List.length_append,nm1.len,xl2],fun j y e=>?_⟩
    by_cases q:j < xs1.length
    . rw[List.getElem?_append_left q]at e;exact nm1.ok j y e
    . rw[List.getElem?_append_right (by omega)]at e
      have:=xb2 y (List.mem_of_getElem? e);have hl1:=nm1.len;exact⟨this.1,this.2,fun z=>by omega⟩
   have hM0:H M=none:=(s3.trans s4).free hM;have sM:Same H (upd H4 M (.lst (zV (xs1++xs2)))):=(Same.upd2 (s3.trans s4) hM0);have nZM:Z≠M:=a8 (s4 _ _ hZ3) hM;have hZM:(upd H4 M (.lst (zV (xs1++xs2)))) Z=some (.lst (zV ls)):=by rw[ac nZM];exact s4 _ _ hZ3
   have hMM:(upd H4 M (.lst (zV (xs1++xs2)))) M=some (.lst (zV (xs1++xs2))):=a9;generalize upd H4 M (.lst (zV (xs1++xs2)))=H5 at sM hZM hMM;refine⟨_,rfl,a,ns,1,rfl,sM.seq hS,_,_,rfl,rfl,⟨by decide,by decide⟩,_,_,rfl,rfl,(by show(0:Int) < 2;decide),rfl,_,rfl,?_⟩
   rw[d3];refine iteD (fun h1=>?_) (fun h1=>?_)
   . refine⟨_,rfl,by show 0≤sizeLine;exact aV (by decide),fun U hU=>?_⟩
     have nMU:M≠U:=a8 hMM hU;have nZU:Z≠U:=a8 hZM hU;refine⟨Z,U,_,_,rfl,rfl,SqL.of (by rw[ac nZU];exact hZM),SqL.of a9,bf ls,rfl,_,rfl,?_⟩
     have s6:Same H (upd H5 U (.lst [])):=(Same.upd2 sM (sM.free hU));have hM6:(upd H5 U (.lst [])) M=some (.lst (zV (xs1++xs2))):=by rw[ac nMU];exact hMM
     have hZ6:(upd H5 U (.lst [])) Z=some (.lst (zV ls)):=by rw[ac nZU];exact hZM
     generalize upd H5 U (.lst [])=H6 at s6 hM6 hZ6;show(if (!eqVs (zV ls) [])=true then _ else _)
     refine iteN (fun e=>?_) (fun e=>?_)
     . have hlp:0 < ls.length:=by
        rcases Nat.eq_zero_or_pos ls.length with z | z
        . rw[List.length_eq_zero_iff.mp z]at e;exact absurd e (by decide)
        . exact z
       refine⟨(96:Int),rfl,by decide,by decide,?_⟩
       refine bF (n:=96) (fun i σ H7=>∃(xs zs:List Int) (v3 v4 v5:Option V),σ=[some (.ref a),some (.ref M),some (.ref Z),v3,v4,v5]/\Nums 96 xs/\zs.length=ls.length/\H7 M=some (.lst (zV xs))/\H7 Z=some (.lst (zV zs))/\Same H H7) ⟨xs1++xs2,ls,_,none,none,rfl,nmM,rfl,hM6,hZ6,s6⟩ ?_ ?_
       . rintro i σ H7 hi ⟨xs,zs,v3,v4,v5,rfl,nm,zl,hM7,hZ7,s7⟩;refine⟨_,_,rfl,rfl,⟨by decide,by decide,by decide⟩,by show 2≤sizeLine;exact aV (by decide),fun p hp=>?_⟩
         refine⟨_,rfl,_,_,rfl,rfl,⟨by decide,by decide⟩,?_⟩
         obtain⟨bs,hbs,b0,b1,b2,b3⟩:∃bs:Int,atI [V.int 2147483587,V.int (10 ^ (38:Int).toNat)] ((0+(i:Int)) / 48)=some (V.int bs)/\0 < bs/\bs≤10 ^ 38/\(i < 48->bs=2147483587)/\bs < 2 ^ 200:=by
          by_cases h:i < 48
          . exact⟨2147483587,(by rw[show(0+(i:Int)) / 48=0 by omega];rfl),by decide,by decide,fun _=>rfl,by decide⟩
          . exact⟨10 ^ 38,(by rw[show(0+(i:Int)) / 48=1 by omega];rfl),by decide,by decide,fun z=>absurd z h,by decide⟩
         refine⟨p,_,_,_,rfl,rfl,SqL.of a9,hbs,?_⟩;have nMp:M≠p:=a8 hM7 hp;have nZp:Z≠p:=a8 hZ7 hp;have s8:Same H (upd H7 p (.lst [V.int 2147483587,V.int (10 ^ (38:Int).toNat)])):=(Same.upd2 s7 (s7.free hp));have hM8:(upd H7 p (.lst [V.int 2147483587,V.int (10 ^ (38:Int).toNat)])) M=some (.lst (zV xs)):=by rw[ac nMp];exact hM7
         have hZ8:(upd H7 p (.lst [V.int 2147483587,V.int (10 ^ (38:Int).toNat)])) Z=some (.lst (zV zs)):=by rw[ac nZp];exact hZ7
         generalize upd H7 p (.lst [V.int 2147483587,V.int (10 ^ (38:Int).toNat)])=H8 at s8 hM8 hZ8;refine⟨_,rfl,_,rfl,Z,_,rfl,.inl (SqL.of hZ8),_,_,rfl,rfl,(by rw[ai];omega),?_⟩
         rw[ai,zl];have j0:=Int.emod_nonneg (0+(i:Int)) (show((ls.length:Nat):Int)≠0 by omega)
         have j1:=Int.emod_lt_of_pos (0+(i:Int)) (show(0:Int) < ((ls.length:Nat):Int) by omega)
         obtain⟨j,hj⟩:∃j:Nat,(0+(i:Int)) % ((ls.length:Nat):Int)=(j:Int):=⟨_,(Int.toNat_of_nonneg j0).symm⟩;rw[hj]at j1;obtain⟨z,hz⟩:∃z,zs[j]? = some z:=⟨_,List.getElem?_eq_getElem (show j < zs.length by omega)⟩
         refine⟨_,rfl,_,rfl,Z,_,_,_,rfl,rfl,SqL.of hZ8,(by rw[hj];exact dO (aL hz)),_,rfl,_,_,rfl,rfl,b0,?_⟩
         refine⟨_,rfl,_,rfl,M,_,_,i,rfl,rfl,hM8,(by rw[ai,nm.len,show(0:Int)+(i:Int)=((i:Nat):Int) by omega];exact jI hi),?_⟩
         have q0:=Int.emod_nonneg z (show bs≠0 by omega)
         have q1:=Int.emod_lt_of_pos z b0;have nMZ:Z≠M:=nZM;have hZ9:(upd H8 M (.lst ((zV xs).set i (V.int (z % bs))))) Z=some (.lst (zV zs)):=by rw[ac nMZ];exact hZ8
         refine⟨_,rfl,_,rfl,Z,_,_,_,rfl,rfl,SqL.of hZ9,(by rw[hj];exact dO (aL hz)),_,rfl,_,_,rfl,rfl,⟨b0,b3⟩,?_⟩
         refine⟨_,rfl,_,rfl,Z,_,_,j,rfl,rfl,hZ9,(by rw[hj,ai];exact jI (by omega)),?_⟩
         refine⟨xs.set i (z % bs),zs.set j (z / bs),_,_,_,rfl,nm.set ⟨q0,by omega,fun h=>by rw[b2 h]at q1;rw[b2 h];exact q1⟩,by rw[List.length_set];exact zl,?_,?_,fun b o e=>?_⟩
         . rw[ac nMZ.symm,a9,jz]
         . rw[a9,jz]
         . rw[ac (a8 e hZ0),ac (a8 e hM0)];exact s8 b o e
       . rintro σ H7 ⟨xs,zs,v3,v4,v5,rfl,nm,zl,hM7,hZ7,s7⟩;exact⟨_,rfl,k M xs H7 s7 hM0 hM7 nm⟩
     . exact⟨_,rfl,k M _ H6 s6 hM0 hM6 nmM⟩
   . exact⟨_,rfl,k M _ H5 sM hM0 hMM nmM⟩
end
end Tw
namespace Tw
open PySem L2
open PySem.Builtin.Int (intBits)
section
variable {P:Program}{w:World}{K:PySem.W.Frag}{mg:Str->Option Value}{base:Heap}
def jO (K:PySem.W.Frag):Sp:=fun vs H Q _=>∃(a:Addr) (ns:List Int),vs=[.ref a]/\SqL K H a (zV ns)/\ns.length≤63 ∧
 ∀(T A N:Addr) (as:List Addr) (n:Nat) (rs:List Road) (xs:List Int) (H':Hp),H' T=some (.tup [.int n,.ref A,.ref N])->RoadsAt H' A as rs->Tree n rs->(∀r∈rs,r.2.2≤10 ^ 38)->H' N=some (.lst (zV xs))->Nums 96 xs->Same H H'->Q (.ref T) H'
theorem scTree:FnScope ["_law_script", "_law_numbers_here", "_law_first", "_law_cell", "_law_many", "_law_span", "_law_names_here", "_law_roads", "_law_k", "_law_number", "_law_back", "_law_a", "_law_long", "_law_length_here", "_law_road"] ["_law_script"] (ae gf):=⟨rfl,rfl,rfl,by decide +kernel,rfl,by decide +kernel,by decide +kernel⟩
theorem ok_tree {f fU fA fE:Addr}{fd fdU fdA fdE:FuncData}(F:Def K mg "_law_tree" gf ["_law_script"] f fd)(FU:Def K mg "_law_numbers" bP ["_law_script"] fU fdU)(FA:Def K mg "_law_cell_at" fo ["_law_script", "_law_k"] fA fdA)(FE:Def K mg "_law_names" dU ["_law_cell", "_law_many"] fE fdE)(GU:FnOk P w K mg base CX0 2 fU fdU ["_law_script"] (gQ K))(B:Bi K mg):FnOk P w K mg base CX0 3 f fd ["_law_script"] (jO K):=by
 have GA:FnOk P w K mg base CX0 1 fA fdA ["_law_script", "_law_k"] (jE K):=k7 FA B;have GE:FnOk P w K mg base CX0 1 fE fdE ["_law_cell", "_law_many"] jP:=ok_names FE B;refine F.fn.ok scTree (fun vs H Q E h=>?_) (fun cdv A outer s H vs Q E hr h=>?_)
 . obtain⟨a,ns,rfl,_⟩:=h;rfl
 . obtain⟨a,ns,rfl,hS,hl,k⟩:=h;have nd:=scTree.nd;refine⟨_,(ad (ao (i:=1) nd rfl (Or.inl rfl) (am GU (hr.mono (by decide)) rfl FU.mg FU.fn.kp FU.bn .nil aF (a7 (pv 0) af)))
    (ad (ao (i:=2) nd rfl (Or.inl rfl) (am GA (hr.mono (by decide)) rfl FA.mg FA.fn.kp FA.bn .nil aF (a7 (pv 0) (aH ag af))))
    (ad (ao (i:=3) nd rfl (Or.inl rfl) (am GA (hr.mono (by decide)) rfl FA.mg FA.fn.kp FA.bn .nil aF (a7 (pv 0) (aH ag af))))
    (ad (ao (i:=4) nd rfl (Or.inl rfl) (av (ixK K) (aG (bi (ak bo ag (ak b8 (ak cF (pv 2) ag) ag)) (aH ag (bi (ak bo ag (ak b8 (ak cF (pv 2) ag) ag)) af)))) (ak b8 (pv 2) ag) (fun _ _=>rfl)))
    (ad (ao (i:=5) nd rfl (Or.inl rfl) (av (ixK K) (aG (aH ag (aH ag (aH ag (aH ag af))))) (ak b8 (pv 3) ag) (fun _ _=>rfl)))
    (ad (ao (i:=6) nd rfl (Or.inl rfl) (am GE (hr.mono (by decide)) rfl FE.mg FE.fn.kp FE.bn .nil aF (bw (av (ixK K) (pv 1) ag (fun _ _=>rfl)) (a7 (pv 4) af))))
    (ad (ao (i:=7) nd rfl (Or.inl rfl) (aG af))
    (ad (bA PassesOwn.never rfl (gW rfl B.range (aH ag (a7 (pv 4) af))) (ay (i:=8) nd rfl (Or.inl rfl)) (ad (ao (i:=9) nd rfl (Or.inl rfl) (av (ixK K) (pv 1) (pv 8) (fun _ _=>rfl)))
    (ad (ao (i:=10) nd rfl (Or.inl rfl) (ak b8 (pv 9) (aD (call_min2 rfl) (by rfl) B.min PyProof.Rows.boot_min (a7 (pv 8) (a7 (pv 5) af)))))
    (ad (ao (i:=11) nd rfl (Or.inl rfl) (av (ixK K) (pv 6) (av (ixK K) (aG (bi (ak f9 (ak f9 (pv 8) ag) (pv 10)) (a7 (pv 10) af))) (f7 call_int1 (by rfl) B.int PyProof.Rows.boot_int (a7 (cD ja (ak b8 (pv 3) ag) ag (b9 _)) af)) (fun _ _=>rfl)) (fun _ _=>rfl)))
    (ad (ao (i:=12) nd rfl (Or.inl rfl) (av (ixK K) (aG (aH ag (aH ag (bi (ak bo (ak jH ag ag) (pv 9)) af)))) (ak b8 (ak cF (pv 9) ag) ag) (fun _ _=>rfl)))
    (ad (ao (i:=13) nd rfl (Or.inl rfl) (av (ixK K) (aG (aH ag (bi (ak bo ag (ak b8 (ak cF (pv 9) ag) ag)) (a7 (pv 12) (bi (ak bo ag (av (ixK K) (pv 1) (ak bo ag (pv 8)) (fun _ _=>rfl))) af))))) (ak b8 (ak cF (pv 3) ag) ag) (fun _ _=>rfl)))
    (ad (ao (i:=14) nd rfl (Or.inl rfl) (av (ixK K) (aG (eI (aG (a7 (pv 11) (bw (av (ixK K) (pv 6) (pv 8) (fun _ _=>rfl)) (a7 (pv 13) af)))) (eI (aG (bw (av (ixK K) (pv 6) (pv 8) (fun _ _=>rfl)) (a7 (pv 11) (a7 (pv 13) af)))) af))) (ak b8 (ak cF (pv 9) ag) ag) (fun _ _=>rfl)))
    (ah (bt (dQ PySem.F.plainAttrs_list PySem.F.slot_list_insert PySem.F.type_list_insert gZ (pv 7) (bi (ak b8 (ak cF (pv 9) ag) (ak bo (aD (lenK K) (by rfl) B.len PySem.boot_len (a7 (pv 7) af)) ag)) (a7 (pv 14) af))))))))))))
    (ah (aB (kZ (a7 (pv 4) (a7 (pv 7) (a7 (pv 1) af)))))))))))))),?_⟩
   refine⟨_,rfl,a,ns,rfl,hS,hl,fun N xs H1 s1 hN0 hN1 nm=>?_⟩;refine⟨_,rfl,a,ns,0,rfl,s1.seq hS,?_⟩;generalize ns.getD 0 0=c;refine⟨_,rfl,a,ns,1,rfl,s1.seq hS,?_⟩;generalize ns.getD 1 0=d;refine⟨_,rfl,_,_,rfl,rfl,⟨by decide,by decide⟩,_,_,rfl,rfl,(by show(0:Int) < 12;decide),_,_,rfl,rfl,
    _,rfl,_,_,rfl,rfl,⟨by decide,by decide⟩,_,_,rfl,rfl,(by show(0:Int) < 12;decide),_,_,rfl,rfl,by show 3≤sizeLine;exact aV (by decide),fun p hp=>?_⟩
   refine⟨_,rfl,_,_,rfl,rfl,(by show(0:Int) < 3;decide),?_⟩
   obtain⟨v,hv,hs,hat,_⟩:=cV (K:=K) (H:=upd H1 p (.lst [V.int (1+c / 3 % 12),V.int 12,V.int (1+c / 3 % 12)])) a9 (i:=c % 3) (Int.emod_nonneg _ (by decide)) (Int.emod_lt_of_pos _ (by decide))
   refine⟨p,_,_,v,rfl,rfl,hs,hat,?_⟩;obtain⟨m,rfl,m1,m2⟩:∃m:Nat,v=V.int m/\1≤m/\m≤12:=by
    simp only[List.mem_cons,List.not_mem_nil,or_false]at hv;rcases hv with rfl | rfl | rfl
    . exact⟨(1+c / 3 % 12).toNat,by congr 1;omega,by omega,by omega⟩
    . exact⟨12,rfl,by omega,by omega⟩
    . exact⟨(1+c / 3 % 12).toNat,by congr 1;omega,by omega,by omega⟩
   have s2:=s1.trans (aj (o:=.lst [V.int (1+c / 3 % 12),V.int 12,V.int (1+c / 3 % 12)]) hp);have hN2:(upd H1 p (.lst [V.int (1+c / 3 % 12),V.int 12,V.int (1+c / 3 % 12)])) N=some (.lst (zV xs)):=by rw[ac (a8 hN1 hp)];exact hN1
   generalize upd H1 p (.lst [V.int (1+c / 3 % 12),V.int 12,V.int (1+c / 3 % 12)])=H2 at s2 hN2;clear hs hat hp;refine⟨by show 4≤sizeLine;exact aV (by decide),fun p hp=>?_⟩
   refine⟨_,rfl,_,_,rfl,rfl,(by show(0:Int) < 4;decide),?_⟩
   obtain⟨v,hv,hs,hat,_⟩:=cV (K:=K) (H:=upd H2 p (.lst [V.int 12,V.int 1,V.int 1,V.int 3])) a9 (i:=d % 4) (Int.emod_nonneg _ (by decide)) (Int.emod_lt_of_pos _ (by decide))
   refine⟨p,_,_,v,rfl,rfl,hs,hat,?_⟩;obtain⟨sp,rfl,sp1⟩:∃sp:Int,v=V.int sp/\1≤sp:=by
    simp only[List.mem_cons,List.not_mem_nil,or_false]at hv;rcases hv with rfl | rfl | rfl | rfl
    . exact⟨12,rfl,by decide⟩
    . exact⟨1,rfl,by decide⟩
    . exact⟨1,rfl,by decide⟩
    . exact⟨3,rfl,by decide⟩
   have s3:=s2.trans (aj (o:=.lst [V.int 12,V.int 1,V.int 1,V.int 3]) hp);have hN3:(upd H2 p (.lst [V.int 12,V.int 1,V.int 1,V.int 3])) N=some (.lst (zV xs)):=by rw[ac (a8 hN2 hp)];exact hN2
   generalize upd H2 p (.lst [V.int 12,V.int 1,V.int 1,V.int 3])=H3 at s3 hN3;clear hs hat hp hv hN2 s2;obtain⟨c0,hc0,_⟩:=nm.get (show 47 < 96 by decide)
   refine⟨_,rfl,N,_,_,_,rfl,rfl,SqL.of hN3,az (by decide) (aL hc0),_,rfl,c0,m,rfl,m2,fun NL names H4 s4 hNL0 hNL4 pm=>?_⟩
   have nl:names.length=m:=by rw[pm.length_eq,bC]
   have nnd:names.Nodup:=pm.nodup_iff.mpr (j6 m);have hN4:=s4 _ _ hN3;have sm4:=s3.trans s4;refine⟨by show 0≤sizeLine;exact aV (by decide),fun RL hRL=>?_⟩
   have hRL0:H RL=none:=sm4.free hRL;have nNR:NL≠RL:=a8 hNL4 hRL;have nR:N≠RL:=a8 hN4 hRL;refine⟨_,rfl,(1:Int),(m:Int),rfl,⟨by decide,by decide,by omega,by omega⟩,?_⟩
   rw[show((m:Int) - 1).toNat=m - 1 by omega]
   refine bF (fun i σ H5=>∃(as:List Addr) (rs:List Road) (v8 v9 v10 v11 v12 v13 v14:Option V),σ=[some (.ref a),some (.ref N),some (.int c),some (.int d),some (.int m),some (.int sp),some (.ref NL),some (.ref RL),v8,v9,v10,v11,v12,v13,v14]/\RoadsAt H5 RL as rs/\Tr rs (names.take (i+1))/\(∀r∈rs,1≤r.2.2/\r.2.2≤10 ^ 38) ∧
    H5 NL=some (.lst (zV names))/\H5 N=some (.lst (zV xs))/\Same H H5) ?_ ?_ ?_
   . refine⟨[],[],none,none,none,none,none,none,none,rfl,⟨⟨a9,rfl,fun i p z e=>by simp at e⟩,List.nodup_nil⟩,?_,(fun r hr=>nomatch hr),by rw[ac nNR];exact hNL4,by rw[ac nR];exact hN4,(Same.upd2 sm4 hRL0)⟩
     match names,nl with
     | x::t,_=>exact .one x
     | [],e=>simp at e;omega
   . rintro i σ H5 hi ⟨as,rs,v8,v9,v10,v11,v12,v13,v14,rfl,hR5,tr,hlen,hNL5,hN5,sm5⟩;have rl:rs.length=i:=by
      have:=tr.length;rw[List.length_take]at this;omega
     have al:=hR5.len;obtain⟨x,hx,x0,_,x1⟩:=nm.get (show i+1 < 96 by omega)
     have x2:=x1 (by omega)
     refine⟨_,rfl,_,rfl,N,_,_,_,rfl,rfl,SqL.of hN5,az (by omega) (by rw[show(1+(i:Int)).toNat=i+1 by omega];exact aL hx),?_⟩
     have mp:0 < (if sp < 1+(i:Int)then sp else 1+(i:Int)):=by split<;>omega
     have ml:(if sp < 1+(i:Int)then sp else 1+(i:Int))≤1+(i:Int):=by split<;>omega
     refine⟨_,rfl,_,rfl,_,rfl,_,_,rfl,_,_,rfl,rfl,mp,?_⟩;have b0:=Int.emod_nonneg x (Int.ne_of_gt mp);have b1:=Int.emod_lt_of_pos x mp;obtain⟨b,hb⟩:∃b,b=x % (if sp < 1+(i:Int)then sp else 1+(i:Int)):=⟨_,rfl⟩
     rw[←hb]at b0 b1;refine⟨_,rfl,_,rfl,_,_,rfl,rfl,_,rfl,_,_,rfl,rfl,_,rfl,by show 2≤sizeLine;exact aV (by decide),fun p hp=>?_⟩
     refine⟨_,rfl,_,_,rfl,rfl,(by show(0:Int) < 4;decide),rfl,.inr ⟨_,rfl,?_⟩⟩
     obtain⟨o,ho,o0,o1⟩:∃o:Int,atI [V.int (1+(i:Int) - 1 - x % (if sp < 1+(i:Int)then sp else 1+(i:Int))),V.int (x % (if sp < 1+(i:Int)then sp else 1+(i:Int)))] (if decide (V.int (d % 4)=V.int 2)=true then 1 else 0)=some (V.int o)/\0≤o/\o < 1+(i:Int):=by
      rw[←hb];cases decide (V.int (d % 4)=V.int 2)with
      | true=>exact⟨b,rfl,b0,by omega⟩
      | false=>exact⟨1+(i:Int) - 1 - b,rfl,by omega,by omega⟩
     refine⟨p,_,_,_,rfl,rfl,SqL.of a9,ho,?_⟩;have s6:=aj (o:=.lst [V.int (1+(i:Int) - 1 - x % (if sp < 1+(i:Int)then sp else 1+(i:Int))),V.int (x % (if sp < 1+(i:Int)then sp else 1+(i:Int)))]) hp
     generalize upd H5 p (.lst [V.int (1+(i:Int) - 1 - x % (if sp < 1+(i:Int)then sp else 1+(i:Int))),V.int (x % (if sp < 1+(i:Int)then sp else 1+(i:Int)))])=H6 at s6
     clear hp;obtain⟨u,hu⟩:∃u,names[o.toNat]? = some u:=⟨names[o.toNat]'(by omega),List.getElem?_eq_getElem _⟩
     obtain⟨y,hy⟩:∃y,names[i+1]? = some y:=⟨names[i+1]'(by omega),List.getElem?_eq_getElem _⟩
     refine⟨NL,_,_,_,rfl,rfl,SqL.of (s6 _ _ hNL5),az o0 (aL hu),?_⟩;refine⟨_,_,rfl,rfl,⟨by decide,by decide,by decide⟩,_,rfl,_,_,rfl,rfl,by show 3≤sizeLine;exact aV (by decide),fun p hp=>?_⟩
     refine⟨_,rfl,_,_,rfl,rfl,⟨by decide,by decide⟩,_,_,rfl,rfl,(by show(0:Int) < 3;decide),?_⟩
     obtain⟨v,hv,hs,hat,_⟩:=cV (K:=K) (H:=upd H6 p (.lst [V.int 1,V.int 7,V.int (10 ^ (30:Int).toNat+x)])) a9 (i:=x / 16 % 3) (Int.emod_nonneg _ (by decide)) (Int.emod_lt_of_pos _ (by decide))
     refine⟨p,_,_,v,rfl,rfl,hs,hat,?_⟩;obtain⟨lg,rfl,lg0,lg1⟩:∃lg:Int,v=V.int lg/\1≤lg/\lg≤10 ^ 38:=by
      simp only[List.mem_cons,List.not_mem_nil,or_false]at hv;rcases hv with rfl | rfl | rfl
      . exact⟨1,rfl,by decide,by decide⟩
      . exact⟨7,rfl,by decide,by decide⟩
      . have e:(10:Int) ^ (30:Int).toNat=10 ^ 30:=rfl;exact⟨_,rfl,by rw[e];omega,by rw[e];omega⟩
     have s7:=s6.trans (aj (o:=.lst [V.int 1,V.int 7,V.int (10 ^ (30:Int).toNat+x)]) hp);generalize upd H6 p (.lst [V.int 1,V.int 7,V.int (10 ^ (30:Int).toNat+x)])=H7 at s7;clear hs hat hp hv s6;obtain⟨g,hg,g0,g1,_⟩:=nm.get (show 48+(i+1) < 96 by omega)
     refine⟨_,rfl,_,_,rfl,rfl,⟨by decide,by decide⟩,_,_,rfl,rfl,(by show(0:Int) < 9;decide),_,_,rfl,rfl,_,rfl,_,rfl,_,rfl,_,_,rfl,rfl,N,_,_,_,rfl,rfl,SqL.of (s7 _ _ hN5),az (by omega) (by rw[show(48+(1+(i:Int))).toNat=48+(i+1) by omega];exact aL hg),_,_,rfl,rfl,by show 4≤sizeLine;exact aV (by decide),fun p hp=>?_⟩
     refine⟨_,rfl,_,_,rfl,rfl,⟨by decide,by decide⟩,_,_,rfl,rfl,(by show(0:Int) < 4;decide),?_⟩
     obtain⟨v,hv,hs,hat,_⟩:=cV (K:=K) (H:=upd H7 p (.lst [V.int 1,V.int (1+x / 16 % 9),V.int lg,V.int (1+g)])) a9 (i:=d / 4 % 4) (Int.emod_nonneg _ (by decide)) (Int.emod_lt_of_pos _ (by decide))
     refine⟨p,_,_,v,rfl,rfl,hs,hat,?_⟩;obtain⟨len,rfl,l0,l1⟩:∃len:Int,v=V.int len/\1≤len/\len≤10 ^ 38:=by
      simp only[List.mem_cons,List.not_mem_nil,or_false]at hv;rcases hv with rfl | rfl | rfl | rfl
      . exact⟨1,rfl,by decide,by decide⟩
      . exact⟨_,rfl,by omega,by omega⟩
      . exact⟨_,rfl,lg0,lg1⟩
      . exact⟨_,rfl,by omega,by omega⟩
     have s8:=s7.trans (aj (o:=.lst [V.int 1,V.int (1+x / 16 % 9),V.int lg,V.int (1+g)]) hp);generalize upd H7 p (.lst [V.int 1,V.int (1+x / 16 % 9),V.int lg,V.int (1+g)])=H8 at s8;clear hs hat hp hv s7;have aty:atI (zV names) (1+(i:Int))=some (V.int y):=az (by omega) (by rw[show(1+(i:Int)).toNat=i+1 by omega];exact aL hy)
     refine⟨_,rfl,_,rfl,_,rfl,NL,_,_,_,rfl,rfl,SqL.of (s8 _ _ hNL5),aty,_,rfl,by show 3≤sizeLine;exact aV (by decide),fun q1 hq1=>?_⟩
     have s9:=s8.trans (aj (o:=.lst [V.int u,V.int y,V.int len]) hq1);refine⟨_,rfl,_,rfl,NL,_,_,_,rfl,rfl,SqL.of (s9 _ _ hNL5),aty,_,rfl,_,rfl,by show 3≤sizeLine;exact aV (by decide),fun q2 hq2=>?_⟩
     have s10:=s9.trans (aj (o:=.lst [V.int y,V.int u,V.int len]) hq2);refine⟨by show 2≤sizeLine;exact aV (by decide),fun q3 hq3=>?_⟩
     have s11:=s10.trans (aj (o:=.lst [V.ref q1,V.ref q2]) hq3);have n12:q1≠q2:=fun z=>by rw[←z,a9]at hq2;cases hq2
     have n13:q1≠q3:=fun z=>by rw[←z,ac n12,a9]at hq3;cases hq3
     have n23:q2≠q3:=fun z=>by rw[←z,a9]at hq3;cases hq3
     have f1:H5 q1=none:=s8.free hq1;have f2:H5 q2=none:=s9.free hq2;have e1:(upd (upd (upd H8 q1 (.lst [V.int u,V.int y,V.int len])) q2 (.lst [V.int y,V.int u,V.int len])) q3 (.lst [V.ref q1,V.ref q2])) q1=some (.lst [V.int u,V.int y,V.int len]):=by rw[ac n13,ac n12,a9]
     have e2:(upd (upd (upd H8 q1 (.lst [V.int u,V.int y,V.int len])) q2 (.lst [V.int y,V.int u,V.int len])) q3 (.lst [V.ref q1,V.ref q2])) q2=some (.lst [V.int y,V.int u,V.int len]):=by rw[ac n23,a9]
     have e3:(upd (upd (upd H8 q1 (.lst [V.int u,V.int y,V.int len])) q2 (.lst [V.int y,V.int u,V.int len])) q3 (.lst [V.ref q1,V.ref q2])) q3=some (.lst [V.ref q1,V.ref q2]):=a9;generalize upd (upd (upd H8 q1 (.lst [V.int u,V.int y,V.int len])) q2 (.lst [V.int y,V.int u,V.int len])) q3 (.lst [V.ref q1,V.ref q2])=H9 at s11 e1 e2 e3;refine⟨_,rfl,_,_,rfl,rfl,⟨by decide,by decide⟩,_,_,rfl,rfl,(by show(0:Int) < 2;decide),?_⟩
     obtain⟨q,r,hq,hat,q0,hrow,jn,rlen⟩:∃(q:Addr) (r:Road),(q=q1∨q=q2)/\atI [V.ref q1,V.ref q2] (x / 64 % 2)=some (V.ref q)/\H5 q=none/\H9 q=some (.lst (zV (rowI r)))/\Joins r u y/\r.2.2=len:=by
      have m0:=Int.emod_nonneg (x / 64) (show(2:Int)≠0 by decide)
      have m1:=Int.emod_lt_of_pos (x / 64) (show(0:Int) < 2 by decide)
      by_cases h:x / 64 % 2=0
      . exact⟨q1,(u,y,len),.inl rfl,(by rw[h];rfl),f1,e1,.inl ⟨rfl,rfl⟩,rfl⟩
      . exact⟨q2,(y,u,len),.inr rfl,(by rw[show x / 64 % 2=1 by omega];rfl),f2,e2,.inr ⟨rfl,rfl⟩,rfl⟩
     refine⟨q3,_,_,_,rfl,rfl,SqL.of e3,hat,?_⟩;have hR9:=s11 _ _ hR5.rows.top;refine⟨_,rfl,.inl ⟨rfl,_,SqL.of hR9⟩,_,rfl,_,_,rfl,rfl,⟨by decide,by decide⟩,_,rfl,RL,_,rfl,.inl (SqL.of hR9),_,_,rfl,rfl,_,_,rfl,rfl,(by omega),_,rfl,?_⟩
     have i0:=Int.emod_nonneg (x / 128) (show(((as.map V.ref).length:Nat):Int)+1≠0 by omega)
     have i1:=Int.emod_lt_of_pos (x / 128) (show(0:Int) < (((as.map V.ref).length:Nat):Int)+1 by omega)
     rw[List.length_map,al,rl]at i0 i1;obtain⟨j,hj⟩:∃j:Nat,x / 128 % (((as.map V.ref).length:Nat)+1:Int)=(j:Int):=by
      rw[List.length_map,al,rl];exact⟨_,(Int.toNat_of_nonneg i0).symm⟩
     have hj':=hj;rw[List.length_map,al,rl]at hj';refine⟨RL,_,j,_,rfl,(by rw[←hj]),hR9,by rw[List.length_map,al];omega,by rw[List.length_map,al];exact au (by omega),?_⟩
     refine⟨as.take j++q::as.drop j,rs.take j++r::rs.drop j,_,_,_,_,_,_,_,rfl,hR5.ins s11 q0 hrow (by omega),?_,?_,?_,?_,?_⟩
     . exact grow_step tr nnd (show o.toNat < i+1 by omega) (by omega) hu hy jn j
     . intro z hz;rcases List.mem_cons.mp ((eO rs j r).mem_iff.mp hz)with e | e
       . subst e;rw[rlen];exact⟨l0,l1⟩
       . exact hlen z e
     . rw[ac nNR];exact s11 _ _ hNL5
     . rw[ac nR];exact s11 _ _ hN5
     . intro b o e;rw[ac (a8 e hRL0)];exact s11 b o (sm5 b o e)
   rintro σ H5 ⟨as,rs,v8,v9,v10,v11,v12,v13,v14,rfl,hR5,tr,hlen,hNL5,hN5,sm5⟩;have tr0:Tree m rs:=by
    refine⟨m1,m2,tr.perm (.refl _) ?_,fun r hr=>(hlen r hr).1⟩;rw[show m - 1+1=m by omega,←nl,List.take_length]
    rw[nl];exact pm.symm
   refine⟨_,rfl,_,rfl,_,rfl,by show 3≤sizeLine;exact aV (by decide),fun T hT=>?_⟩
   have s6:=aj (o:=.tup [V.int m,V.ref RL,V.ref N]) hT;exact k T RL N as m rs xs _ a9 (hR5.mono s6) tr0 (fun r hr=>(hlen r hr).2) (s6 _ _ hN5) nm (sm5.trans s6)
end
end Tw
namespace Tw
open PySem L2
open PySem.Builtin.Int (intBits)
section
variable {P:Program}{w:World}{K:PySem.W.Frag}{mg:Str->Option Value}{base:Heap}
theorem RowsAt.snoc {H:Hp}{a q:Addr}{as:List Addr}{zss:List (List Int)}{z:List Int}(h:RowsAt H a as zss)(na:a∉as)(nq:a≠q)(hq:H q=some (.lst (zV z))):RowsAt (upd H a (.lst (as.map V.ref++[V.ref q]))) a (as++[q]) (zss++[z]):=by
 have hl:=h.len;refine⟨by rw[a9,List.map_append];rfl,by rw[List.length_append,List.length_append,hl];rfl,fun i p y e1 e2=>?_⟩
 by_cases hi:i < as.length
 . rw[List.getElem?_append_left hi]at e1;rw[List.getElem?_append_left (by omega)]at e2
   have:p≠a:=fun e=>na (e▸List.mem_of_getElem? e1);rw[ac this];exact h.row i p y e1 e2
 . rw[List.getElem?_append_right (by omega)]at e1
   rw[List.getElem?_append_right (by omega)]at e2
   have hz:i - as.length=0:=by have:=(List.getElem?_eq_some_iff.mp e1).1;simp at this;omega
   rw[hz]at e1;rw[←hl,hz]at e2;have e3:q=p:=by simpa using e1
   have e4:z=y:=by simpa using e2
   subst e3;subst e4;rw[ac nq.symm];exact hq
def kK:Sp:=fun vs H Q _=>∃(A:Addr) (as:List Addr) (zss:List (List Int)),vs=[.ref A]/\RowsAt H A as zss/\zss.length≤100 ∧
 ∀(D:Addr) (bs:List Addr) (H':Hp),RowsAt H' D bs zss->Same H H'->(∀b∈bs,H b=none)->H D=none->Q (.ref D) H'
theorem scCopy:FnScope ["_law_rows"] ["_law_rows"] (ae fm):=⟨rfl,rfl,rfl,by decide +kernel,rfl,by decide +kernel,by decide +kernel⟩
theorem ok_copy {f:Addr}{fd:FuncData}(F:Def K mg "_law_copy" fm ["_law_rows"] f fd)(B:Bi K mg):FnOk P w K mg base CX0 1 f fd ["_law_rows"] kK:=by
 refine F.fn.ok scCopy (fun vs H Q E h=>?_) (fun cdv A outer s H vs Q E hr h=>?_)
 . obtain⟨A,as,zss,rfl,_⟩:=h;rfl
 . obtain⟨A,as,zss,rfl,hR,hz,k⟩:=h;refine⟨_,(ah (aB (bK (ae fm).names ["_law_rows"] ["_law_rows", "_law_row"] (bg K (pv 0)) (fun _ _ _ _=>bL) (fun _ _ _ _=>(f7 (lO K) (by rfl) B.list PyProof.Rows.boot_list (a7 (pv 1) af)))))),?_⟩
   refine⟨_,rfl,A,rfl,⟨_,SqL.of hR.top⟩,fun D hD=>?_⟩;exact copy_rows hR hz hD (fun p H4 Qv zs hp kk=>⟨_,rfl,p,_,rfl,.inl (SqL.of hp),kk⟩) fun bs H2 hHd s2 fr2=>k D bs H2 hHd s2 fr2 hD
end
end Tw
namespace Tw
open PySem L2
open PySem.Builtin.Int (intBits)
section
variable {P:Program}{w:World}{K:PySem.W.Frag}{mg:Str->Option Value}{base:Heap}
theorem scLWhole:FnScope ["_law_found"] ["_law_found"] (ae d8):=⟨rfl,rfl,rfl,by decide +kernel,rfl,by decide +kernel,by decide +kernel⟩
theorem ok_lwhole {f:Addr}{fd:FuncData}(F:Def K mg "_law_whole" d8 ["_law_found"] f fd)(B:Bi K mg):FnOk P w K mg base CX0 1 f fd ["_law_found"] dE:=by
 refine F.fn.ok scLWhole (fun vs H Q E h=>?_) (fun cdv A outer s H vs Q E hr h=>?_)
 . obtain⟨i,rfl,_⟩:=h;rfl
 . obtain⟨i,rfl,k⟩:=h;refine⟨_,ah (aB (f8 (aD bX (by rfl) B.isinstance PyProof.Rows.boot_isinstance (a7 (pv 0) (a7 (eG (v:=.ty "int") rfl B.int PyProof.Rows.boot_int rfl) af)))
    (iA (l4 (aD bX (by rfl) B.isinstance PyProof.Rows.boot_isinstance (a7 (pv 0) (a7 (eG (v:=.ty "bool") rfl B.bool PyProof.Rows.boot_bool rfl) af))))))),?_⟩
   refine⟨_,rfl,_,_,_,_,rfl,.int i,B.ii,_,rfl,iteT ?_⟩;exact⟨_,rfl,_,_,_,_,rfl,.int i,B.ib,_,rfl,k⟩
end
end Tw
namespace Tw
open PySem L2
open PySem.Builtin.Int (intBits)
section
variable {P:Program}{w:World}{K:PySem.W.Frag}{mg:Str->Option Value}{base:Heap}
def kD (n:Nat)(f:Int->Int->Int):List (List Int):=(pl n).map fun g=>(pl n).map (f g)
theorem tabOf_get {n:Nat}{f:Int->Int->Int}{g:Int}(h:g∈pl n):(kD n f)[g.toNat]? = some ((pl n).map (f g)):=by
 have:=mem_pl.mp h;unfold kD;rw[List.getElem?_map,f6 (show g.toNat < n by omega),show((g.toNat:Nat):Int)=g by omega];rfl
theorem row_get {n:Nat}{f:Int->Int}{g:Int}(h:g∈pl n):((pl n).map f)[g.toNat]? = some (f g):=by
 have:=mem_pl.mp h;rw[List.getElem?_map,f6 (show g.toNat < n by omega),show((g.toNat:Nat):Int)=g by omega];rfl
def lH:Sp:=fun vs H Q _=>∃(n:Nat) (A:Addr) (as:List Addr) (rs:List Road) (f:Int->Int->Int),vs=[.int n,.ref A]/\RowsAt H A as (rs.map rowI)/\Tree n rs/\Met rs (pl n) f ∧
 ∀(L:Addr) (ts:List Addr) (H':Hp),Same H H'->H L=none->RowsAt H' L ts (kD n f)->Q (.ref L) H'
theorem scTab:FnScope ["_law_many", "_law_roads", "_law_table", "_law_start", "_law_row", "_law_k", "_law_a", "_law_b", "_law_length_here"] ["_law_many", "_law_roads"] (ae dh):=⟨rfl,rfl,rfl,by decide +kernel,rfl,by decide +kernel,by decide +kernel⟩
theorem ok_tab {f:Addr}{fd:FuncData}(F:Def K mg "_law_fars" dh ["_law_many", "_law_roads"] f fd)(B:Bi K mg):FnOk P w K mg base CX0 1 f fd ["_law_many", "_law_roads"] lH:=by
 refine F.fn.ok scTab (fun vs H Q E h=>?_) (fun cdv A outer s H vs Q E hr h=>?_)
 . obtain⟨n,A,as,rs,f,rfl,_⟩:=h;rfl
 . obtain⟨n,R,as,rs,f,rfl,hR,t,m,k⟩:=h;have nd:=scTab.nd;have hu:=dy hr;have th:=t.hi;have tl:=t.length;have al:=hR.len;rw[List.length_map]at al;refine⟨_,(ad (ao (i:=2) nd rfl (Or.inl rfl) (aG af))
    (ad (bA PassesOwn.never rfl (be rfl B.range (a7 (pv 0) af)) (ay (i:=3) nd rfl (Or.inl rfl)) (ad (ao (i:=4) nd rfl (Or.inr rfl) (k4 (iZ (pv 3) ag jX) rfl rfl (by simp) (by decide)))
    (ad (bA PassesOwn.never rfl (be rfl B.range (a7 (pv 0) af)) (ay (i:=5) nd rfl (Or.inl rfl)) (ah (bA PassesOwn.never rfl (bg K (pv 1)) (jG rfl (bh (ay (i:=6) nd rfl (Or.inl rfl)) (bh (ay (i:=7) nd rfl (Or.inl rfl)) (bh (ay (i:=8) nd rfl (Or.inl rfl)) eE)))) (ad (bG (PW.pt (eY (eZ (l5 hu (pv 6) (pv 4))) (dF (eZ (dI hu (pv 7) (pv 4)))))) (ah (dG hu (pv 4) (pv 7) (ak bo (c7 hu (pv 4) (pv 6) (fun _ _=>rfl)) (pv 8)) rfl)) aQ)
    (ah (bG (PW.pt (eY (eZ (l5 hu (pv 7) (pv 4))) (dF (eZ (dI hu (pv 6) (pv 4)))))) (ah (dG hu (pv 4) (pv 6) (ak bo (c7 hu (pv 4) (pv 7) (fun _ _=>rfl)) (pv 8)) rfl)) aQ))))))
    (ah (bt (dQ PySem.F.plainAttrs_list PySem.F.slot_list_append PySem.F.type_list_append bN (pv 2) (a7 (bK (ae dh).names ["_law_many", "_law_roads", "_law_table", "_law_start", "_law_row", "_law_k", "_law_a", "_law_b", "_law_length_here"] ["_law_many", "_law_roads", "_law_table", "_law_start", "_law_row", "_law_k", "_law_a", "_law_b", "_law_length_here", "_law_place"] (be rfl B.range (a7 (pv 0) af)) (fun _ _ _ _=>bL) (fun _ _ _ _=>(c7 hu (pv 4) (pv 9) (fun _ _=>rfl)))) af)))))))
    (ah (aB (pv 2))))),?_⟩
   refine⟨by show 0≤sizeLine;exact aV (by decide),fun T hT=>?_⟩
   refine⟨_,rfl,(n:Int),rfl,by omega,by omega,?_⟩
   rw[Int.toNat_natCast];refine bF (fun g σ H2=>∃(ts:List Addr) (v3 v4 v5 v6 v7 v8:Option V),σ=[some (.int n),some (.ref R),some (.ref T),v3,v4,v5,v6,v7,v8]/\RowsAt H2 T ts (((pl n).take g).map fun g=>(pl n).map (f g))/\T∉ts/\Same H H2) ⟨[],none,none,none,none,none,none,rfl,⟨a9,rfl,fun i p z e=>by simp at e⟩,(fun h=>nomatch h),aj hT⟩ ?_ ?_
   . rintro g σ H2 hg ⟨ts,v3,v4,v5,v6,v7,v8,rfl,hT2,nT2,s2⟩;have gm:(0:Int)+(g:Int)∈pl n:=mem_pl.mpr ⟨by omega,by omega⟩
     intro S hS;refine⟨_,rfl,a9,[(Sum.inl (0+(g:Int)),V.int 0)],rfl,by show 1≤15;decide,?_⟩
     have eS:dY [] [((Sum.inl (0+(g:Int)):Key),V.int 0)]=dV [(0+(g:Int),0)]:=rfl;rw[eS];have S0:∀{b:Addr} {o:HO},H2 b=some o->b≠S:=fun e=>a8 e hS;refine⟨_,rfl,(n:Int),rfl,by omega,by omega,?_⟩
     rw[Int.toNat_natCast];refine bF (fun i σ H3=>∃(fd:List (Int×Int)) (v5 v6 v7 v8:Option V),σ=[some (.int n),some (.ref R),some (.ref T),some (.int (0+(g:Int))),some (.ref S),v5,v6,v7,v8]/\Gr rs n f (0+(g:Int)) fd/\H3 S=some (.dK (dV fd))/\Same H2 H3/\(n≤fd.length∨i+1≤fd.length)) ?_ ?_ ?_
     . exact⟨[(0+(g:Int),0)],v5,v6,v7,v8,rfl,Gr.start m gm,a9,fun b o e=>by rw[ac (S0 e),ac (S0 e)];exact e,.inr (by show 1≤1;decide)⟩
     . rintro i σ H3 hi ⟨fd0,v5,v6,v7,v8,rfl,g0,hS3,s3,hlen0⟩;refine⟨_,rfl,R,rfl,⟨_,SqL.of (s3 _ _ (s2 _ _ hR.top))⟩,d0 (K:=K) (a:=R) (xs:=as.map V.ref) (fun j σ H4=>∃(fd:List (Int×Int)) (v6 v7 v8:Option V),σ=[some (.int n),some (.ref R),some (.ref T),some (.int (0+(g:Int))),some (.ref S),some (.int (0+(i:Int))),v6,v7,v8]/\Gr rs n f (0+(g:Int)) fd/\H4 S=some (.dK (dV fd))/\Same H2 H4/\fd0.length≤fd.length ∧
        (fd0.length < fd.length∨(fd=fd0/\∀r∈rs.take j,r.1∈fd.map (·.1)<->r.2.1∈fd.map (·.1)))) ⟨fd0,v6,v7,v8,rfl,g0,hS3,s3,Nat.le_refl _,.inr ⟨rfl,fun r hr=>by simp at hr⟩⟩ (fun j σ H4 _ ⟨_,_,_,_,_,_,_,h,_⟩=>SqL.of (h _ _ (s2 _ _ hR.top))) ?_ ?_⟩
       . rintro j y σ H4 hj ⟨fd1,v6,v7,v8,rfl,g1,hS4,s4,le1,or1⟩;obtain⟨p,hp,rfl⟩:=dM hj;have hjl:j < rs.length:=by rw[←al];exact(List.getElem?_eq_some_iff.mp hp).1
         obtain⟨r,er⟩:∃r,rs[j]? = some r:=⟨_,List.getElem?_eq_getElem hjl⟩;have hrm:=List.mem_of_getElem? er;have hrow:H4 p=some (.lst [.int r.1,.int r.2.1,.int r.2.2]):=s4 _ _ (s2 _ _ (hR.row j p (rowI r) hp (by rw[List.getElem?_map,er];rfl)))
         obtain⟨pm1,pm2,_⟩:=t.tr.places r hrm;refine⟨p,_,rfl,SqL.of hrow,rfl,_,_,rfl,_,_,rfl,_,_,rfl,rfl,?_⟩;have step:∀{fdx:List (Int×Int)} {Hx:Hp} {u x:Int},Gr rs n f (0+(g:Int)) fdx->Hx S=some (.dK (dV fdx))->Same H2 Hx->Joins r u x->x∈pl n->u∈fdx.map (·.1)->x∉fdx.map (·.1) →
          ∃du:Int,DGet Hx S (V.int u) (some (V.int du))/\DPut Hx S (V.int x) (V.int (du+r.2.2)) (upd Hx S (.dK (dV (fdx++[(x,du+r.2.2)]))))/\Gr rs n f (0+(g:Int)) (fdx++[(x,du+r.2.2)]):=fun{fdx Hx u x} gx hSx sx jn xm hu1 hx=>by
          obtain⟨⟨u',du⟩,hum,eu⟩:=List.mem_map.mp hu1;have eu':u'=u:=eu;subst eu';have l2:fdx.length≤12:=by
           have:=bx n (fdx.map (·.1)) gx.nd fun x hx=>mem_pl.mp (gx.rng x hx);rw[List.length_map]at this;omega
          refine⟨du,.inl ⟨_,Sum.inl u',.inl hSx,rfl,(dC gx.nd hum).symm⟩,?_,gx.grow m t.len hrm jn xm hum hx⟩;have:=DPut.k (k:=Sum.inl x) (v:=V.int (du+r.2.2)) hSx (by rw[cf];exact au (by omega))
          rw[iK,jV hx]at this;exact this
         refine⟨_,rfl,_,rfl,S,_,rfl,DGet.k (k:=Sum.inl r.1) hS4,_,rfl,?_⟩;rw[gG];refine iteD (fun h1=>?a) (fun h1=>?c)
         case' a =>
          refine⟨_,rfl,_,rfl,S,_,rfl,DGet.k (k:=Sum.inl r.2.1) hS4,_,rfl,?_⟩;rw[gG];refine iteN (fun h2=>?a1) (fun h2=>?a2)
         case' a1 =>
          obtain⟨du,hget,hput,gx⟩:=step g1 hS4 s4 (.inl ⟨rfl,rfl⟩) pm2 h1 (of_decide_eq_false h2);refine⟨_,rfl,_,rfl,S,_,rfl,hget,_,rfl,_,_,rfl,rfl,_,rfl,_,rfl,S,_,rfl,hput,?_⟩;have ex:∃fdx,Gr rs n f (0+(g:Int)) fdx/\(upd H4 S (.dK (dV (fd1++[(r.2.1,du+r.2.2)])))) S=some (.dK (dV fdx))/\Same H2 (upd H4 S (.dK (dV (fd1++[(r.2.1,du+r.2.2)]))))/\fd0.length≤fdx.length/\(fd0.length < fdx.length∨(fdx=fd0/\(∀r∈rs.take j,r.1∈fdx.map (·.1)<->r.2.1∈fdx.map (·.1))/\(r.1∈fdx.map (·.1)->r.2.1∈fdx.map (·.1)))):=
           ⟨_,gx,a9,fun b o e=>by rw[ac (S0 e)];exact s4 b o e,by rw[List.length_append];omega,.inl (by rw[List.length_append];show fd0.length < fd1.length+1;omega)⟩
          clear hget hput
         case' a2 =>
          have ex:∃fdx,Gr rs n f (0+(g:Int)) fdx/\H4 S=some (.dK (dV fdx))/\Same H2 H4/\fd0.length≤fdx.length/\(fd0.length < fdx.length∨(fdx=fd0/\(∀r∈rs.take j,r.1∈fdx.map (·.1)<->r.2.1∈fdx.map (·.1))/\(r.1∈fdx.map (·.1)->r.2.1∈fdx.map (·.1)))):=
           ⟨fd1,g1,hS4,s4,le1,or1.imp id fun h=>⟨h.1,h.2,fun _=>of_decide_eq_true h2⟩⟩
         case' c =>
          have ex:∃fdx,Gr rs n f (0+(g:Int)) fdx/\H4 S=some (.dK (dV fdx))/\Same H2 H4/\fd0.length≤fdx.length/\(fd0.length < fdx.length∨(fdx=fd0/\(∀r∈rs.take j,r.1∈fdx.map (·.1)<->r.2.1∈fdx.map (·.1))/\(r.1∈fdx.map (·.1)->r.2.1∈fdx.map (·.1)))):=
           ⟨fd1,g1,hS4,s4,le1,or1.imp id fun h=>⟨h.1,h.2,fun z=>absurd z h1⟩⟩
         all_goals
          obtain⟨fdx,gx,hSx,sx,lex,orx⟩:=ex;have fin:∀{fdy:List (Int×Int)},(fd0.length < fdy.length∨(fdy=fd0/\(∀r∈rs.take j,r.1∈fdy.map (·.1)<->r.2.1∈fdy.map (·.1))/\(r.1∈fdy.map (·.1)<->r.2.1∈fdy.map (·.1))))->(fd0.length < fdy.length∨(fdy=fd0/\∀r∈rs.take (j+1),r.1∈fdy.map (·.1)<->r.2.1∈fdy.map (·.1))):=fun{fdy} h=>by
           refine h.imp id fun⟨h1,h2,h3⟩=>⟨h1,fun x hx=>?_⟩;rw[List.take_add_one,er,List.mem_append]at hx;rcases hx with hx | hx
           . exact h2 x hx
           . have:x=r:=by simpa using hx
             rw[this];exact h3
          refine⟨_,rfl,_,rfl,S,_,rfl,DGet.k (k:=Sum.inl r.2.1) hSx,_,rfl,?_⟩;rw[gG];refine iteD (fun q1=>?_) (fun q1=>?_)
          . refine⟨_,rfl,_,rfl,S,_,rfl,DGet.k (k:=Sum.inl r.1) hSx,_,rfl,?_⟩;rw[gG];refine iteN (fun q2=>?_) (fun q2=>?_)
            . obtain⟨du,hget,hput,gy⟩:=step gx hSx sx (.inr ⟨rfl,rfl⟩) pm1 q1 (of_decide_eq_false q2);refine⟨_,rfl,_,rfl,S,_,rfl,hget,_,rfl,_,_,rfl,rfl,_,rfl,_,rfl,S,_,rfl,hput,?_⟩;exact⟨_,_,_,_,rfl,gy,a9,fun b o e=>by rw[ac (S0 e)];exact sx b o e,by rw[List.length_append];omega,.inl (by rw[List.length_append];show fd0.length < fdx.length+1;omega)⟩
            . exact⟨fdx,_,_,_,rfl,gx,hSx,sx,lex,fin (orx.imp id fun h=>⟨h.1,h.2.1,⟨h.2.2,fun _=>of_decide_eq_true q2⟩⟩)⟩
          . exact⟨fdx,_,_,_,rfl,gx,hSx,sx,lex,fin (orx.imp id fun h=>⟨h.1,h.2.1,⟨h.2.2,fun z=>absurd z q1⟩⟩)⟩
       . rintro σ H4 ⟨fd1,v6,v7,v8,rfl,g1,hS4,s4,le1,or1⟩;refine⟨fd1,_,_,_,_,rfl,g1,hS4,s4,?_⟩;rcases or1 with h | ⟨h,h'⟩
         . rcases hlen0 with z | z
           . left;omega
           . right;omega
         . left
           rw[List.length_map,al,List.take_length]at h';exact g1.full t h'
     rintro σ H3 ⟨fd1,v5,v6,v7,v8,rfl,g1,hS3,s3,hlen⟩;have hn:n≤fd1.length:=by omega
     have all:=g1.length hn;have hT3:=hT2.mono s3;refine⟨_,rfl,.inl ⟨rfl,_,SqL.of hT3.top⟩,_,rfl,(n:Int),rfl,by omega,by omega,fun L hL=>?_⟩
     rw[Int.toNat_natCast];refine cp (fun i ys H4=>ys=zV (((pl n).take i).map (f (0+(g:Int))))/\H4 L=some (.lst ys)/\Same H3 H4) (fun _ _ _ h=>h.2.1) ⟨rfl,a9,aj hL⟩ ?_ ?_
     . rintro i ys H4 hi ⟨rfl,hL4,s4⟩;refine yesI ?_;obtain⟨⟨p,d⟩,hpd,ep⟩:=List.mem_map.mp (all (i:Int) (mem_pl.mpr ⟨by omega,by omega⟩))
       have ep':p=(i:Int):=ep;subst ep';have hget:DGet H4 S (V.int (0+(i:Int))) (some (V.int d)):=by
        rw[show(0:Int)+(i:Int)=(i:Int) by omega]
        exact .inl ⟨_,Sum.inl (i:Int),.inl (s4 _ _ hS3),rfl,(dC g1.nd hpd).symm⟩
       refine⟨_,rfl,_,rfl,S,_,rfl,hget,hL4,by rw[ai,List.length_map,List.length_take];exact au (by omega),?_,a9,fun b o e=>by rw[ac (a8 e hL)];exact s4 b o e⟩
       rw[jN hi,List.map_append,g1.val _ d hpd];exact bM _ _
     . rintro ys H4 ⟨rfl,hL4,s4⟩;rw[List.take_of_length_le (by rw[bC];exact Nat.le_refl _)]at hL4
       have hT4:=hT3.mono s4;have nTL:T≠L:=a8 hT3.top hL;have tsl:ts.length=g:=by rw[hT2.len,List.length_map,List.length_take,bC];omega
       refine⟨T,_,_,rfl,rfl,hT4.top,by rw[List.length_map,tsl];exact au (by omega),?_⟩
       refine⟨ts++[L],_,_,_,_,_,_,rfl,?_,?_,fun b o e=>?_⟩
       . have:=hT4.snoc nT2 nTL hL4;rw[jN hg,List.map_append];rw[show(0:Int)+(g:Int)=(g:Int) by omega]at this
         exact this
       . intro hm;rcases List.mem_append.mp hm with z | z
         . exact nT2 z
         . exact nTL (by simpa using z)
       . rw[ac (a8 e hT)];exact s4 _ _ (s3 _ _ (s2 b o e))
   . rintro σ H2 ⟨ts,v3,v4,v5,v6,v7,v8,rfl,hT2,nT2,s2⟩;rw[List.take_of_length_le (by rw[bC];exact Nat.le_refl _)]at hT2
     exact⟨_,rfl,k T ts H2 s2 hT hT2⟩
end
end Tw
namespace Tw
open PySem L2
end Tw
namespace Tw
open PySem L2
open PyProof.Rows (firstMet firstMet_any firstMet_succ)
theorem iH (v:Int)(l:List Int):inV (.int v) (zV l)=decide (v∈l):=by
 unfold inV;by_cases h:v∈l
 . rw[decide_eq_true h,List.any_eq_true];exact⟨.int v,List.mem_map.mpr ⟨v,h,rfl⟩,by show(v == v)=true;exact beq_self_eq_true v⟩
 . rw[decide_eq_false h,List.any_eq_false];rintro y hy;obtain⟨x,hx,rfl⟩:=List.mem_map.mp hy;show ¬(x == v)=true;rw[beq_iff_eq];rintro rfl;exact h hx
theorem iI:∀(a b:List Int),eqVs (zV a) (zV b)=decide (a=b):=by
 intro a b;by_cases e:a=b
 . subst e;rw[dN (bf _),decide_eq_true rfl]
 . rw[decide_eq_false e];unfold eqVs;rw[ai,ai];by_cases hl:a.length=b.length
   . rw[beq_iff_eq.mpr hl,Bool.true_and];rw[List.all_eq_false];apply Classical.byContradiction;intro hn;apply e;refine List.ext_getElem hl fun i h1 h2=>?_;apply Classical.byContradiction;intro ne;apply hn;refine⟨i,List.mem_range.mpr h1,?_⟩;have g1:(zV a).getD i .non=V.int a[i]:=by rw[List.getD_eq_getElem?_getD,aL (List.getElem?_eq_getElem h1)];rfl
     have g2:(zV b).getD i .non=V.int b[i]:=by rw[List.getD_eq_getElem?_getD,aL (List.getElem?_eq_getElem h2)];rfl
     rw[g1,g2];show ¬(a[i] == b[i])=true;rw[beq_iff_eq];exact ne
   . rw[beq_eq_false_iff_ne.mpr hl,Bool.false_and]
section
variable {P:Program}{w:World}{K:PySem.W.Frag}{mg:Str->Option Value}{base:Heap}
def spOn:Sp:=fun vs H Q _=>∃(n:Nat) (R:Addr) (as:List Addr) (rs:List Road) (a b:Int) (k:Nat) (r:Road),vs=[.ref R,.int a,.int b]/\RowsAt H R as (rs.map rowI)/\Tree n rs/\rs[k]? = some r/\Joins r a b/\∀H':Hp,Same H H'->Q (.int (k:Nat)) H'
theorem scOn:FnScope ["_law_roads", "_law_a", "_law_b", "_law_k"] ["_law_roads", "_law_a", "_law_b"] (ae sOn):=⟨rfl,rfl,rfl,by decide +kernel,rfl,by decide +kernel,by decide +kernel⟩
theorem ok_on {f:Addr}{fd:FuncData}(F:Def K mg "_law_on" sOn ["_law_roads", "_law_a", "_law_b"] f fd)(B:Bi K mg):FnOk P w K mg base CX0 1 f fd ["_law_roads", "_law_a", "_law_b"] spOn:=by
 refine F.fn.ok scOn (fun vs H Q E h=>?_) (fun cdv A outer s H vs Q E hr h=>?_)
 . obtain⟨n,R,as,rs,a,b,k,r,rfl,_⟩:=h;rfl
 . obtain⟨n,R,as,rs,a,b,k,r,rfl,hR,t,hk,jn,q⟩:=h;have nd:=scOn.nd;have hu:=dy hr;have th:=t.hi;have tl:=t.length;have al:=hR.len;rw[List.length_map]at al;have kl:k < rs.length:=(List.getElem?_eq_some_iff.mp hk).1;refine⟨_,(ad (bA PassesOwn.never rfl (be rfl B.range (a7 (aD (lenK K) (by rfl) B.len PySem.boot_len (a7 (pv 0) af)) af)) (ay (i:=3) nd rfl (Or.inl rfl)) (ah (bG (PW.pt (ft (aJ (k6 K (Nat.lt_of_succ_lt hu)) (cj (slK K) (av (ixK K) (pv 0) (pv 3) (fun _ _=>rfl)) dH (cB ag)) (aG (a7 (pv 1) (a7 (pv 2) af))) (b9 _)) (eX (aJ (k6 K (Nat.lt_of_succ_lt hu)) (cj (slK K) (av (ixK K) (pv 0) (pv 3) (fun _ _=>rfl)) dH (cB ag)) (aG (a7 (pv 2) (a7 (pv 1) af))) (b9 _))))) (ah (aB (pv 3))) aQ)))
    (ah (aB (j7 g5 ag)))),?_⟩
   refine⟨_,rfl,R,_,rfl,.inl (SqL.of hR.top),_,rfl,by omega,by rw[List.length_map];omega,?_⟩
   rw[Int.toNat_natCast,List.length_map,al];refine bF (fun i σ H2=>∃v3:Option V,σ=[some (.ref R),some (.int a),some (.int b),v3]/\i≤k/\Same H H2) ⟨none,rfl,Nat.zero_le _,Same.refl _⟩ ?_ ?_
   . rintro i σ H2 hi ⟨v3,rfl,ik,s2⟩;obtain⟨p,hp,hrow⟩:=hR.get (i:=i) (z:=rowI rs[i]) (by rw[List.getElem?_map,List.getElem?_eq_getElem hi];rfl)
     have ei:rs[i]? = some rs[i]:=List.getElem?_eq_getElem hi;have e0:((0:Int)+(i:Int)).toNat=i:=by omega
     have look:∀(H3:Hp) (x y:Int),Same H H3->∃c:Bool,(c=true<->rs[i].1=x/\rs[i].2.1=y)/\eqVs (cutV (zV (rowI rs[i])) none (some 2)) (zV [x,y])=c:=fun H3 x y _=>by
      refine⟨_,?_,rfl⟩;show eqVs (zV [rs[i].1,rs[i].2.1]) (zV [x,y])=true<->_;rw[iI,decide_eq_true_iff];simp only[List.cons.injEq,and_true]
     refine⟨_,rfl,_,rfl,R,_,_,_,rfl,rfl,SqL.of (s2 _ _ hR.top),az (by omega) (by rw[e0];exact c6 hp),_,rfl,p,_,rfl,SqL.of (s2 _ _ hrow),fun p1 hp1=>?_⟩
     refine⟨_,rfl,_,rfl,by show 2≤sizeLine;exact aV (by decide),fun p2 hp2=>?_⟩
     have hp1':(upd (upd H2 p1 (.lst (cutV (zV (rowI rs[i])) none (some 2)))) p2 (.lst [V.int a,V.int b])) p1=some (.lst (cutV (zV (rowI rs[i])) none (some 2))):=by rw[ac (a8 a9 hp2)];exact a9
     refine⟨p1,p2,_,_,rfl,rfl,SqL.of hp1',SqL.of a9,rfl,rfl,_,rfl,?_⟩;have s3:=s2.trans ((aj (o:=.lst (cutV (zV (rowI rs[i])) none (some 2))) hp1).trans (aj (o:=.lst [V.int a,V.int b]) hp2));generalize upd (upd H2 p1 (.lst (cutV (zV (rowI rs[i])) none (some 2)))) p2 (.lst [V.int a,V.int b])=H3 at s3;clear hp1' hp1 hp2;obtain⟨c1,hc1,ec1⟩:=look H3 a b s3;show(if eqVs (cutV (zV (rowI rs[i])) none (some 2)) (zV [a,b])=true then _ else _)
     rw[ec1];have done:Joins rs[i] a b->∀H',Same H H'->Q (.int (0+(i:Int))) H':=fun j H' s'=>by
      have:=t.idx ei hk j jn;rw[show(0:Int)+(i:Int)=((k:Nat):Int) by omega]
      exact q H' s'
     refine iteB (fun e=>⟨_,rfl,done (.inl (hc1.mp e)) H3 s3⟩) (fun e=>?_);refine⟨_,rfl,_,rfl,R,_,_,_,rfl,rfl,SqL.of (s3 _ _ hR.top),az (by omega) (by rw[e0];exact c6 hp),_,rfl,p,_,rfl,SqL.of (s3 _ _ hrow),fun p1 hp1=>?_⟩
     refine⟨_,rfl,_,rfl,by show 2≤sizeLine;exact aV (by decide),fun p2 hp2=>?_⟩
     have hp1':(upd (upd H3 p1 (.lst (cutV (zV (rowI rs[i])) none (some 2)))) p2 (.lst [V.int b,V.int a])) p1=some (.lst (cutV (zV (rowI rs[i])) none (some 2))):=by rw[ac (a8 a9 hp2)];exact a9
     refine⟨p1,p2,_,_,rfl,rfl,SqL.of hp1',SqL.of a9,rfl,rfl,_,rfl,?_⟩;have s4:=s3.trans ((aj (o:=.lst (cutV (zV (rowI rs[i])) none (some 2))) hp1).trans (aj (o:=.lst [V.int b,V.int a]) hp2));generalize upd (upd H3 p1 (.lst (cutV (zV (rowI rs[i])) none (some 2)))) p2 (.lst [V.int b,V.int a])=H4 at s4;clear hp1' hp1 hp2;obtain⟨c2,hc2,ec2⟩:=look H4 b a s4;show(if eqVs (cutV (zV (rowI rs[i])) none (some 2)) (zV [b,a])=true then _ else _)
     rw[ec2];refine iteB (fun e2=>⟨_,rfl,done (.inr (hc2.mp e2)) H4 s4⟩) (fun e2=>?_);refine⟨_,rfl,?_,s4⟩;apply Classical.byContradiction;intro hn;have:i=k:=by omega
     subst this;rw[ei]at hk;cases hk;rcases jn with h | h
     . rw[hc1.mpr h]at e;cases e
     . rw[hc2.mpr h]at e2;cases e2
   . rintro σ H2 ⟨v3,rfl,ik,s2⟩;omega
end
end Tw
namespace Tw
open PySem L2
open PySem.Builtin.Int (intBits)
section
variable {P:Program}{w:World}{K:PySem.W.Frag}{mg:Str->Option Value}{base:Heap}
def kG:Sp:=fun vs H Q _=>∃(n:Nat) (R:Addr) (as:List Addr) (rs:List Road) (f:Int->Int->Int) (r0:Road) (s o:Int),vs=[.ref R,.int s,.int o]/\RowsAt H R as (rs.map rowI)/\Tree n rs/\Met rs (pl n) f/\r0∈rs/\Joins r0 s o ∧
 ∀(L:Addr) (fd:List Int) (H':Hp),Same H H'->H L=none->H' L=some (.lst (zV fd))->fd.Perm (jF n f s o)->Q (.ref L) H'
theorem scSide:FnScope ["_law_roads", "_law_start", "_law_other", "_law_found", "_law_k", "_law_a", "_law_b", "_law_length_here"] ["_law_roads", "_law_start", "_law_other"] (ae gg):=⟨rfl,rfl,rfl,by decide +kernel,rfl,by decide +kernel,by decide +kernel⟩
theorem ok_side {f:Addr}{fd:FuncData}(F:Def K mg "_law_side" gg ["_law_roads", "_law_start", "_law_other"] f fd)(B:Bi K mg):FnOk P w K mg base CX0 1 f fd ["_law_roads", "_law_start", "_law_other"] kG:=by
 refine F.fn.ok scSide (fun vs H Q E h=>?_) (fun cdv A outer s H vs Q E hr h=>?_)
 . obtain⟨n,R,as,rs,f,r0,s,o,rfl,_⟩:=h;rfl
 . obtain⟨n,R,as,rs,f,r0,s,o,rfl,hR,t,m,h0,j0,k⟩:=h;have nd:=scSide.nd;have hu:=dy hr;have th:=t.hi;have tl:=t.length;have al:=hR.len;rw[List.length_map]at al;refine⟨_,(ad (ao (i:=3) nd rfl (Or.inl rfl) (aG (a7 (pv 1) af)))
    (ad (bA PassesOwn.never rfl (be rfl B.range (a7 (aD (lenK K) (by rfl) B.len PySem.boot_len (a7 (pv 0) af)) af)) (ay (i:=4) nd rfl (Or.inl rfl)) (ah (bA PassesOwn.never rfl (bg K (pv 0)) (jG rfl (bh (ay (i:=5) nd rfl (Or.inl rfl)) (bh (ay (i:=6) nd rfl (Or.inl rfl)) (bh (ay (i:=7) nd rfl (Or.inl rfl)) eE)))) (ah (bG (PW.pt (eY (aJ (fV K (Nat.lt_of_succ_lt hu)) (aG (a7 (pv 5) (a7 (pv 6) af))) (aG (a7 (pv 1) (a7 (pv 2) af))) (b9 _)) (dF (aJ (fV K (Nat.lt_of_succ_lt hu)) (aG (a7 (pv 6) (a7 (pv 5) af))) (aG (a7 (pv 1) (a7 (pv 2) af))) (b9 _))))) (ad (bG (PW.pt (eY (aJ (inK K) (pv 5) (pv 3) rfl) (dF (aJ (l6 K) (pv 6) (pv 3) rfl)))) (ah (bt (dQ PySem.F.plainAttrs_list PySem.F.slot_list_append PySem.F.type_list_append bN (pv 3) (a7 (pv 6) af)))) aQ)
    (ah (bG (PW.pt (eY (aJ (inK K) (pv 6) (pv 3) rfl) (dF (aJ (l6 K) (pv 5) (pv 3) rfl)))) (ah (bt (dQ PySem.F.plainAttrs_list PySem.F.slot_list_append PySem.F.type_list_append bN (pv 3) (a7 (pv 5) af)))) aQ))) aQ)))))
    (ah (aB (pv 3))))),?_⟩
   refine⟨_,rfl,by show 1≤sizeLine;exact aV (by decide),fun L hL=>?_⟩
   refine⟨_,rfl,R,_,rfl,.inl (SqL.of (aj hL _ _ hR.top)),_,rfl,by omega,by rw[List.length_map];omega,?_⟩
   rw[Int.toNat_natCast,List.length_map,al];refine bF (fun i σ H2=>∃(fd:List Int) (v4 v5 v6 v7:Option V),σ=[some (.ref R),some (.int s),some (.int o),some (.ref L),v4,v5,v6,v7]/\SideGr n f s o fd/\H2 L=some (.lst (zV fd))/\Same H H2/\((∀x∈pl n,f s x < f o x->x∈fd)∨i+1≤fd.length)) ⟨[s],none,none,none,none,rfl,Met.side_start t m h0 j0,a9,aj hL,.inr (by show 1≤1;decide)⟩ ?_ ?_
   . rintro i σ H2 hi ⟨fd0,v4,v5,v6,v7,rfl,g0,hL2,s2,hlen0⟩;refine⟨_,rfl,R,rfl,⟨_,SqL.of (s2 _ _ hR.top)⟩,d0 (K:=K) (a:=R) (xs:=as.map V.ref) (fun j σ H4=>∃(fd:List Int) (v5 v6 v7:Option V),σ=[some (.ref R),some (.int s),some (.int o),some (.ref L),some (.int (0+(i:Int))),v5,v6,v7]/\SideGr n f s o fd/\H4 L=some (.lst (zV fd))/\Same H H4/\(∀x∈fd0,x∈fd) ∧
      (fd0.length < fd.length∨(fd=fd0/\∀r∈rs.take j,¬Joins r s o->(r.1∈fd<->r.2.1∈fd)))) ⟨fd0,v5,v6,v7,rfl,g0,hL2,s2,fun _ h=>h,.inr ⟨rfl,fun r hr=>by simp at hr⟩⟩ (fun j σ H4 _ ⟨_,_,_,_,_,_,_,h,_⟩=>SqL.of (h _ _ hR.top)) ?_ ?_⟩
     . rintro j y σ H4 hj ⟨fd1,v5,v6,v7,rfl,g1,hL4,s4,le1,or1⟩;obtain⟨p,hp,rfl⟩:=dM hj;have hjl:j < rs.length:=by rw[←al];exact(List.getElem?_eq_some_iff.mp hp).1
       obtain⟨r,er⟩:∃r,rs[j]? = some r:=⟨_,List.getElem?_eq_getElem hjl⟩;have hrm:=List.mem_of_getElem? er;have hrow:H4 p=some (.lst [.int r.1,.int r.2.1,.int r.2.2]):=s4 _ _ (hR.row j p (rowI r) hp (by rw[List.getElem?_map,er];rfl))
       have fin:∀{fdy:List Int},(fd0.length < fdy.length∨(fdy=fd0/\(∀r∈rs.take j,¬Joins r s o->(r.1∈fdy<->r.2.1∈fdy))/\(¬Joins r s o->(r.1∈fdy<->r.2.1∈fdy))))->(fd0.length < fdy.length∨(fdy=fd0/\∀r∈rs.take (j+1),¬Joins r s o->(r.1∈fdy<->r.2.1∈fdy))):=fun{fdy} h=>by
        refine h.imp id fun⟨h1,h2,h3⟩=>⟨h1,fun x hx=>?_⟩;rw[List.take_add_one,er,List.mem_append]at hx;rcases hx with hx | hx
        . exact h2 x hx
        . have:x=r:=by simpa using hx
          rw[this];exact h3
       have l1:fd1.length≤12:=by
        have:=bx n fd1 g1.nd fun x hx=>mem_pl.mp (g1.rng x hx);omega
       refine⟨p,_,rfl,SqL.of hrow,rfl,_,_,rfl,_,_,rfl,_,_,rfl,rfl,?_⟩;refine⟨_,rfl,_,rfl,by show 2≤sizeLine;exact aV (by decide),fun p1 hp1=>?_⟩
       refine⟨_,rfl,_,rfl,by show 2≤sizeLine;exact aV (by decide),fun p2 hp2=>?_⟩
       have hp1':(upd (upd H4 p1 (.lst [V.int r.1,V.int r.2.1])) p2 (.lst [V.int s,V.int o])) p1=some (.lst [V.int r.1,V.int r.2.1]):=by rw[ac (a8 a9 hp2)];exact a9
       refine⟨p1,p2,_,_,rfl,rfl,SqL.of hp1',SqL.of a9,rfl,rfl,_,rfl,?_⟩;have s5:=(aj (o:=.lst [V.int r.1,V.int r.2.1]) hp1).trans (aj (o:=.lst [V.int s,V.int o]) hp2);generalize upd (upd H4 p1 (.lst [V.int r.1,V.int r.2.1])) p2 (.lst [V.int s,V.int o])=H5 at s5;clear hp1' hp1 hp2;show(if (!eqVs (zV [r.1,r.2.1]) (zV [s,o]))=true then _ else _)
       rw[iI];refine iteN (fun e1=>?_) (fun e1=>?_)
       rotate_left
       . have jn:Joins r s o:=by
          have:=of_decide_eq_true e1;simp only[List.cons.injEq,and_true]at this;exact .inl this
         exact⟨fd1,_,_,_,rfl,g1,s5 _ _ hL4,s4.trans s5,le1,fin (or1.imp id fun h=>⟨h.1,h.2,fun z=>absurd jn z⟩)⟩
       refine⟨_,rfl,_,rfl,by show 2≤sizeLine;exact aV (by decide),fun p1 hp1=>?_⟩
       refine⟨_,rfl,_,rfl,by show 2≤sizeLine;exact aV (by decide),fun p2 hp2=>?_⟩
       have hp1':(upd (upd H5 p1 (.lst [V.int r.2.1,V.int r.1])) p2 (.lst [V.int s,V.int o])) p1=some (.lst [V.int r.2.1,V.int r.1]):=by rw[ac (a8 a9 hp2)];exact a9
       refine⟨p1,p2,_,_,rfl,rfl,SqL.of hp1',SqL.of a9,rfl,rfl,_,rfl,?_⟩;have s6:=s5.trans ((aj (o:=.lst [V.int r.2.1,V.int r.1]) hp1).trans (aj (o:=.lst [V.int s,V.int o]) hp2));generalize upd (upd H5 p1 (.lst [V.int r.2.1,V.int r.1])) p2 (.lst [V.int s,V.int o])=H6 at s6;clear hp1' hp1 hp2;show(if (!eqVs (zV [r.2.1,r.1]) (zV [s,o]))=true then _ else _)
       rw[iI];refine iteN (fun e2=>?_) (fun e2=>?_)
       rotate_left
       . have jn:Joins r s o:=by
          have:=of_decide_eq_true e2;simp only[List.cons.injEq,and_true]at this;exact .inr ⟨this.2,this.1⟩
         exact⟨fd1,_,_,_,rfl,g1,s6 _ _ hL4,s4.trans s6,le1,fin (or1.imp id fun h=>⟨h.1,h.2,fun z=>absurd jn z⟩)⟩
       have nj:¬Joins r s o:=fun z=>by
        rcases z with⟨a,b⟩ | ⟨a,b⟩
        . exact of_decide_eq_false e1 (by rw[a,b])
        . exact of_decide_eq_false e2 (by rw[a,b])
       have hL6:=s6 _ _ hL4;have s46:=s4.trans s6;clear s5 s6 hrow;refine⟨_,rfl,_,rfl,L,_,rfl,.inl (SqL.of hL6),rfl,bf _,_,rfl,?_⟩;show(if inV (V.int r.1) (zV fd1)=true then _ else _)
       rw[iH];refine iteD (fun h1=>?qa) (fun h1=>?qc)
       case' qa =>
        refine⟨_,rfl,_,rfl,L,_,rfl,.inl (SqL.of hL6),rfl,bf _,_,rfl,?_⟩;show(if (!inV (V.int r.2.1) (zV fd1))=true then _ else _)
        rw[iH];refine iteN (fun h2=>?qa1) (fun h2=>?qa2)
       case' qa1 =>
        refine⟨_,rfl,.inl ⟨rfl,_,SqL.of hL6⟩,_,rfl,L,_,_,rfl,rfl,hL6,by rw[ai];exact au (by omega),?_⟩
        have ex:∃fdx,SideGr n f s o fdx/\(upd H6 L (.lst (zV fd1++[V.int r.2.1]))) L=some (.lst (zV fdx))/\Same H (upd H6 L (.lst (zV fd1++[V.int r.2.1])))/\fdx.length≤13/\(∀x∈fd0,x∈fdx)/\(fd0.length < fdx.length∨(fdx=fd0/\(∀r∈rs.take j,¬Joins r s o->(r.1∈fdx<->r.2.1∈fdx))/\(r.1∈fdx->r.2.1∈fdx))):=
         ⟨fd1++[r.2.1],g1.grow t m h0 j0 hrm (.inl ⟨rfl,rfl⟩) nj h1 (of_decide_eq_false h2),by rw[a9];exact congrArg _ (congrArg _ (bM _ _)),fun b o e=>by rw[ac (a8 e hL)];exact s46 b o e,by rw[List.length_append];show fd1.length+1≤13;omega,fun x hx=>List.mem_append_left _ (le1 x hx),.inl (by
          rw[List.length_append];show fd0.length < fd1.length+1;rcases or1 with z | z
          . omega
          . rw[z.1];omega)⟩
       case' qa2 =>
        have ex:∃fdx,SideGr n f s o fdx/\H6 L=some (.lst (zV fdx))/\Same H H6/\fdx.length≤13/\(∀x∈fd0,x∈fdx)/\(fd0.length < fdx.length∨(fdx=fd0/\(∀r∈rs.take j,¬Joins r s o->(r.1∈fdx<->r.2.1∈fdx))/\(r.1∈fdx->r.2.1∈fdx))):=
         ⟨fd1,g1,hL6,s46,by omega,le1,or1.imp id fun h=>⟨h.1,h.2,fun _=>of_decide_eq_true h2⟩⟩
       case' qc =>
        have ex:∃fdx,SideGr n f s o fdx/\H6 L=some (.lst (zV fdx))/\Same H H6/\fdx.length≤13/\(∀x∈fd0,x∈fdx)/\(fd0.length < fdx.length∨(fdx=fd0/\(∀r∈rs.take j,¬Joins r s o->(r.1∈fdx<->r.2.1∈fdx))/\(r.1∈fdx->r.2.1∈fdx))):=
         ⟨fd1,g1,hL6,s46,by omega,le1,or1.imp id fun h=>⟨h.1,h.2,fun z=>absurd z h1⟩⟩
       all_goals
        obtain⟨fdx,gx,hLx,sx,lx,lex,orx⟩:=ex;refine⟨_,rfl,_,rfl,L,_,rfl,.inl (SqL.of hLx),rfl,bf _,_,rfl,?_⟩;show(if inV (V.int r.2.1) (zV fdx)=true then _ else _)
        rw[iH];refine iteD (fun q1=>?_) (fun q1=>?_)
        . refine⟨_,rfl,_,rfl,L,_,rfl,.inl (SqL.of hLx),rfl,bf _,_,rfl,?_⟩;show(if (!inV (V.int r.1) (zV fdx))=true then _ else _)
          rw[iH];refine iteN (fun q2=>?_) (fun q2=>?_)
          . refine⟨_,rfl,.inl ⟨rfl,_,SqL.of hLx⟩,_,rfl,L,_,_,rfl,rfl,hLx,by rw[ai];exact au (by omega),?_⟩
            refine⟨fdx++[r.1],_,_,_,rfl,gx.grow t m h0 j0 hrm (.inr ⟨rfl,rfl⟩) nj q1 (of_decide_eq_false q2),by rw[a9];exact congrArg _ (congrArg _ (bM _ _)),fun b o e=>by rw[ac (a8 e hL)];exact sx b o e,fun x hx=>List.mem_append_left _ (lex x hx),.inl ?_⟩
            rw[List.length_append];show fd0.length < fdx.length+1;rcases orx with z | z
            . omega
            . rw[z.1];omega
          . exact⟨fdx,_,_,_,rfl,gx,hLx,sx,lex,fin (orx.imp id fun h=>⟨h.1,h.2.1,fun _=>⟨h.2.2,fun _=>of_decide_eq_true q2⟩⟩)⟩
        . exact⟨fdx,_,_,_,rfl,gx,hLx,sx,lex,fin (orx.imp id fun h=>⟨h.1,h.2.1,fun _=>⟨h.2.2,fun z=>absurd z q1⟩⟩)⟩
     . rintro σ H4 ⟨fd1,v5,v6,v7,rfl,g1,hL4,s4,le1,or1⟩;refine⟨fd1,_,_,_,_,rfl,g1,hL4,s4,?_⟩;rcases or1 with h | ⟨h,h'⟩
       . rcases hlen0 with z | z
         . exact .inl fun x hx hlt=>le1 x (z x hx hlt)
         . exact .inr (by omega)
       . rw[List.length_map,al,List.take_length]at h';exact .inl (g1.full t m h0 j0 h')
   . rintro σ H2 ⟨fd,v4,v5,v6,v7,rfl,g,hL2,s2,hlen⟩;have full:∀x∈pl n,f s x < f o x->x∈fd:=by
      rcases hlen with z | z
      . exact z
      . have:=bx n fd g.nd fun x hx=>mem_pl.mp (g.rng x hx);exact g.length (by omega)
     exact⟨_,rfl,k L fd H2 s2 hL hL2 (g.perm full)⟩
end
end Tw
namespace Tw
open PySem L2
open PyProof.Rows (b2i)
section
variable {P:Program}{w:World}{K:PySem.W.Frag}{mg:Str->Option Value}{base:Heap}
structure LineOk (n:Nat) (rs:List Road) (f:Int->Int->Int) (s:Int) (S ws:List Int) (lst:Int):Prop where
 first:ws[0]? = some s
 last:ws[ws.length - 1]? = some lst
 rng:∀x∈ws,x∈pl n
 adj:∀(i:Nat) (p q:Int),ws[i]? = some p->ws[i+1]? = some q->∃r∈rs,Joins r p q
 all:∀x∈S,x∈ws
 len:ax f ws=2*((rs.filter (bQ f s S)).map fun r=>r.2.2).sum - f s lst
 mem:lst=s∨lst∈S
 mx:∀y∈S,f s y≤f s lst
 few:ws.length≤200
def kfW (f:Int->Int->Int)(s:Int):V->Int
 | .int x=>f s x
 | _=>0
def klT (W:Int->List Int)(A:List Int):V->List Int
 | .int x=>(W x).map (dg A)
 | _=>[]
theorem max_meet {S:List Int}{s:Int}{f:Int->Int->Int}{Q:VK}{H2:Hp}(h:∀lst,(lst∈S∨(S=[]/\lst=s))->(∀y∈S,f s y≤f s lst)->Q (.int lst) H2):(∀y∈zV S,(∀z∈zV S,kfW f s z≤kfW f s y)->Q y H2)/\(zV S=[]->Q (.int s) H2):=by
 constructor
 . intro y hy mx;obtain⟨x,hx,rfl⟩:=List.mem_map.mp hy;exact h x (.inl hx) fun z hz=>mx (.int z) (List.mem_map.mpr ⟨z,hz,rfl⟩)
 . intro e;have e0:S=[]:=by
    cases S with
    | nil=>rfl
    | cons x l=>cases e
   exact h s (.inr ⟨e0,rfl⟩) fun y hy=>by rw[e0]at hy;cases hy
theorem comp_pairs {a D:Addr}{zs:List Int}{fb:Int->Bool}{te:TE}{σ:St}{H1:Hp}{Qf:Hp->Prop}(ha:H1 a=some (.lst (zV zs)))(hl:zs.length≤200)(hD:H1 D=none)(hte:∀x∈zs,∀(H4:Hp) (Qv:VK),Same H1 H4->(∀T H5,Same H4 H5->H4 T=none->H5 T=some (.tup [.bl (fb x),.int x])->Qv (.ref T) H5)->te (σ++[some (.int x)]) H4 Qv)(k:∀(ts:List Addr) (H2:Hp),H2 D=some (.lst (ts.map V.ref))->ts.length=zs.length->(∀(j:Nat) (t:Addr) (x:Int),ts[j]? = some t->zs[j]? = some x->H2 t=some (.tup [.bl (fb x),.int x]))->Same H1 H2->Qf H2):∃W:Nat->Nat->List V->Hp->Prop,(∃m,W 0 m [] (upd H1 D (.lst [])))/\∀i m ys H2,W i m ys H2->H2 D=some (.lst ys)/\(((Itl K a).stop i H2/\Qf H2)∨((Itl K a).go i H2/\∃N:List V->Hp->Prop,(∀ys' H',N ys' H'->∃m',m' < m/\W (i+1) m' ys' H')/\∀y H3,(Itl K a).yld i H2 y H3->tYes (σ++[some y]) H3 fun c H4=>if c=true then te (σ++[some y]) H4 fun z H5=>H5 D=some (.lst ys)/\ys.length < sizeLine/\N (ys++[z]) (upd H5 D (.lst (ys++[z])))else N ys H4)):=by
 refine bV (K:=K) (a:=a) (xs:=zV zs) (fun i ys H2=>∃ts:List Addr,ys=ts.map V.ref/\ts.length=i/\H2 D=some (.lst ys)/\Same H1 H2/\(∀t∈ts,t≠D)/\∀(j:Nat) (t:Addr) (x:Int),ts[j]? = some t->zs[j]? = some x->H2 t=some (.tup [.bl (fb x),.int x]))
  (fun i ys H2 ⟨_,_,_,h1,h2,_⟩=>⟨h1,SqL.of (h2 _ _ ha)⟩) ⟨[],rfl,rfl,a9,aj hD,(fun t h=>nomatch h),fun j t x h=>by simp at h⟩ ?_ ?_
 . rintro i y ys H2 hi ⟨ts,rfl,tl,hD2,s2,tne,tat⟩;obtain⟨x,hx,rfl⟩:=e8 hi;have hil:=(List.getElem?_eq_some_iff.mp hx).1;refine yesI (hte x (List.mem_of_getElem? hx) H2 _ s2 fun T H6 s6 hT hT6=>?_);have s16:=s2.trans s6;have nTD:T≠D:=(a8 hD2 hT).symm;refine⟨s6 _ _ hD2,by rw[List.length_map];exact au (by omega),ts++[T],by rw[List.map_append];rfl,by rw[List.length_append,tl];rfl,a9,fun b u eb=>by rw[ac (a8 eb hD)];exact s16 b u eb,fun t ht=>?_,fun j t z h1 h2=>?_⟩
   . rcases List.mem_append.mp ht with ht | ht
     . exact tne t ht
     . rw[List.mem_singleton.mp ht];exact nTD
   . by_cases hj:j < ts.length
     . rw[List.getElem?_append_left hj]at h1;rw[ac (tne t (List.mem_of_getElem? h1))];exact s6 _ _ (tat j t z h1 h2)
     . rw[List.getElem?_append_right (by omega)]at h1
       have hz:j - ts.length=0:=by
        have:=(List.getElem?_eq_some_iff.mp h1).1;simp at this;omega
       rw[hz]at h1;have e3:T=t:=by simpa using h1
       subst e3;have e4:j=i:=by omega
       subst e4;rw[hx]at h2;cases h2;rw[ac nTD];exact hT6
 . rintro ys H2 ⟨ts,rfl,tl,hD2,s2,_,tat⟩;rw[ai]at tl;exact k ts H2 hD2 tl tat s2
def dR (kvs:List (Int×V)):List (Key×V):=kvs.map fun kv=>((Sum.inl kv.1:Key),kv.2)
theorem dR_put {kvs:List (Int×V)}{x:Int}{v:V}(h:x∉kvs.map (·.1)):putK (dR kvs) (Sum.inl x:Key) v=dR (kvs++[(x,v)]):=by
 unfold putK;rw[if_neg]
 . unfold dR;rw[List.map_append];rfl
 . intro q;obtain⟨kv,hkv,e⟩:=List.any_eq_true.mp q;obtain⟨c,hc,rfl⟩:=List.mem_map.mp hkv;have e:(Sum.inl c.1:Key)=Sum.inl x:=of_decide_eq_true e;injection e with e
   exact h (List.mem_map.mpr ⟨c,hc,e⟩)
theorem lD:∀{kvs:List (Int×V)} {kv:Int×V},(kvs.map (·.1)).Nodup->kv∈kvs->valV (dR kvs) (Sum.inl kv.1:Key)=some kv.2
 | c::kvs,kv,nd,h=>by
  obtain⟨n1,n2⟩:=List.nodup_cons.mp (show(c.1::kvs.map (·.1)).Nodup from nd)
  show valV (((Sum.inl c.1:Key),c.2)::dR kvs) _=_;rcases List.mem_cons.mp h with e | e
  . subst e;exact de rfl
  . rw[df]
    . exact lD n2 e
    . intro q;have q:(Sum.inl c.1:Key)=Sum.inl kv.1:=q;injection q with q
      exact n1 (q▸List.mem_map.mpr ⟨kv,e,rfl⟩)
end
end Tw
namespace Tw
open PySem L2
open PyProof.Rows (b2i)
section
variable {P:Program}{w:World}{K:PySem.W.Frag}{mg:Str->Option Value}{base:Heap}
theorem iF {n:Nat}(h:n≤4000):n≤sizeLine:=Nat.le_trans h (by decide)
theorem gE {a b:List Int}(ha:a≠[])(hb:b≠[])(e:a=b):a.getLast ha=b.getLast hb:=by subst e;rfl
theorem jJ (v:Int)(l:List Int):inV (.int v) (zV l)=decide (v∈l):=by
 unfold inV zV;rw[List.any_map,Bool.eq_iff_iff,List.any_eq_true,decide_eq_true_iff];constructor
 . rintro⟨x,hx,e⟩;have e:(x == v)=true:=e;rw[←beq_iff_eq.mp e];exact hx
 . intro h;exact⟨v,h,beq_self_eq_true v⟩
theorem cut1 {l:List Int}(h:1≤l.length):cutV (zV l) (some 1) none=zV (l.drop 1):=by
 unfold cutV;rw[HT.sIx_none,show(1:Int)=((1:Nat):Int)from rfl,HT.sIx_nat,Nat.min_eq_left (by rw[ai];exact h),List.take_of_length_le (by rw[List.length_drop];exact Nat.le_refl _)]
 unfold zV;rw[List.map_drop]
structure Wk (n:Nat) (rs:List Road) (s:Int) (ws:List Int) (b:Int):Prop where
 first:ws[0]? = some s
 last:ws[ws.length - 1]? = some b
 rng:∀x∈ws,x∈pl n
 adj:∀(i:Nat) (p q:Int),ws[i]? = some p->ws[i+1]? = some q->∃r∈rs,Joins r p q
theorem Wk.one {n:Nat}{rs:List Road}{s:Int}(h:s∈pl n):Wk n rs s [s] s:=⟨rfl,rfl,fun x hx=>by rw[List.mem_singleton.mp hx];exact h,fun i p q _ h=>by simp at h⟩
theorem Wk.ext {n:Nat}{rs:List Road}{f:Int->Int->Int}{s a b:Int}{ws wy:List Int}(k:Wk n rs s ws a)(w:WayOf n rs f a b wy):Wk n rs s (ws++wy.drop 1) b:=by
 have hne:ws.length≠0:=fun e=>by
  have:=k.first;rw[List.eq_nil_of_length_eq_zero e]at this;cases this
 have hw1:wy[0]? = some a:=w.first;have hwl:0 < wy.length:=(List.getElem?_eq_some_iff.mp hw1).1;have at_:∀j,ws.length - 1≤j->(ws++wy.drop 1)[j]? = wy[j - (ws.length - 1)]?:=fun j hj=>by
  by_cases c:j < ws.length
  . rw[List.getElem?_append_left c,show j=ws.length - 1 by omega,k.last,show ws.length - 1 - (ws.length - 1)=0 by omega,hw1]
  . rw[List.getElem?_append_right (by omega),List.getElem?_drop]
    congr 1;omega
 refine⟨by rw[List.getElem?_append_left (by omega)];exact k.first,?_,fun x hx=>?_,fun i p q h1 h2=>?_⟩
 . rw[at_ _ (by rw[List.length_append,List.length_drop];omega),←w.last]
   congr 1
   rw[List.length_append,List.length_drop];omega
 . rcases List.mem_append.mp hx with e | e
   . exact k.rng x e
   . exact w.rng x (List.mem_of_mem_drop e)
 . by_cases c:i+1 < ws.length
   . rw[List.getElem?_append_left (by omega)]at h1 h2
     exact k.adj i p q h1 h2
   . rw[at_ i (by omega)]at h1
     rw[at_ (i+1) (by omega)]at h2
     obtain⟨r,hr,j,_⟩:=w.d (i - (ws.length - 1)) p q h1 (by rw[←h2];congr 1;omega)
     exact⟨r,hr,j⟩
theorem Wk.len {n:Nat}{rs:List Road}{f:Int->Int->Int}{s a b:Int}{ws wy:List Int}(t:Tree n rs)(m:Met rs (pl n) f)(hb:b∈pl n)(k:Wk n rs s ws a)(w:WayOf n rs f a b wy):ax f (ws++wy.drop 1)=ax f ws+f a b:=by
 have ne:ws≠[]:=fun e=>by
  have:=k.first;rw[e]at this;cases this
 rw[eN ne];have el:ws.getLast ne=a:=by
  have h1:=k.last;rw[←List.getLast?_eq_getElem?,List.getLast?_eq_some_getLast ne]at h1;injection h1
 cases wy with
 | nil=>have:=w.first;simp at this
 | cons x l =>
  have ex:x=a:=by simpa using w.first
  subst ex;rw[el];show ax f ws+ax f (x::l)=_;rw[WayOf.line t m hb w]
theorem jj {H:Hp}{L RK:Addr}{l:List Int}{d:List (Key×V)}{o:HO}(k:KeyT H L l)(h:H RK=some (.dK d)):KeyT (upd H RK o) L l:=by
 obtain⟨ts,h1,h2,h3⟩:=k;refine⟨ts,by rw[ac (fun e=>by rw[e,h]at h1;cases h1)];exact h1,h2,fun i t d e1 e2=>?_⟩
 obtain⟨b,p,h4,r⟩:=h3 i t d e1 e2;exact⟨b,p,by rw[ac (fun e=>by rw[e,h]at h4;cases h4)];exact h4,r⟩
def jC (T:Addr)(q:Str):Sp:=fun vs H Q _=>∃(n:Nat) (D:Addr) (ds:List Addr) (rs:List Road) (s:Int) (S:List Int) (a:Addr) (f:Int->Int->Int) (qs:Array Value),vs=[.ref D,.int s,.ref a]/\NearAt H D ds (bv n rs)/\Tree n rs/\Met rs (pl n) f/\s∈pl n/\H a=some (.lst (zV S))/\(∀x∈S,x∈pl n)/\S.length < 60/\H T=some (.tbl qs)/\qOf qs=q ∧
 ∀(L:Addr) (ws:List Int) (lst:Int) (H':Hp),Same H H'->H L=none->H' L=some (.lst (zV ws))->LineOk n rs f s S ws lst->Q (.ref L) H'
theorem scLine:FnScope ["near", "start", "some", "fars", "last", "last_way", "ranks", "place", "places"] ["near", "start", "some"] (ae bz):=⟨rfl,rfl,rfl,by decide +kernel,rfl,by decide +kernel,by decide +kernel⟩
theorem ok_line {f fFF fWB T:Addr}{fd fdFF fdWB:FuncData}(F:Def K mg "line_from" bz ["near", "start", "some"] f fd)(FFF:Def K mg "fars_from" fj ["near", "start"] fFF fdFF)(FWB:Def K mg "way_between" gc ["near", "a", "b"] fWB fdWB)(GFF:FnOk P w K mg base CX0 2 fFF fdFF ["near", "start"] jD)(GWB:FnOk P w K mg base CX0 2 fWB fdWB ["near", "a", "b"] jB)(tb:Tab K fd.code T)(B:Bi K mg):FnOk P w K mg base CX0 4 f fd ["near", "start", "some"] (jC T (lamQ "line_from")):=by
 refine F.fn.okL tb scLine (fun vs H Q E h=>?_) (fun cdv TC A outer s H vs Q E hr h=>?_)
 . obtain⟨n,D,ds,rs,s,S,a,f,qs,rfl,_⟩:=h;rfl
 . obtain⟨n,D,ds,rs,s0,S,a,f,qs,rfl,hN,t,m,hs,hA,hS,sl,hT,hq,k⟩:=h;have nd:=scLine.nd;have hu:=dy hr;have th:=t.hi;have sp:=mem_pl.mp hs;have wex:∀b:Int,∃ws,b∈pl n->WayOf n rs f s0 b ws:=fun b=>by
    by_cases c:b∈pl n
    . obtain⟨ws,w⟩:=WayOf.ex t m hs c;exact⟨ws,fun _=>w⟩
    . exact⟨[],fun h=>absurd h c⟩
   obtain⟨W,hW⟩:∃W:Int->List Int,∀b∈pl n,WayOf n rs f s0 b (W b):=⟨fun b=>Classical.choose (wex b),fun b=>Classical.choose_spec (wex b)⟩;clear wex;refine⟨_,(ad (ao (i:=3) nd rfl (Or.inr rfl) (am GFF (hr.mono (by decide)) rfl FFF.mg FFF.fn.kp FFF.bn .nil aF (a7 (pv 0) (a7 (pv 1) af))))
    (ad (ao (i:=4) nd rfl (Or.inl rfl) (pe_maxKey (k:=0) K (lam_ok ["near", "start", "some", "fars", "last", "last_way", "ranks", "x7", "places"] "place" TC (ae bz).names ["near", "start", "some", "fars", "last", "last_way", "ranks", "place", "places"] (fun _ _ _ _ _ _ _=>(av (ixK K) (pv 3) (pv 9) (fun _ _=>rfl)))) (hr.mono (by decide)) rfl B.max (pv 2) (pv 1)))
    (ad (ao (i:=5) nd rfl (Or.inr rfl) (am GWB (hr.mono (by decide)) rfl FWB.mg FWB.fn.kp FWB.bn .nil aF (a7 (pv 0) (a7 (pv 1) (a7 (pv 4) af)))))
    (ad (ao (i:=6) nd rfl (Or.inr rfl) j8)
    (ad (bA PassesOwn.never rfl (bg K (pe_sortset K rfl rfl B.sorted rfl B.set (pv 2))) (ay (i:=7) nd rfl (Or.inl rfl)) (ah (dG hu (pv 6) (pv 7) (bK (ae bz).names ["near", "start", "some", "fars", "last", "last_way", "ranks", "place", "places"] ["near", "start", "some", "fars", "last", "last_way", "ranks", "place", "places", "passed"] (bg K (am GWB (hr.mono (by decide)) rfl FWB.mg FWB.fn.kp FWB.bn .nil aF (a7 (pv 0) (a7 (pv 1) (a7 (pv 7) af))))) (fun _ _ _ _=>bL) (fun _ _ _ _=>(kZ (a7 (cD (inK K) (pv 9) (pv 5) rfl) (a7 (pv 9) af))))) rfl)))
    (ad (ao (i:=8) nd rfl (Or.inl rfl) (aG (a7 (pv 1) af)))
    (ad (bA PassesOwn.never rfl (bg K (pe_sortKeyT (k:=0) (lam_okR ["near", "start", "some", "fars", "last", "last_way", "ranks", "place", "places"] "ranked" TC (ae bz).names ["near", "start", "some", "fars", "last", "last_way", "ranks", "place", "places"] (fun _ _ _ _ _ _ _ hr=>(c7 (by have:=hr.un;omega) (pv 6) (pv 9) (fun _ _=>rfl)))) (hr.mono (by decide)) rfl B.sorted (pv 6))) (ay (i:=7) nd rfl (Or.inl rfl)) (ah (bt (dQ PySem.F.plainAttrs_list PySem.F.slot_list_extend PySem.F.type_list_extend mt_extend (pv 8) (bw (cj (slK K) (am GWB (hr.mono (by decide)) rfl FWB.mg FWB.fn.kp FWB.bn .nil aF (a7 (pv 0) (bw (av (ixK K) (pv 8) (j7 g5 ag) (fun _ _=>rfl)) (a7 (pv 7) af)))) (cB ag) dH) af)))))
    (ah (aB (pv 8)))))))))),?_⟩
   refine⟨_,rfl,_,rfl,n,D,ds,rs,s0,f,rfl,hN,t,m,sp.1,sp.2,fun F0 H1 s1 hF0 hF=>?_⟩;refine⟨_,rfl,a,zV S,qs,kfW f s0,rfl,SqL.of (s1 _ _ hA),s1 _ _ hT,hq,fun H2 s2 y hy Qv kk=>?_,fun H2 s2=>⟨_,rfl,rfl,max_meet fun lst hl mx=>?_⟩⟩
   . obtain⟨x,hx,rfl⟩:=List.mem_map.mp hy;have xp:=mem_pl.mp (hS x hx);refine⟨_,rfl,_,rfl,F0,_,_,_,rfl,rfl,SqL.of (s2 _ _ hF),az xp.1 (aL (x:=f s0 x) ?_),kk⟩;rw[List.getElem?_map,f6 (by omega),show((x.toNat:Nat):Int)=x by omega];rfl
   have lp:lst∈pl n:=by
    rcases hl with h | h
    . exact hS lst h
    . rw[h.2];exact hs
   have s12:=s1.trans s2;refine⟨_,rfl,_,rfl,_,rfl,n,D,ds,rs,s0,lst,f,rfl,hN.mono s12,t,m,hs,lp,fun LW A0 H3 s3 hLW0 hLW way=>?_⟩;have eA:A0=W lst:=WayOf.uniq t m lp way (hW lst lp);subst eA;have s13:=s12.trans s3;intro RK hRK;have wR:=aj (o:=.dK []) hRK;have tR:(upd H3 RK (.dK [])) RK=some (.dK (dR [])):=a9;generalize upd H3 RK (.dK [])=H4 at wR tR⊢;have s14:=s13.trans wR;refine⟨_,rfl,a,S,rfl,SqL.of (s14 _ _ hA),sl,fun Z zs hZ pz mz=>?_⟩;have wZ:=aj (o:=.lst (zs.map V.int)) hZ;have nRZ:RK≠Z:=a8 tR hZ;have tZ:(upd H4 Z (.lst (zs.map V.int))) Z=some (.lst (zV zs)):=a9;have tR5:=wZ _ _ tR;have s35:=wR.trans wZ;generalize upd H4 Z (.lst (zs.map V.int))=H5 at tZ tR5 s35⊢;have zp:∀x∈zs,x∈pl n:=fun x hx=>hS x ((mz x).mp hx);have znd:zs.Nodup:=pz.imp fun h e=>by omega
   have zl:zs.length≤12:=by have:=jc znd zp;omega
   refine⟨Z,rfl,⟨_,SqL.of tZ⟩,?_⟩;refine d0 (K:=K) (a:=Z) (xs:=zV zs) (fun i σ H6=>∃(kvs:List (Int×V)) (v7:Option V),σ=[some (.ref D),some (.int s0),some (.ref a),some (.ref F0),some (.int lst),some (.ref LW),some (.ref RK),v7,none]/\H6 RK=some (.dK (dR kvs))/\kvs.map (·.1)=zs.take i/\(∀kv∈kvs,∃L,kv.2 = .ref L/\KeyT H6 L ((W kv.1).map (dg (W lst))))/\Same H3 H6/\H6 Z=some (.lst (zV zs)))
    ⟨[],none,rfl,tR5,rfl,(fun kv h=>nomatch h),s35,tZ⟩ (fun i σ H6 _ ⟨_,_,_,_,_,_,_,h⟩=>SqL.of h) ?_ ?_
   . rintro i y σ H6 hi ⟨kvs,v7,rfl,hR6,kz,kk6,s36,hZ6⟩;obtain⟨y,hy,rfl⟩:=e8 hi;have yp:=zp y (List.mem_of_getElem? hy);have kl:kvs.length≤12:=by
      have:=congrArg List.length kz;rw[List.length_map,List.length_take]at this;omega
     refine⟨_,rfl,_,rfl,_,rfl,n,D,ds,rs,s0,y,f,rfl,hN.mono (s13.trans s36),t,m,hs,yp,fun L ws H7 s7 hL0 hL7 way=>⟨L,rfl,⟨_,SqL.of hL7⟩,fun DD hDD=>?_⟩⟩;have eW:ws=W y:=WayOf.uniq t m yp way (hW y yp);subst eW;have wl:=fJ t (hW y yp);refine comp_pairs (K:=K) (fb:=fun x=>decide (x∈W lst)) hL7 (by omega) hDD (fun x hx H8 Qv s8 kk=>?_) fun ts H8 hD8 tl tat s8=>?_
     . refine⟨_,rfl,_,rfl,LW,_,rfl,.inl (SqL.of (s8 _ _ (s7 _ _ (s36 _ _ hLW)))),rfl,bf _,?_⟩;rw[if_neg (by decide),jJ]
       exact⟨_,rfl,by show 2≤sizeLine;exact aV (by decide),fun T hT=>kk T _ (aj hT) hT a9⟩
     . have s68:=s7.trans s8;have hR8:=s68 _ _ hR6;refine⟨_,rfl,_,rfl,RK,_,rfl,DPut.k (k:=Sum.inl y) hR8 (by unfold dR;rw[List.length_map];exact au (by omega)),?_⟩
       have ynew:y∉kvs.map (·.1):=by
        rw[kz];intro q;obtain⟨j,hj⟩:=List.mem_iff_getElem?.mp q;have hjl:=(List.getElem?_eq_some_iff.mp hj).1;rw[List.length_take]at hjl;rw[List.getElem?_take_of_lt (by omega)]at hj
        have:=(List.getElem?_inj (List.getElem?_eq_some_iff.mp hj).1 znd).mp (hj.trans hy.symm);omega
       have newK:KeyT H8 DD ((W y).map (dg (W lst))):=⟨ts,hD8,by rw[tl,List.length_map],fun j tt d e1 e2=>by
        rw[List.getElem?_map]at e2;cases ex:(W y)[j]? with
        | none=>rw[ex]at e2;cases e2
        | some x =>
         rw[ex]at e2;have e2:dg (W lst) x=d:=Option.some.inj e2;have x12:=pl12 t (hW y yp).rng x (List.mem_of_getElem? ex);exact⟨_,x,tat j tt x e1 ex,x12.1,x12.2,e2.symm⟩⟩
       refine⟨kvs++[(y,.ref DD)],_,rfl,by rw[a9,dR_put ynew],by rw[List.map_append,kz,List.take_add_one,hy];rfl,fun kv hkv=>?_,fun b o e=>by rw[ac (a8 e hRK)];exact s68 b o (s36 b o e),by rw[ac nRZ.symm];exact s68 _ _ hZ6⟩
       rcases List.mem_append.mp hkv with q | q
       . obtain⟨L',e1,e2⟩:=kk6 kv q;exact⟨L',e1,jj (e2.mono s68) hR8⟩
       . rw[List.mem_singleton.mp q];exact⟨DD,rfl,jj newK hR8⟩
   . rintro σ H6 ⟨kvs,v7,rfl,hR6,kz,kk6,s36,hZ6⟩;rw[ai,List.take_length]at kz;have knd:(kvs.map (·.1)).Nodup:=by rw[kz];exact znd
     have kl:kvs.length≤12:=by
      have:=congrArg List.length kz;rw[List.length_map]at this;omega
     refine⟨_,rfl,by show 1≤sizeLine;exact aV (by decide),fun PL hPL=>?_⟩
     have wP:=aj (o:=.lst [V.int s0]) hPL;have tP:(upd H6 PL (.lst [V.int s0])) PL=some (.lst (zV [s0])):=a9;have hR7:=wP _ _ hR6;have s37:=s36.trans wP;generalize upd H6 PL (.lst [V.int s0])=H7 at wP tP hR7 s37⊢;have kvp:∀kv∈kvs,kv.1∈pl n:=fun kv hkv=>zp _ (by rw[←kz];exact List.mem_map.mpr ⟨kv,hkv,rfl⟩)
     refine⟨_,rfl,RK,kvs,qs,klT W (W lst),rfl,hR7,by omega,fun kv hkv=>gR (fJ t (hW _ (kvp kv hkv))) (pl12 t (hW _ (kvp kv hkv)).rng),s37 _ _ (s13 _ _ hT),hq,fun H8 s8 kv hkv Qv kk=>?_,fun DZ ys H8 s8 hDZ pm pw=>?_⟩
     . obtain⟨L,e1,e2⟩:=kk6 kv hkv;have hg:=DGet.k (k:=Sum.inl kv.1) (s8 _ _ hR7);rw[lD knd hkv,e1]at hg;exact⟨_,rfl,_,rfl,RK,_,rfl,hg,kk L H8 (Same.refl _) ((e2.mono wP).mono s8)⟩
     obtain⟨rk,pr,er⟩:=eF (g:=V.int) pm zs (by rw[←kz,List.map_map];rfl)
     subst er;have pw:rk.Pairwise (fun x y=>encT 12 ((W x).map (dg (W lst)))≤encT 12 ((W y).map (dg (W lst)))):=(List.pairwise_map (R:=fun y z=>encT 12 (klT W (W lst) y)≤encT 12 (klT W (W lst) z))).mp pw;have rm:∀x,x∈rk<->x∈S:=fun x=>pr.mem_iff.trans (mz x);have rp:∀x∈rk,x∈pl n:=fun x hx=>hS x ((rm x).mp hx);have rl:rk.length≤12:=by rw[pr.length_eq];exact zl
     have wD:=aj (o:=.lst (rk.map V.int)) hDZ;have tD:(upd H8 DZ (.lst (rk.map V.int))) DZ=some (.lst (zV rk)):=a9;have tP9:=wD _ _ (s8 _ _ tP);have nPD:PL≠DZ:=a8 (s8 _ _ tP) hDZ;have s69:=(wP.trans s8).trans wD;generalize upd H8 DZ (.lst (rk.map V.int))=H9 at tD tP9 s69⊢;refine⟨DZ,rfl,⟨_,SqL.of tD⟩,?_⟩;refine d0 (K:=K) (a:=DZ) (xs:=zV rk) (fun i σ HX=>∃(ws:List Int) (v7:Option V),σ=[some (.ref D),some (.int s0),some (.ref a),some (.ref F0),some (.int lst),some (.ref LW),some (.ref RK),v7,some (.ref PL)]/\HX PL=some (.lst (zV ws))/\Wk n rs s0 ws ((s0::rk.take i).getLast (by simp))/\ax f ws=ax f (s0::rk.take i)/\(∀x∈rk.take i,x∈ws)/\ws.length≤1+12*i/\Same H6 HX/\HX DZ=some (.lst (zV rk)))
      ⟨[s0],v7,rfl,tP9,Wk.one hs,rfl,(fun x h=>nomatch h),Nat.le_refl _,s69,tD⟩ (fun i σ HX _ ⟨_,_,_,_,_,_,_,_,_,h⟩=>SqL.of h) ?_ ?_
     . rintro i y σ HX hi ⟨ws,v7,rfl,hPX,wk,wln,wal,wfew,s6X,hDX⟩;obtain⟨y,hy,rfl⟩:=e8 hi;have hil:=(List.getElem?_eq_some_iff.mp hy).1;have yp:=rp y (List.mem_of_getElem? hy);have tk:rk.take (i+1)=rk.take i++[y]:=by rw[List.take_add_one,hy];rfl
       have lap:(s0::rk.take i).getLast (by simp)∈pl n:=by
        rcases List.mem_cons.mp (List.getLast_mem (l:=s0::rk.take i) (by simp))with e | e
        . rw[e];exact hs
        . exact rp _ (List.mem_of_mem_take e)
       refine⟨_,rfl,.inl ⟨rfl,_,SqL.of hPX⟩,?_⟩;refine⟨_,rfl,_,rfl,_,rfl,PL,_,_,_,rfl,rfl,SqL.of hPX,gM (by rw[ai];exact aL wk.last),_,rfl,n,D,ds,rs,_,y,f,rfl,hN.mono (s13.trans (s36.trans s6X)),t,m,lap,yp,fun L wy HY sY hL0 hLY way=>?_⟩
       have wyl:=fJ t way;have wy1:1≤wy.length:=by have:=(List.getElem?_eq_some_iff.mp way.first).1;omega
       refine⟨_,rfl,L,_,rfl,SqL.of hLY,fun SL hSL=>?_⟩;rw[cut1 wy1];have hPY:=sY _ _ hPX;have nPS:PL≠SL:=a8 hPY hSL;refine⟨PL,SL,_,_,rfl,rfl,by rw[ac nPS];exact hPY,a9,?_,?_⟩
       . rw[ai,ai,List.length_drop];exact iF (by omega)
       refine⟨ws++wy.drop 1,_,rfl,by rw[a9];unfold zV;rw[List.map_append],?_,?_,fun x hx=>?_,?_,fun b o e=>?_,?_⟩
       . have:=wk.ext way;have e:(s0::rk.take (i+1)).getLast (by simp)=y:=by
          rw[gE (by simp) (by simp) (show s0::rk.take (i+1)=(s0::rk.take i)++[y] by rw[tk];rfl),List.getLast_concat]
         rw[e];exact this
       . rw[Wk.len t m yp wk way,wln,tk,show s0::(rk.take i++[y])=(s0::rk.take i)++[y]from rfl,eN (List.cons_ne_nil _ _)]
         show _=_+(f _ y+0);omega
       . rw[tk]at hx;rcases List.mem_append.mp hx with q | q
         . exact List.mem_append_left _ (wal x q)
         . rw[List.mem_singleton.mp q];exact List.mem_of_getElem? (wk.ext way).last
       . rw[List.length_append,List.length_drop];omega
       . rw[ac (a8 e hPL),ac (a8 (sY b o (s6X b o e)) hSL)];exact sY b o (s6X b o e)
       . rw[ac nPD.symm,ac (a8 (sY _ _ hDX) hSL)];exact sY _ _ hDX
     . rintro σ HX ⟨ws,v7,rfl,hPX,wk,wln,wal,wfew,s6X,hDX⟩;rw[ai,List.take_length]at wln wal;rw[ai]at wfew wk;refine⟨_,rfl,k PL ws lst HX (s13.trans (s36.trans s6X)) ((s13.trans s36).free hPL) hPX ?_⟩;have nb:∀r,bQ f s0 rk r=bQ f s0 S r:=fun r=>by
        unfold bQ;rw[Bool.eq_iff_iff,List.any_eq_true,List.any_eq_true];exact⟨fun⟨y,hy,e⟩=>⟨y,(rm y).mp hy,e⟩,fun⟨y,hy,e⟩=>⟨y,(rm y).mpr hy,e⟩⟩
       have main:ax f (s0::rk)=2*((rs.filter (bQ f s0 S)).map fun r=>r.2.2).sum - f s0 lst/\(s0::rk).getLast (by simp)=lst:=by
        rw[←show bQ f s0 rk=bQ f s0 S from funext nb]
        rcases hl with h | ⟨h,e⟩
        . exact line_all t m hs hW hS h mx rm pw
        . have er:rk=[]:=by
           cases rk with
           | nil=>rfl
           | cons x l=>have:=(rm x).mp (by simp);rw[h]at this;cases this
          subst er;have z:=m.zero s0 hs;refine⟨?_,e.symm⟩;rw[e,z,show rs.filter (bQ f s0 [])=[]from List.filter_eq_nil_iff.mpr fun r _ h=>by cases(show false=true from h)]
          rfl
       have wk':Wk n rs s0 ws lst:=by
        have e:(s0::rk.take rk.length).getLast (by simp)=lst:=by
         rw[gE (by simp) (by simp) (show s0::rk.take rk.length=s0::rk by rw[List.take_length])];exact main.2
        rw[e]at wk;exact wk
       exact⟨wk'.first,wk'.last,wk'.rng,wk'.adj,fun x hx=>wal x ((rm x).mpr hx),by rw[wln];exact main.1,hl.elim .inr (fun h=>.inl h.2),mx,by omega⟩
end
end Tw
namespace Tw
open PySem L2
section
variable {P:Program}{w:World}{K:PySem.W.Frag}{mg:Str->Option Value}{base:Heap}{n:Nat}{rs:List Road}{f:Int->Int->Int}
def ir:Sp:=fun vs H Q _=>∃(n:Nat) (R:Addr) (as:List Addr) (rs:List Road) (ws:List Int) (a:Addr) (f:Int->Int->Int),vs=[.int n,.ref R,.ref a]/\RowsAt H R as (rs.map rowI)/\Tree n rs/\Met rs (pl n) f/\H a=some (.lst (zV ws))/\(∀x∈ws,x∈pl n)/\(∀(i:Nat) (p q:Int),ws[i]? = some p->ws[i+1]? = some q->∃r∈rs,Joins r p q)/\ws.length≤300/\∀H',Same H H'->Q (.int (ax f ws)) H'
theorem scLenOf:FnScope ["many", "roads", "places", "near", "total", "here", "there"] ["many", "roads", "places"] (ae bT):=⟨rfl,rfl,rfl,by decide +kernel,rfl,by decide +kernel,by decide +kernel⟩
theorem near_row {H:Hp}{D:Addr}{ds:List Addr}{n:Nat}{rs:List Road}(hN:NearAt H D ds (bv n rs)){a:Int}(ha:a∈pl n):∃d,atI (ds.map V.ref) a=some (V.ref d)/\H d=some (.dK (dV (nbOf rs a))):=by
 have ar:=mem_pl.mp ha;have dl:ds.length=n:=by rw[hN.len,bj]
 obtain⟨d,hd⟩:∃d,ds[a.toNat]? = some d:=⟨ds[a.toNat]'(by omega),List.getElem?_eq_getElem _⟩
 have gp:(bv n rs)[a.toNat]? = some (nbOf rs a):=by
  rw[bu (by omega),show((a.toNat:Nat):Int)=a by omega]
 exact⟨d,az ar.1 (c6 hd),hN.row _ _ _ hd gp⟩
theorem near_len {n:Nat}{rs:List Road}(t:Tree n rs){H:Hp}{d:Addr}{a b:Int}(hd:H d=some (.dK (dV (nbOf rs a)))){r:Road}(hr:r∈rs)(j:Joins r a b):DGet H d (V.int b) (some (V.int r.2.2)):=
 .inl ⟨_,Sum.inl b,.inl hd,rfl,(dC (gB a rs) ((t.nb_mem a b r.2.2).mpr ⟨r,hr,j,rfl⟩)).symm⟩
theorem ku (t:Tree n rs)(m:Met rs (pl n) f){p q:Int}{r:Road}(hr:r∈rs)(j:Joins r p q):f p q=r.2.2:=by
 obtain⟨hp,hq,l1⟩:=Met.joins t hr j;have z:=m.zero p hp;have nn:=m.nn p hp q hq;have t1:=m.two hp hr j;have d:=t.len r hr;rcases t1 with e | e<;>omega
theorem h8 {f:Int->Int->Int}{ws:List Int}{i:Nat}{p q:Int}(h1:ws[i]? = some p)(h2:ws[i+1]? = some q):ax f (ws.take (i+1+1))=ax f (ws.take (i+1))+f p q:=by
 have e1:ws.take (i+1)=ws.take i++[p]:=by rw[List.take_add_one,h1];rfl
 have ne:ws.take (i+1)≠[]:=by rw[e1];simp
 have e2:ws.take (i+1+1)=ws.take (i+1)++[q]:=by rw[List.take_add_one,h2];rfl
 rw[e2,eN ne];have:(ws.take (i+1)).getLast ne=p:=by
  rw[gE ne (by simp) e1,List.getLast_concat]
 rw[this];show _+(f p q+0)=_;omega
theorem cut1' (l:List Int):cutV (zV l) (some 1) none=zV (l.drop 1):=by
 cases l with
 | nil=>rfl
 | cons x l=>exact cut1 (by simp)
theorem jf (f:Int->Int->Int)(l:List Int):ax f (l.take 1)=0:=by
 cases l with
 | nil=>rfl
 | cons x l=>rfl
theorem ok_lenof {f fC fCP fN:Addr}{fd fdC fdCP fdN:FuncData}(F:Def K mg "length_of" bT ["many", "roads", "places"] f fd)(FC:Def K mg "check_tree" di ["many", "roads"] fC fdC)(FCP:Def K mg "check_places" cy ["many", "some"] fCP fdCP)(FN:Def K mg "neighbours" dP ["many", "roads"] fN fdN)(GC:FnOk P w K mg base CX0 5 fC fdC ["many", "roads"] fO)(GCP:FnOk P w K mg base CX0 4 fCP fdCP ["many", "some"] eh)(B:Bi K mg):FnOk P w K mg base CX0 6 f fd ["many", "roads", "places"] ir:=by
 have GN:FnOk P w K mg base CX0 1 fN fdN ["many", "roads"] iq:=iC FN B;refine F.fn.ok scLenOf (fun vs H Q E h=>?_) (fun cdv A outer s H vs Q E hr h=>?_)
 . obtain⟨n,R,as,rs,ws,a,f,rfl,_⟩:=h;rfl
 . obtain⟨n,R,as,rs,ws,a,f,rfl,hR,t,m,hA,hS,adj,wl,k⟩:=h;have nd:=scLenOf.nd;have hu:=dy hr;have th:=t.hi;have tl:=t.length;refine⟨_,(ad (bt (am GC (hr.mono (by decide)) rfl FC.mg FC.fn.kp FC.bn .nil aF (a7 (pv 0) (a7 (pv 1) af))))
    (ad (bt (am GCP (hr.mono (by decide)) rfl FCP.mg FCP.fn.kp FCP.bn .nil aF (a7 (pv 0) (a7 (pv 2) af))))
    (ad (ao (i:=3) nd rfl (Or.inl rfl) (am GN (hr.mono (by decide)) rfl FN.mg FN.fn.kp FN.bn .nil aF (a7 (pv 0) (a7 (pv 1) af))))
    (ad (ao (i:=4) nd rfl (Or.inl rfl) ag)
    (ad (bA PassesOwn.never rfl (pi_zip K rfl B.zip (a7 (pv 2) (bw (cj (slK K) (pv 2) (cB ag) dH) af))) (kR rfl (bh (ay (i:=5) nd rfl (Or.inl rfl)) (bh (ay (i:=6) nd rfl (Or.inl rfl)) eE))) (ad (bG (eZ (dI hu (pv 6) (av (ixK K) (pv 3) (pv 5) (fun _ _=>rfl)))) (ah gk) aQ)
    (ah (kQ (i:=4) nd rfl (Or.inl rfl) (c7 hu (av (ixK K) (pv 3) (pv 5) (fun _ _=>rfl)) (pv 6) (fun _ _=>rfl)) lj))))
    (ah (aB (pv 4)))))))),?_⟩
   refine⟨_,rfl,_,rfl,(n:Int),R,as,rs.map rowI,rfl,hR,by rw[List.length_map];omega,t.isTree,fun H1 s1=>?_⟩
   refine⟨_,rfl,_,rfl,(n:Int),a,ws,rfl,s1 _ _ hA,by omega,fun z hz=>mem_pl.mp (hS z hz),fun H2 s2=>?_⟩
   have s12:=s1.trans s2;refine⟨_,rfl,_,rfl,n,R,as,rs,rfl,hR.mono s12,th,t.valid,by omega,fun D ds H3 s3 hN=>?_⟩
   have s13:=s12.trans s3;have hA3:=s13 _ _ hA;refine⟨_,rfl,_,rfl,_,rfl,a,_,rfl,SqL.of hA3,fun SL hSL=>?_⟩;rw[cut1' ws];have nAS:a≠SL:=a8 hA3 hSL;have hS4:(upd H3 SL (.lst (zV (ws.drop 1)))) SL=some (.lst (zV (ws.drop 1))):=a9;have w4:=aj (o:=.lst (zV (ws.drop 1))) hSL;generalize upd H3 SL (.lst (zV (ws.drop 1)))=H4 at hS4 w4⊢;have hA4:=w4 _ _ hA3;refine⟨a,SL,rfl,⟨_,SqL.of hA4⟩,⟨_,SqL.of hS4⟩,?_⟩;refine for_zip (K:=K) (xs:=zV ws) (ys:=zV (ws.drop 1)) (fun i σ HX=>∃v5 v6:Option V,σ=[some (.int n),some (.ref R),some (.ref a),some (.ref D),some (.int (ax f (ws.take (i+1)))),v5,v6]/\Same H4 HX) ⟨none,none,by rw[jf];rfl,Same.refl _⟩ (fun i σ HX ⟨_,_,_,sX⟩=>⟨SqL.of (sX _ _ hA4),SqL.of (sX _ _ hS4)⟩) ?_ ?_
   . rintro i x y σ HX tt hx hy ⟨v5,v6,rfl,sX⟩ htt;obtain⟨p,hp,rfl⟩:=e8 hx;obtain⟨q,hq,rfl⟩:=e8 hy;rw[List.getElem?_drop]at hq;have hq:ws[i+1]? = some q:=by rw[←hq];congr 1;omega
     obtain⟨r,hr',j⟩:=adj i p q hp hq;have pp:=hS p (List.mem_of_getElem? hp);have sY:=(w4.trans sX).trans (aj (o:=.tup [V.int p,V.int q]) htt);obtain⟨d,hda,hdd⟩:=near_row (hN.mono sY) pp;have hget:=near_len t hdd hr' j;refine⟨tt,_,rfl,SqT.of a9,rfl,_,_,rfl,_,_,rfl,rfl,?_⟩;refine⟨_,rfl,_,rfl,_,rfl,D,_,_,_,rfl,rfl,SqL.of (sY _ _ hN.top),hda,d,_,rfl,hget,?_⟩;refine⟨_,rfl,iteF ?_⟩;refine⟨_,rfl,_,rfl,_,rfl,D,_,_,_,rfl,rfl,SqL.of (sY _ _ hN.top),hda,_,rfl,d,_,rfl,hget,_,_,rfl,rfl,?_⟩;refine⟨some (.int p),some (.int q),?_,sX.trans (aj htt)⟩;rw[h8 hp hq,ku t m hr' j];rfl
   . rintro σ HX ⟨v5,v6,rfl,sX⟩;rw[ai,ai,List.length_drop];refine⟨_,rfl,?_⟩;rw[List.take_of_length_le (by omega)]
     exact k HX ((s13.trans w4).trans sX)
end
end Tw
namespace Tw
open PySem L2
section
variable {P:Program}{w:World}{K:PySem.W.Frag}{mg:Str->Option Value}{base:Heap}{n:Nat}{rs:List Road}{f:Int->Int->Int}
def g8 (T:Addr)(q:Str):Sp:=fun vs H Q _=>∃(n:Nat) (R:Addr) (as:List Addr) (rs:List Road) (s:Int) (S:List Int) (a:Addr) (f:Int->Int->Int) (qs:Array Value),vs=[.int n,.ref R,.int s,.ref a]/\RowsAt H R as (rs.map rowI)/\Tree n rs/\Met rs (pl n) f/\s∈pl n/\H a=some (.lst (zV S))/\(∀x∈S,x∈pl n)/\S.length < 60/\H T=some (.tbl qs)/\qOf qs=q ∧
 ∀(L:Addr) (ws:List Int) (lst:Int) (H':Hp),Same H H'->H L=none->H' L=some (.lst (zV ws))->LineOk n rs f s S ws lst->Q (.ref L) H'
theorem scLineBy:FnScope ["many", "roads", "start", "some"] ["many", "roads", "start", "some"] (ae d6):=⟨rfl,rfl,rfl,by decide +kernel,rfl,by decide +kernel,by decide +kernel⟩
theorem ok_lineby {f fC fCP fN fLN T:Addr}{fd fdC fdCP fdN fdLN:FuncData}(F:Def K mg "line_by" d6 ["many", "roads", "start", "some"] f fd)(FC:Def K mg "check_tree" di ["many", "roads"] fC fdC)(FCP:Def K mg "check_places" cy ["many", "some"] fCP fdCP)(FN:Def K mg "neighbours" dP ["many", "roads"] fN fdN)(FLN:Def K mg "line_from" bz ["near", "start", "some"] fLN fdLN)(GC:FnOk P w K mg base CX0 5 fC fdC ["many", "roads"] fO)(GCP:FnOk P w K mg base CX0 4 fCP fdCP ["many", "some"] eh)(GLN:FnOk P w K mg base CX0 4 fLN fdLN ["near", "start", "some"] (jC T (lamQ "line_from")))(B:Bi K mg):FnOk P w K mg base CX0 6 f fd ["many", "roads", "start", "some"] (g8 T (lamQ "line_from")):=by
 have GN:FnOk P w K mg base CX0 1 fN fdN ["many", "roads"] iq:=iC FN B;refine F.fn.ok scLineBy (fun vs H Q E h=>?_) (fun cdv A outer s H vs Q E hr h=>?_)
 . obtain⟨n,R,as,rs,s,S,a,f,qs,rfl,_⟩:=h;rfl
 . obtain⟨n,R,as,rs,s0,S,a,f,qs,rfl,hR,t,m,hs,hA,hS,sl,hT,hq,k⟩:=h;have nd:=scLineBy.nd;have th:=t.hi;have tl:=t.length;refine⟨_,(ad (bt (am GC (hr.mono (by decide)) rfl FC.mg FC.fn.kp FC.bn .nil aF (a7 (pv 0) (a7 (pv 1) af))))
    (ad (bt (am GCP (hr.mono (by decide)) rfl FCP.mg FCP.fn.kp FCP.bn .nil aF (a7 (pv 0) (eI (aG (a7 (pv 2) af)) af))))
    (ad (bt (am GCP (hr.mono (by decide)) rfl FCP.mg FCP.fn.kp FCP.bn .nil aF (a7 (pv 0) (a7 (pv 3) af))))
    (ah (aB (am GLN (hr.mono (by decide)) rfl FLN.mg FLN.fn.kp FLN.bn .nil aF (a7 (am GN (hr.mono (by decide)) rfl FN.mg FN.fn.kp FN.bn .nil aF (a7 (pv 0) (a7 (pv 1) af))) (a7 (pv 2) (a7 (pv 3) af))))))))),?_⟩
   refine⟨_,rfl,_,rfl,(n:Int),R,as,rs.map rowI,rfl,hR,by rw[List.length_map];omega,t.isTree,fun H1 s1=>?_⟩
   refine⟨_,rfl,_,rfl,by show 1≤sizeLine;exact aV (by decide),fun E1 hE1=>?_⟩
   have w1:=aj (o:=.lst [V.int s0]) hE1;have e1:(upd H1 E1 (.lst [V.int s0])) E1=some (.lst (zV [s0])):=a9;generalize upd H1 E1 (.lst [V.int s0])=H2 at w1 e1⊢;refine⟨(n:Int),E1,[s0],rfl,e1,by show 1≤_;decide,fun z hz=>by rw[List.mem_singleton.mp hz];exact mem_pl.mp hs,fun H3 s3=>?_⟩
   have s13:=(s1.trans w1).trans s3;refine⟨_,rfl,_,rfl,(n:Int),a,S,rfl,s13 _ _ hA,by omega,fun z hz=>mem_pl.mp (hS z hz),fun H4 s4=>?_⟩
   have s14:=s13.trans s4;refine⟨_,rfl,_,rfl,n,R,as,rs,rfl,hR.mono s14,th,t.valid,by omega,fun D ds H5 s5 hN=>?_⟩
   have s15:=s14.trans s5;exact⟨_,rfl,_,rfl,n,D,ds,rs,s0,S,a,f,qs,rfl,hN,t,m,hs,s15 _ _ hA,hS,sl,s15 _ _ hT,hq,fun L ws lst H6 s6 hL0 hL ln=>k L ws lst H6 (s15.trans s6) (s15.free hL0) hL ln⟩
end
end Tw
namespace Tw
open PySem L2
section
variable {P:Program}{w:World}{K:PySem.W.Frag}{mg:Str->Option Value}{base:Heap}{n:Nat}{rs:List Road}{f:Int->Int->Int}
theorem rows_snoc {H:Hp}{a q:Addr}{as:List Addr}{zss:List (List Int)}{z:List Int}(h:RowsAt H a as zss)(na:a∉as)(nq:a≠q)(hq:H q=some (.lst (zV z))):RowsAt (upd H a (.lst (as.map V.ref++[V.ref q]))) a (as++[q]) (zss++[z]):=by
 have hl:=h.len;refine⟨by rw[a9,List.map_append];rfl,by rw[List.length_append,List.length_append,hl];rfl,fun i p y e1 e2=>?_⟩
 by_cases hi:i < as.length
 . rw[List.getElem?_append_left hi]at e1;rw[List.getElem?_append_left (by omega)]at e2
   have:p≠a:=fun e=>na (e▸List.mem_of_getElem? e1);rw[ac this];exact h.row i p y e1 e2
 . rw[List.getElem?_append_right (by omega)]at e1
   rw[List.getElem?_append_right (by omega)]at e2
   have hz:i - as.length=0:=by have:=(List.getElem?_eq_some_iff.mp e1).1;simp at this;omega
   rw[hz]at e1;rw[←hl,hz]at e2;have e3:q=p:=by simpa using e1
   have e4:z=y:=by simpa using e2
   subst e3;subst e4;rw[ac nq.symm];exact hq
def sepB (f:Int->Int->Int)(S:List Int)(r:Road):Bool:=S.any fun a=>S.any fun b=>decide (sd f r a≠sd f r b)
theorem iQ {S:List Int}{r:Road}:sepB f S r=true<->∃a∈S,∃b∈S,sd f r a≠sd f r b:=by
 unfold sepB;rw[List.any_eq_true];constructor
 . rintro⟨a,ha,h⟩;obtain⟨b,hb,e⟩:=List.any_eq_true.mp h;exact⟨a,ha,b,hb,of_decide_eq_true e⟩
 . rintro⟨a,ha,b,hb,e⟩;exact⟨a,ha,List.any_eq_true.mpr ⟨b,hb,decide_eq_true e⟩⟩
end
end Tw
namespace Tw
open PySem L2
section
variable {P:Program}{w:World}{K:PySem.W.Frag}{mg:Str->Option Value}{base:Heap}{n:Nat}{rs:List Road}{f:Int->Int->Int}
def kJ:Sp:=fun vs H Q _=>∃(n:Nat) (R:Addr) (as:List Addr) (rs:List Road) (ws:List Int) (a:Addr) (f:Int->Int->Int),vs=[.ref R,.ref a]/\RowsAt H R as (rs.map rowI)/\Tree n rs/\Met rs (pl n) f/\H a=some (.lst (zV ws))/\(∀(i:Nat) (p q:Int),ws[i]? = some p->ws[i+1]? = some q->∃r∈rs,Joins r p q)/\ws.length≤300/\∀H',Same H H'->Q (.int (ax f ws)) H'
theorem scLLen:FnScope ["_law_roads", "_law_found", "_law_total", "_law_k", "_law_at"] ["_law_roads", "_law_found"] (ae d7):=⟨rfl,rfl,rfl,by decide +kernel,rfl,by decide +kernel,by decide +kernel⟩
theorem ok_llen {f fON:Addr}{fd fdON:FuncData}(F:Def K mg "_law_length" d7 ["_law_roads", "_law_found"] f fd)(FON:Def K mg "_law_on" sOn ["_law_roads", "_law_a", "_law_b"] fON fdON)(B:Bi K mg):FnOk P w K mg base CX0 2 f fd ["_law_roads", "_law_found"] kJ:=by
 have GON:FnOk P w K mg base CX0 1 fON fdON ["_law_roads", "_law_a", "_law_b"] spOn:=ok_on FON B;refine F.fn.ok scLLen (fun vs H Q E h=>?_) (fun cdv A outer s H vs Q E hr h=>?_)
 . obtain⟨n,R,as,rs,ws,a,f,rfl,_⟩:=h;rfl
 . obtain⟨n,R,as,rs,ws,a,f,rfl,hR,t,m,hA,adj,wl,k⟩:=h;have nd:=scLLen.nd;refine⟨_,(ad (ao (i:=2) nd rfl (Or.inl rfl) ag)
    (ad (bA PassesOwn.never rfl (gW rfl B.range (aH ag (a7 (aD (lenK K) (by rfl) B.len PySem.boot_len (a7 (pv 1) af)) af))) (ay (i:=3) nd rfl (Or.inl rfl)) (ad (ao (i:=4) nd rfl (Or.inl rfl) (am GON (hr.mono (by decide)) rfl FON.mg FON.fn.kp FON.bn .nil aF (a7 (pv 0) (bw (av (ixK K) (pv 1) (ak f9 (pv 3) ag) (fun _ _=>rfl)) (bw (av (ixK K) (pv 1) (pv 3) (fun _ _=>rfl)) af)))))
    (ad (bG (aJ j9 (pv 4) ag (b9 _)) (ah (aB (j7 g5 ag))) aQ)
    (ah (ao (i:=2) nd rfl (Or.inl rfl) (ak bo (pv 2) (av (ixK K) (av (ixK K) (pv 0) (pv 4) (fun _ _=>rfl)) ag (fun _ _=>rfl))))))))
    (ah (aB (pv 2))))),?_⟩
   refine⟨_,rfl,a,_,rfl,.inl (SqL.of hA),1,_,rfl,⟨by decide,by decide,by rw[ai];omega,by rw[ai];omega⟩,?_⟩
   rw[ai];refine bF (fun i σ H2=>∃v3 v4:Option V,σ=[some (.ref R),some (.ref a),some (.int (ax f (ws.take (i+1)))),v3,v4]/\Same H H2) ⟨none,none,by rw[jf];rfl,Same.refl _⟩ ?_ ?_
   . rintro i σ H2 hi ⟨v3,v4,rfl,s2⟩;have hi1:i+1 < ws.length:=by omega
     have hp:ws[i]? = some ws[i]:=List.getElem?_eq_getElem (by omega)
     have hq:ws[i+1]? = some ws[i+1]:=List.getElem?_eq_getElem hi1;obtain⟨r,hr',j⟩:=adj i _ _ hp hq;obtain⟨kk,hkk⟩:=List.mem_iff_getElem?.mp hr';have hA2:=s2 _ _ hA;have hR2:=hR.mono s2;refine⟨_,rfl,_,rfl,_,rfl,_,_,rfl,rfl,a,_,_,_,rfl,rfl,SqL.of hA2,az (by omega) (by rw[show((1:Int)+(i:Int) - 1).toNat=i by omega];exact aL hp),_,rfl,_,rfl,a,_,_,_,rfl,rfl,SqL.of hA2,az (by omega) (by rw[show((1:Int)+(i:Int)).toNat=i+1 by omega];exact aL hq),n,R,as,rs,_,_,kk,r,rfl,hR2,t,hkk,j,fun H3 s3=>?_⟩
     refine⟨_,rfl,_,_,rfl,rfl,_,rfl,iteD (fun e=>absurd e (by omega)) (fun _=>?_)⟩
     obtain⟨p,hp2,hrow⟩:=(hR2.mono s3).get (i:=kk) (z:=rowI r) (by rw[List.getElem?_map,hkk];rfl)
     refine⟨_,rfl,_,rfl,_,rfl,R,_,_,_,rfl,rfl,SqL.of (hR2.mono s3).top,az (by omega) (by rw[Int.toNat_natCast];exact c6 hp2),p,_,_,_,rfl,rfl,SqL.of hrow,rfl,_,_,rfl,rfl,?_⟩
     refine⟨some (.int (1+(i:Int))),some (.int (kk:Nat)),?_,s2.trans s3⟩;rw[h8 hp hq,ku t m hr' j];rfl
   . rintro σ H2 ⟨v3,v4,rfl,s2⟩;refine⟨_,rfl,?_⟩;rw[List.take_of_length_le (by omega)]
     exact k H2 s2
end
end Tw
namespace Tw
open PySem L2
open PyProof.Rows (b2i firstMet firstMet_any firstMet_succ)
section
variable {P:Program}{w:World}{K:PySem.W.Frag}{mg:Str->Option Value}{base:Heap}{n:Nat}{rs:List Road}{f:Int->Int->Int}
theorem map_getD6 (ns:List Int):(List.range ns.length).map (fun i=>ns.getD i 0)=ns:=by
 refine List.ext_getElem? fun i=>?_;rw[List.getElem?_map];by_cases hi:i < ns.length
 . rw[List.getElem?_range hi,List.getElem?_eq_getElem hi];show some (ns.getD i 0)=_;rw[List.getD_eq_getElem?_getD,List.getElem?_eq_getElem hi];rfl
 . rw[List.getElem?_eq_none (by rw[List.length_range];omega),List.getElem?_eq_none (by omega)];rfl
theorem met_mem6 {ns:List Int}{y:Int}:y∈firstMet (fun i=>ns.getD i 0) ns.length<->y∈ns:=by
 have h:=firstMet_any (fun i=>ns.getD i 0) ns.length y;rw[map_getD6]at h;rw[Bool.eq_iff_iff,List.any_eq_true,List.any_eq_true]at h;constructor
 . intro hy;obtain⟨x,hx,e⟩:=h.mp ⟨y,hy,by simp⟩
   have:x=y:=by simpa using e
   rw[←this];exact hx
 . intro hy;obtain⟨x,hx,e⟩:=h.mpr ⟨y,hy,by simp⟩
   have:x=y:=by simpa using e
   rw[←this];exact hx
theorem gC (val:Nat->Int):∀i,(firstMet val i).Nodup
 | 0=>by show([]:List Int).Nodup;exact List.nodup_nil
 | i+1=>by
  rw[firstMet_succ];unfold PyProof.Rows.step_dedup;have ih:=gC val i
  split
  . exact ih
  . rename_i h;refine List.nodup_append.mpr ⟨ih,by simp,fun a ha b hb e=>?_⟩
    have:b=val i:=by simpa using hb
    exact h (List.any_eq_true.mpr ⟨a,ha,by rw[e,this];simp⟩)
theorem unlike2 {cs:List Bool}:d4 cs=2<->true∈cs/\false∈cs:=by
 have e:(fun i=>b2i (cs.getD i false))=fun i=>(cs.map b2i).getD i 0:=by
  funext i
  rw[List.getD_eq_getElem?_getD,List.getD_eq_getElem?_getD,List.getElem?_map];cases cs[i]?<;>rfl
 have el:d4 cs=(firstMet (fun i=>(cs.map b2i).getD i 0) (cs.map b2i).length).length:=by
  unfold d4;rw[e,List.length_map]
 rw[el];have nd:=gC (fun i=>(cs.map b2i).getD i 0) (cs.map b2i).length;have mem:∀y,y∈firstMet (fun i=>(cs.map b2i).getD i 0) (cs.map b2i).length<->y∈cs.map b2i:=fun y=>met_mem6;generalize firstMet (fun i=>(cs.map b2i).getD i 0) (cs.map b2i).length=l at nd mem;have t1:(1:Int)∈l<->true∈cs:=by
  rw[mem,List.mem_map];constructor
  . rintro⟨c,hc,e⟩;cases c
    . cases e
    . exact hc
  . intro h;exact⟨true,h,rfl⟩
 have t0:(0:Int)∈l<->false∈cs:=by
  rw[mem,List.mem_map];constructor
  . rintro⟨c,hc,e⟩;cases c
    . exact hc
    . cases e
  . intro h;exact⟨false,h,rfl⟩
 have two:∀x∈l,x=0∨x=1:=fun x hx=>by
  obtain⟨c,_,e⟩:=List.mem_map.mp ((mem x).mp hx);cases c
  . exact .inl e.symm
  . exact .inr e.symm
 rw[←t1,←t0];have le:l.length≤2:=dJ (k:=[0,1]) nd fun x hx=>by
  rcases two x hx with h | h<;>rw[h]<;>decide
 constructor
 . intro h2
   match l,h2,nd,two with
   | [x,y],_,nd,two =>
    have hx:=two x (by simp)
    have hy:=two y (by simp)
    have ne:x≠y:=fun q=>by rw[q]at nd;simp at nd
    rcases hx with rfl | rfl<;>rcases hy with rfl | rfl
    . exact absurd rfl ne
    . exact⟨by simp,by simp⟩
    . exact⟨by simp,by simp⟩
    . exact absurd rfl ne
 . rintro⟨h1,h0⟩;have:([0,1]:List Int).length≤l.length:=dJ (by decide) fun x hx=>by
    simp at hx;rcases hx with h | h<;>rw[h]<;>assumption
   show l.length=2;have:2≤l.length:=this;omega
def jR:Sp:=fun vs H Q _=>∃(n:Nat) (R A:Addr) (as:List Addr) (rs:List Road) (f:Int->Int->Int) (S:List Int),vs=[.ref R,.ref A]/\RowsAt H R as (rs.map rowI)/\Tree n rs/\Met rs (pl n) f/\H A=some (.lst (zV S))/\S.length < 60/\(∀x∈S,x∈pl n) ∧
 ∀(L:Addr) (bs:List Addr) (H':Hp),Same H H'->H L=none->RowsAt H' L bs ((rs.filter (sepB f S)).map rowI)->(∀b∈bs,H b=none)->Q (.ref L) H'
theorem scLNeed:FnScope ["_law_roads", "_law_some", "_law_found", "_law_a", "_law_b", "_law_length_here", "_law_side_here"] ["_law_roads", "_law_some"] (ae cw):=⟨rfl,rfl,rfl,by decide +kernel,rfl,by decide +kernel,by decide +kernel⟩
theorem ok_lneed {f fSI:Addr}{fd fdSI:FuncData}(F:Def K mg "_law_needed" cw ["_law_roads", "_law_some"] f fd)(FSI:Def K mg "_law_side" gg ["_law_roads", "_law_start", "_law_other"] fSI fdSI)(B:Bi K mg):FnOk P w K mg base CX0 2 f fd ["_law_roads", "_law_some"] jR:=by
 have GSI:FnOk P w K mg base CX0 1 fSI fdSI ["_law_roads", "_law_start", "_law_other"] kG:=ok_side FSI B;refine F.fn.ok scLNeed (fun vs H Q E h=>?_) (fun cdv A outer s H vs Q E hr h=>?_)
 . obtain⟨n,R,A,as,rs,f,S,rfl,_⟩:=h;rfl
 . obtain⟨n,R,a,as,rs,f,S,rfl,hR,t,m,hA,sl,hS,k⟩:=h;have nd:=scLNeed.nd;have th:=t.hi;have tl:=t.length;have al:=hR.len;rw[List.length_map]at al;refine⟨_,(ad (ao (i:=2) nd rfl (Or.inl rfl) (aG af))
    (ad (bA PassesOwn.never rfl (bg K (pv 0)) (jG rfl (bh (ay (i:=3) nd rfl (Or.inl rfl)) (bh (ay (i:=4) nd rfl (Or.inl rfl)) (bh (ay (i:=5) nd rfl (Or.inl rfl)) eE)))) (ad (ao (i:=6) nd rfl (Or.inr rfl) (am GSI (hr.mono (by decide)) rfl FSI.mg FSI.fn.kp FSI.bn .nil aF (a7 (pv 0) (a7 (pv 3) (a7 (pv 4) af)))))
    (ah (bG (aJ ja (pe_lensetB K rfl rfl B.len rfl B.set (bK (ae cw).names ["_law_roads", "_law_some", "_law_found", "_law_a", "_law_b", "_law_length_here", "_law_side_here"] ["_law_roads", "_law_some", "_law_found", "_law_a", "_law_b", "_law_length_here", "_law_side_here", "_law_place"] (bg K (pv 1)) (fun _ _ _ _=>bL) (fun _ _ _ _=>(cD (inK K) (pv 7) (pv 6) rfl)))) ag (b9 _)) (ah (bt (dQ PySem.F.plainAttrs_list PySem.F.slot_list_append PySem.F.type_list_append bN (pv 2) (eI (aG (a7 (pv 3) (a7 (pv 4) (a7 (pv 5) af)))) af)))) aQ))))
    (ah (aB (pv 2))))),?_⟩
   refine⟨by show 0≤sizeLine;exact aV (by decide),fun M hM=>?_⟩
   have wM:=aj (o:=.lst []) hM;have tM:RowsAt (upd H M (.lst [])) M [] []:=⟨a9,rfl,fun i p z e=>by simp at e⟩
   generalize upd H M (.lst [])=H1 at wM tM⊢;refine⟨_,rfl,R,rfl,⟨_,SqL.of (wM _ _ hR.top)⟩,?_⟩;refine d0 (K:=K) (a:=R) (xs:=as.map V.ref) (fun i σ H2=>∃(bs:List Addr) (v3 v4 v5 v6:Option V),σ=[some (.ref R),some (.ref a),some (.ref M),v3,v4,v5,v6]/\RowsAt H2 M bs (((rs.take i).filter (sepB f S)).map rowI)/\Same H H2/\(∀b∈bs,H b=none)/\M∉bs)
    ⟨[],none,none,none,none,rfl,tM,wM,(fun b hb=>nomatch hb),(fun h=>nomatch h)⟩ (fun i σ H2 _ ⟨_,_,_,_,_,_,_,s2,_⟩=>SqL.of (s2 _ _ hR.top)) ?_ ?_
   . rintro i y σ H2 hi ⟨bs,v3,v4,v5,v6,rfl,hB,s2,fr,nM⟩;obtain⟨p,hp,rfl⟩:=dM hi;have hil:i < rs.length:=by rw[←al];exact(List.getElem?_eq_some_iff.mp hp).1
     have er:rs[i]? = some rs[i]:=List.getElem?_eq_getElem hil;have hrm:=List.mem_of_getElem? er;generalize rs[i]=r at er hrm;have hrow:=s2 _ _ (hR.row i p (rowI r) hp (by rw[List.getElem?_map,er];rfl))
     refine⟨p,_,rfl,SqL.of hrow,rfl,_,_,rfl,_,_,rfl,_,_,rfl,rfl,?_⟩;refine⟨_,rfl,_,rfl,_,rfl,n,R,as,rs,f,r,r.1,r.2.1,rfl,hR.mono s2,t,m,hrm,.inl ⟨rfl,rfl⟩,fun L fdd H3 s3 hL0 hL pm=>?_⟩;have s23:=s2.trans s3;have inS:∀x∈S,decide (x∈fdd) = !(sd f r x):=fun x hx=>by
      obtain⟨hp1,hq1,hl1⟩:=Met.joins t hrm (.inl ⟨rfl,rfl⟩:Joins r r.1 r.2.1);have xp:=hS x hx;have rd:=m.road x xp r hrm;have y1:=m.sym x xp r.1 hp1;have y2:=m.sym x xp r.2.1 hq1;have e:x∈fdd<->f r.1 x < f r.2.1 x:=by
       rw[pm.mem_iff];unfold jF;rw[List.mem_filter,decide_eq_true_iff];exact⟨fun h=>h.2,fun h=>⟨xp,h⟩⟩
      unfold sd;by_cases c:f r.2.1 x < f r.1 x
      . rw[decide_eq_true c,decide_eq_false (fun q=>by have:=e.mp q;omega)];rfl
      . rw[decide_eq_false c,decide_eq_true (e.mpr (by rcases rd with q | q<;>omega))];rfl
     refine⟨_,rfl,a,rfl,⟨_,SqL.of (s23 _ _ hA)⟩,fun D hD=>?_⟩;refine eR (K:=K) (a:=a) (xs:=S) (el:=V.int) (fv:=fun x=>V.bl (!(sd f r x))) (s23 _ _ hA) hD (by omega) (fun j x ex H4 Qv s4 kk=>?_) fun H4 hD4 s4=>?_
     . refine⟨_,rfl,_,rfl,L,_,rfl,.inl (SqL.of (s4 _ _ hL)),rfl,bf _,?_⟩;rw[if_neg (by decide),jJ,inS x (List.mem_of_getElem? ex)]
       exact kk H4 (Same.refl _)
     . have s24:=s23.trans s4;refine⟨D,S.map fun x=>!(sd f r x),rfl,SqL.of (by rw[List.map_map];exact hD4),by rw[List.length_map];omega,rfl,_,rfl,?_⟩
       have eq2:d4 (S.map fun x=>!(sd f r x))=2<->sepB f S r=true:=by
        rw[unlike2,iQ,List.mem_map,List.mem_map];constructor
        . rintro⟨⟨x,hx,e1⟩,⟨y,hy,e2⟩⟩;exact⟨x,hx,y,hy,fun q=>by rw[q,e2]at e1;cases e1⟩
        . rintro⟨x,hx,y,hy,ne⟩;cases c1:sd f r x<;>cases c2:sd f r y
          . rw[c1,c2]at ne;exact absurd rfl ne
          . exact⟨⟨x,hx,by rw[c1];rfl⟩,⟨y,hy,by rw[c2];rfl⟩⟩
          . exact⟨⟨y,hy,by rw[c2];rfl⟩,⟨x,hx,by rw[c1];rfl⟩⟩
          . rw[c1,c2]at ne;exact absurd rfl ne
       have etk:rs.take (i+1)=rs.take i++[r]:=by rw[List.take_add_one,er];rfl
       have hB4:=hB.mono (s3.trans s4);have bl:bs.length≤100:=by
        have:=hB.len;rw[List.length_map]at this;have h2:=List.length_filter_le (sepB f S) (rs.take i);rw[List.length_take]at h2;omega
       refine iteD (fun e=>?_) (fun e=>?_)
       . have e:(d4 (S.map fun x=>!(sd f r x)):Int)=2:=by injection e
         have hsep:=eq2.mp (by omega)
         refine⟨_,rfl,.inl ⟨rfl,_,SqL.of hB4.top⟩,_,rfl,_,rfl,_,rfl,by show 3≤sizeLine;exact aV (by decide),fun N hN=>?_⟩
         have nMN:M≠N:=a8 hB4.top hN;have wN:=aj (o:=.lst [V.int r.1,V.int r.2.1,V.int r.2.2]) hN;have hB5:=hB4.mono wN;have hN5:(upd H4 N (.lst [V.int r.1,V.int r.2.1,V.int r.2.2])) N=some (.lst (zV (rowI r))):=a9;refine⟨M,_,_,rfl,rfl,hB5.top,by rw[List.length_map];exact au (by omega),?_⟩
         refine⟨bs++[N],_,_,_,_,rfl,?_,fun b o e=>?_,fun b hb=>?_,fun h=>?_⟩
         . rw[etk,List.filter_append,List.filter_cons,if_pos hsep,List.filter_nil,List.map_append];exact rows_snoc hB5 nM nMN hN5
         . rw[ac (a8 e hM),ac (a8 (s24 b o e) hN)];exact s24 b o e
         . rcases List.mem_append.mp hb with q | q
           . exact fr b q
           . rw[List.mem_singleton.mp q];exact s24.free hN
         . rcases List.mem_append.mp h with q | q
           . exact nM q
           . exact nMN (List.mem_singleton.mp q)
       . have hsep:¬sepB f S r=true:=fun q=>e (by rw[show(d4 (S.map fun x=>!(sd f r x)):Int)=2 by have:=eq2.mpr q;omega])
         refine⟨bs,_,_,_,_,rfl,?_,s24,fr,nM⟩;rw[etk,List.filter_append,List.filter_cons,if_neg hsep,List.filter_nil,List.append_nil];exact hB4
   . rintro σ H2 ⟨bs,v3,v4,v5,v6,rfl,hB,s2,fr,nM⟩;rw[List.length_map,al,List.take_length]at hB;exact⟨_,rfl,k M bs H2 s2 hM hB fr⟩
end
end Tw
namespace Tw
open PySem L2
open PySem.Builtin.Int (intBits)
section
variable {P:Program}{w:World}{K:PySem.W.Frag}{mg:Str->Option Value}{base:Heap}
def iP (K:PySem.W.Frag):Sp:=fun vs H Q _=>∃(n:Nat) (N:Addr) (xs:List Int),vs=[.int n,.ref N]/\1≤n/\n≤12/\H N=some (.lst (zV xs))/\Nums 96 xs/\∀(L:Addr) (zs:List Int) (H':Hp),Same H H'->H' L=some (.lst (zV zs))->zs.length≤20->(∀x∈zs,x∈pl n)->Q (.ref L) H'
theorem scPlaces:FnScope ["_law_many", "_law_numbers_here", "_law_some"] ["_law_many", "_law_numbers_here"] (ae cu):=⟨rfl,rfl,rfl,by decide +kernel,rfl,by decide +kernel,by decide +kernel⟩
theorem ok_places {f:Addr}{fd:FuncData}(F:Def K mg "_law_places" cu ["_law_many", "_law_numbers_here"] f fd)(B:Bi K mg):FnOk P w K mg base CX0 1 f fd ["_law_many", "_law_numbers_here"] (iP K):=by
 refine F.fn.ok scPlaces (fun vs H Q E h=>?_) (fun cdv A outer s H vs Q E hr h=>?_)
 . obtain⟨n,N,xs,rfl,_⟩:=h;rfl
 . obtain⟨n,N,xs,rfl,n1,n12,hN,nums,k⟩:=h;have nd:=scPlaces.nd;refine⟨_,(ad (ix (ae cu).names ["_law_many", "_law_numbers_here", "_law_some"] ["_law_many", "_law_numbers_here", "_law_some", "_law_k"] 2 nd rfl (Or.inl rfl) (be rfl B.range (bi (ak b8 (av (ixK K) (pv 1) ag (fun _ _=>rfl)) (av (ixK K) (aG (aH ag (aH ag af))) (ak b8 (av (ixK K) (pv 1) ag (fun _ _=>rfl)) ag) (fun _ _=>rfl))) af)) (fun _ _ _ _=>bL) (fun _ _ _ _=>(ak b8 (av (ixK K) (pv 1) (ak bo ag (pv 3)) (fun _ _=>rfl)) (pv 0))))
    (ad (bG (aJ ja (ak b8 (av (ixK K) (pv 1) ag (fun _ _=>rfl)) ag) ag (b9 _)) (ah (ao (i:=2) nd rfl (Or.inl rfl) (ak iB (pv 2) (cj (slK K) (pv 2) dH (cB ag))))) aQ)
    (ah (aB (pv 2))))),?_⟩
   obtain⟨c43,h43,_⟩:=nums.get (show 43 < 96 by decide)
   obtain⟨c44,h44,_⟩:=nums.get (show 44 < 96 by decide)
   obtain⟨c45,h45,_⟩:=nums.get (show 45 < 96 by decide)
   refine⟨_,rfl,N,_,_,_,rfl,rfl,SqL.of hN,az (by decide) (aL h44),by show 2≤sizeLine;exact aV (by decide),fun Z hZ=>?_⟩
   have w1:=aj (o:=.lst [V.int 4,V.int 15]) hZ;have tZ:(upd H Z (.lst [V.int 4,V.int 15])) Z=some (.lst [V.int 4,V.int 15]):=a9;obtain⟨v,hv,hs,hat,_⟩:=cV (K:=K) tZ (Int.emod_nonneg c45 (show(2:Int)≠0 by decide)) (Int.emod_lt_of_pos c45 (show(0:Int) < 2 by decide))
   obtain⟨y,rfl,y0,y15⟩:∃y:Int,v=V.int y/\0 < y/\y≤15:=by
    simp only[List.mem_cons,List.not_mem_nil,or_false]at hv;rcases hv with h | h<;>exact⟨_,h,by decide,by decide⟩
   have hN1:=w1 _ _ hN;have m0:=Int.emod_nonneg c44 (show y≠0 by omega)
   have m1:=Int.emod_lt_of_pos c44 y0;refine⟨_,rfl,N,_,_,_,rfl,rfl,SqL.of hN1,az (by decide) (aL h45),_,_,rfl,rfl,(by show(0:Int) < 2;decide),Z,_,_,_,rfl,rfl,hs,hat,_,_,rfl,rfl,y0,_,rfl,by show -2 ^ 62≤c44 % y;omega,by show c44 % y < 2 ^ 62;omega,fun D hD=>?_⟩
   clear hs hat hv tZ;generalize upd H Z (.lst [V.int 4,V.int 15])=H1 at w1 hN1 hD⊢;obtain⟨cn,hcn⟩:∃cn:Nat,c44 % y=(cn:Int):=⟨_,(Int.toNat_of_nonneg m0).symm⟩;rw[hcn]at m1;rw[hcn,Int.toNat_natCast];refine comp_rng (fv:=fun i=>V.int (xs.getD (12+i) 0 % n)) hD (by omega) (fun i hi H4 Qv s4 kk=>?_) fun H2 hD2 s2=>?_
   . obtain⟨x,hx,_⟩:=nums.get (show 12+i < 96 by omega)
     have e:xs.getD (12+i) 0=x:=by rw[List.getD_eq_getElem?_getD,hx];rfl
     have kk':Qv (V.int (xs.getD (12+i) 0 % n)) H4:=kk H4 (Same.refl _);rw[e]at kk';exact⟨_,rfl,_,rfl,_,_,rfl,rfl,N,_,_,_,rfl,rfl,SqL.of (s4 _ _ hN1),az (by omega) (by rw[show((12:Int)+(0+(i:Int))).toNat=12+i by omega];exact aL hx),_,rfl,_,_,rfl,rfl,(by show(0:Int) < n;omega),kk'⟩
   have ez:(List.range cn).map (fun i=>V.int (xs.getD (12+i) 0 % n))=zV ((List.range cn).map fun i=>xs.getD (12+i) 0 % n):=by unfold zV;rw[List.map_map];rfl
   rw[ez]at hD2;have zl:((List.range cn).map fun i=>xs.getD (12+i) 0 % (n:Int)).length≤15:=by rw[List.length_map,List.length_range];omega
   have zm:∀x∈(List.range cn).map fun i=>xs.getD (12+i) 0 % (n:Int),x∈pl n:=fun x hx=>by
    obtain⟨i,_,rfl⟩:=List.mem_map.mp hx;exact mem_pl.mpr ⟨Int.emod_nonneg _ (by omega),Int.emod_lt_of_pos _ (by omega)⟩
   generalize ((List.range cn).map fun i=>xs.getD (12+i) 0 % (n:Int))=zs at hD2 zl zm;clear ez;have s02:=w1.trans s2;refine⟨_,rfl,N,_,_,_,rfl,rfl,SqL.of (s2 _ _ hN1),az (by decide) (aL h43),_,_,rfl,rfl,(by show(0:Int) < 4;decide),rfl,_,rfl,?_⟩
   rw[d3];refine iteD (fun e=>?_) (fun e=>?_)
   . refine⟨_,rfl,_,rfl,_,rfl,D,_,rfl,SqL.of hD2,fun X1 hX1=>?_⟩;have u1:=aj (o:=.lst (cutV (zV zs) none (some 2))) hX1;have ec:cutV (zV zs) none (some 2)=zV (zs.take 2):=by
      unfold cutV;rw[HT.sIx_none,show(2:Int)=((2:Nat):Int)from rfl,HT.sIx_nat,Nat.sub_zero,List.drop_zero]
      unfold zV;rw[List.map_take,List.length_map];by_cases h:2≤zs.length
      . rw[Nat.min_eq_left h]
      . rw[Nat.min_eq_right (by omega),List.take_of_length_le (by simp),List.take_of_length_le (by simp;omega)]
     refine⟨D,X1,_,_,rfl,rfl,u1 _ _ hD2,a9,by rw[ec,ai,ai,List.length_take];exact iF (by omega),fun X2 hX2=>?_⟩
     refine⟨_,rfl,k X2 (zs++zs.take 2) _ ((s02.trans u1).trans (aj hX2)) (by rw[a9,ec];unfold zV;rw[List.map_append]) (by rw[List.length_append,List.length_take];omega) (fun x hx=>by
      rcases List.mem_append.mp hx with e | e
      . exact zm x e
      . exact zm x (List.mem_of_mem_take e))⟩
   . exact⟨_,rfl,k D zs H2 s02 hD2 (by omega) zm⟩
end
end Tw
namespace L2
open PySem PySem.Spec PyProof.Rows
end L2
namespace Tw
open PySem L2
def spLawT (names:List Str)(K:PySem.W.Frag):Sp:=fun vs H Q _=>∃(a:Addr) (ns:List Int),vs=[.ref a]/\SqL K H a (zV ns)/\(∀n∈ns,Bits n)/\ns.length≤63/\Tabs K names H/\∀H',Q (.bl true) H'
section
variable {P:Program}{w:World}{K:PySem.W.Frag}{mg:Str->Option Value}{base:Heap}
theorem need_sep {f:Int->Int->Int}{s:Int}{S:List Int}(rs:List Road):rs.filter (bQ f s S)=rs.filter (sepB f (S++[s])):=List.filter_congr fun r _=>by
 rw[Bool.eq_iff_iff,iQ,←needB_iff (s:=s) (l:=S++[s]) (by simp) (fun _=>Iff.rfl)]
 unfold bQ;rw[List.any_append];simp
theorem far_max {f:Int->Int->Int}{s lst M:Int}{S:List Int}(mem:lst=s∨lst∈S)(mx:∀y∈S,f s y≤f s lst)(z:f s s=0)(nn:0≤f s lst)(h1:M∈(S++[s]).map (f s))(h2:∀a∈(S++[s]).map (f s),a≤M):M=f s lst:=by
 obtain⟨y,hy,rfl⟩:=List.mem_map.mp h1;have a1:f s y≤f s lst:=by
  rcases List.mem_append.mp hy with e | e
  . exact mx y e
  . rw[List.mem_singleton.mp e,z];exact nn
 have a2:f s lst≤f s y:=h2 _ (List.mem_map.mpr ⟨lst,(by
  rcases mem with e | e
  . exact List.mem_append_right _ (by rw[e];simp)
  . exact List.mem_append_left _ e),rfl⟩)
 omega
theorem jx {α:Type}(l:List α):(l.map fun _=>true).all id=true:=List.all_eq_true.mpr fun b hb=>by obtain⟨_,_,rfl⟩:=List.mem_map.mp hb;rfl
theorem scLaw:FnScope ["_law_script", "_law_many", "_law_roads", "_law_numbers_here", "_law_some", "_law_start", "_law_far_from", "_law_handed", "_law_found", "_law_due"] ["_law_script"] (ae sLaw):=⟨rfl,rfl,rfl,by decide +kernel,rfl,by decide +kernel,by decide +kernel⟩
theorem ok_law {f fT fPL fFA fCO fLB fLN fLL fLO fY T c:Addr}{fd fdT fdPL fdFA fdCO fdLB fdLN fdLL fdLO fdY:FuncData}(F:Def K mg "law" sLaw ["_law_script"] f fd)(FT:Def K mg "_law_tree" gf ["_law_script"] fT fdT)(FPL:Def K mg "_law_places" cu ["_law_many", "_law_numbers_here"] fPL fdPL)(FFA:Def K mg "_law_fars" dh ["_law_many", "_law_roads"] fFA fdFA)(FCO:Def K mg "_law_copy" fm ["_law_rows"] fCO fdCO)(FLB:Def K mg "line_by" d6 ["many", "roads", "start", "some"] fLB fdLB)(FLN:Def K mg "_law_needed" cw ["_law_roads", "_law_some"] fLN fdLN)(FLL:Def K mg "_law_length" d7 ["_law_roads", "_law_found"] fLL fdLL)(FLO:Def K mg "length_of" bT ["many", "roads", "places"] fLO fdLO)(FY:Def K mg "_law_whole" d8 ["_law_found"] fY fdY)(GT:FnOk P w K mg base CX0 3 fT fdT ["_law_script"] (jO K))(GPL:FnOk P w K mg base CX0 1 fPL fdPL ["_law_many", "_law_numbers_here"] (iP K))(GLB:FnOk P w K mg base CX0 6 fLB fdLB ["many", "roads", "start", "some"] (g8 T (lamQ "line_from")))(GLN:FnOk P w K mg base CX0 2 fLN fdLN ["_law_roads", "_law_some"] jR)(GLL:FnOk P w K mg base CX0 2 fLL fdLL ["_law_roads", "_law_found"] kJ)(GLO:FnOk P w K mg base CX0 6 fLO fdLO ["many", "roads", "places"] ir)(hT:PySem.W.tabIn K "line_from" = some (c,T))(B:Bi K mg):FnOk P w K mg base CX0 8 f fd ["_law_script"] (spLawT ["line_from"] K):=by
 have GCO:FnOk P w K mg base CX0 1 fCO fdCO ["_law_rows"] kK:=ok_copy FCO B;have GY:FnOk P w K mg base CX0 1 fY fdY ["_law_found"] dE:=ok_lwhole FY B;have GFA:FnOk P w K mg base CX0 1 fFA fdFA ["_law_many", "_law_roads"] lH:=ok_tab FFA B;refine F.fn.ok scLaw (fun vs H Q E h=>?_) (fun cdv A outer s H vs Q E hr h=>?_)
 . obtain⟨a,ns,rfl,_⟩:=h;rfl
 . obtain⟨a,ns,rfl,hS,hb,hl,tb,k⟩:=h;have hTt:H T=some (.tbl #[.str (lamQ "line_from") 0]):=tb "line_from" (by simp) _ _ hT
   have nd:=scLaw.nd;have hu:=dy hr;have hu2:(A.deeper (PyProof.Rows.envOfC "law" (ae sLaw) s.heap.objs.size f cdv)).units+2 < cLine:=by have:=hr.un;omega
   refine⟨_,(ad (gl (am GT (hr.mono (by decide)) rfl FT.mg FT.fn.kp FT.bn .nil aF (a7 (pv 0) af)) (kR rfl (bh (ay (i:=1) nd rfl (Or.inl rfl)) (bh (ay (i:=2) nd rfl (Or.inl rfl)) (bh (ay (i:=3) nd rfl (Or.inl rfl)) eE)))))
    (ad (ao (i:=4) nd rfl (Or.inl rfl) (am GPL (hr.mono (by decide)) rfl FPL.mg FPL.fn.kp FPL.bn .nil aF (a7 (pv 1) (a7 (pv 3) af))))
    (ad (ao (i:=5) nd rfl (Or.inl rfl) (ak b8 (av (ixK K) (pv 3) ag (fun _ _=>rfl)) (pv 1)))
    (ad (ao (i:=6) nd rfl (Or.inr rfl) (av (ixK K) (am GFA (hr.mono (by decide)) rfl FFA.mg FFA.fn.kp FFA.bn .nil aF (a7 (pv 1) (a7 (pv 2) af))) (pv 5) (fun _ _=>rfl)))
    (ad (ao (i:=7) nd rfl (Or.inl rfl) (aG (a7 (am GCO (hr.mono (by decide)) rfl FCO.mg FCO.fn.kp FCO.bn .nil aF (a7 (pv 2) af)) (a7 (f7 (lO K) (by rfl) B.list PyProof.Rows.boot_list (a7 (pv 4) af)) af))))
    (ad (ao (i:=8) nd rfl (Or.inr rfl) (am GLB (hr.mono (by decide)) rfl FLB.mg FLB.fn.kp FLB.bn .nil aF (a7 (pv 1) (bw (av (ixK K) (pv 7) ag (fun _ _=>rfl)) (a7 (pv 5) (bw (av (ixK K) (pv 7) ag (fun _ _=>rfl)) af))))))
    (ad (bG (PW.pt (ft (dk (dj (aD (isinstK K) (by rfl) B.isinstance PyProof.Rows.boot_isinstance (a7 (pv 8) (a7 (eG (v:=.ty "list") rfl B.list PyProof.Rows.boot_list rfl) af))))) (ft (aJ (fV K (Nat.lt_of_succ_lt hu)) (cj (slK K) (pv 8) dH (cB ag)) (aG (a7 (pv 5) af)) (b9 _)) (eX (dk (dj (aD (eU rfl) (by rfl) B.all PyProof.Rows.boot_all (a7 (bK (ae sLaw).names ["_law_script", "_law_many", "_law_roads", "_law_numbers_here", "_law_some", "_law_start", "_law_far_from", "_law_handed", "_law_found", "_law_due"] ["_law_script", "_law_many", "_law_roads", "_law_numbers_here", "_law_some", "_law_start", "_law_far_from", "_law_handed", "_law_found", "_law_due", "_law_place"] (bg K (pv 8)) (fun _ _ _ _=>bL) (fun _ _ _ _=>(am GY (hr.mono (by decide)) rfl FY.mg FY.fn.kp FY.bn .nil aF (a7 (pv 10) af)))) af)))))))) (ah (aB gX)) aQ)
    (ad (ao (i:=9) nd rfl (Or.inl rfl) (ak gu ag (aD (sumK K rfl) (by rfl) B.sum PyProof.Rows.boot_sum (a7 (bK (ae sLaw).names ["_law_script", "_law_many", "_law_roads", "_law_numbers_here", "_law_some", "_law_start", "_law_far_from", "_law_handed", "_law_found", "_law_due"] ["_law_script", "_law_many", "_law_roads", "_law_numbers_here", "_law_some", "_law_start", "_law_far_from", "_law_handed", "_law_found", "_law_due", "_law_row"] (bg K (am GLN (hr.mono (by decide)) rfl FLN.mg FLN.fn.kp FLN.bn .nil aF (a7 (pv 2) (bi (ak iB (pv 4) (aG (a7 (pv 5) af))) af)))) (fun _ _ _ _=>bL) (fun _ _ _ _=>(av (ixK K) (pv 10) ag (fun _ _=>rfl)))) af))))
    (ad (ao (i:=9) nd rfl (Or.inl rfl) (ak f9 (pv 9) (aD (maxL K rfl) (by rfl) B.max PyProof.Rows.boot_max (a7 (bK (ae sLaw).names ["_law_script", "_law_many", "_law_roads", "_law_numbers_here", "_law_some", "_law_start", "_law_far_from", "_law_handed", "_law_found", "_law_due"] ["_law_script", "_law_many", "_law_roads", "_law_numbers_here", "_law_some", "_law_start", "_law_far_from", "_law_handed", "_law_found", "_law_due", "_law_place"] (bg K (ak iB (pv 4) (aG (a7 (pv 5) af)))) (fun _ _ _ _=>bL) (fun _ _ _ _=>(av (ixK K) (pv 6) (pv 10) (fun _ _=>rfl)))) af))))
    (ad (bG (PW.pt (ft (aJ gt (am GLL (hr.mono (by decide)) rfl FLL.mg FLL.fn.kp FLL.bn .nil aF (a7 (pv 2) (a7 (pv 8) af))) (pv 9) (b9 _)) (eX (dk (dj (aD (eU rfl) (by rfl) B.all PyProof.Rows.boot_all (a7 (bK (ae sLaw).names ["_law_script", "_law_many", "_law_roads", "_law_numbers_here", "_law_some", "_law_start", "_law_far_from", "_law_handed", "_law_found", "_law_due"] ["_law_script", "_law_many", "_law_roads", "_law_numbers_here", "_law_some", "_law_start", "_law_far_from", "_law_handed", "_law_found", "_law_due", "_law_place"] (bg K (pv 4)) (fun _ _ _ _=>bL) (fun _ _ _ _=>(cD (inK K) (pv 10) (pv 8) rfl))) af))))))) (ah (aB gX)) aQ)
    (ad (bG (aJ gt (am GLO (hr.mono (by decide)) rfl FLO.mg FLO.fn.kp FLO.bn .nil aF (a7 (pv 1) (bw (av (ixK K) (pv 7) ag (fun _ _=>rfl)) (a7 (pv 8) af)))) (pv 9) (b9 _)) (ah (aB gX)) aQ)
    (ad (bt (dQ PySem.F.plainAttrs_list PySem.F.slot_list_append PySem.F.type_list_append bN (pv 8) (aH ag af)))
    (ah (aB (cD (op_eqH hu2) (pv 7) (aG (a7 (pv 2) (a7 (pv 4) af))) (b9 _)))))))))))))))),?_⟩
   refine⟨_,rfl,a,ns,rfl,hS,hl,fun U R N as n rs xs H1 hU hR t hle hN nm s1=>?_⟩;refine⟨U,_,rfl,SqT.of hU,rfl,_,_,rfl,_,_,rfl,_,_,rfl,rfl,?_⟩;have th:=t.hi;have tlo:=t.lo;have tl:=t.length;have al:=hR.len;obtain⟨f,m⟩:=t.met;refine⟨_,rfl,_,rfl,n,N,xs,rfl,tlo,th,hN,nm,fun SA S H2 s2 hSA sl hSp=>?_⟩;have hR2:=hR.mono s2;obtain⟨x42,h42,_⟩:=nm.get (show 42 < 96 by omega)
   have hst:x42 % (n:Int)∈pl n:=mem_pl.mpr ⟨Int.emod_nonneg _ (by omega),Int.emod_lt_of_pos _ (by omega)⟩
   refine⟨_,rfl,N,_,_,_,rfl,rfl,SqL.of (s2 _ _ hN),az (by decide) (aL h42),_,rfl,_,_,rfl,rfl,(by show(0:Int) < n;omega),?_⟩
   dsimp only;generalize x42 % (n:Int)=s0 at hst;refine⟨_,rfl,_,rfl,n,R,as,rs,f,rfl,hR2.rows,t,m,fun TB ts H3 s3 hTB0 hTB=>?_⟩;obtain⟨tr,htr,hrow⟩:=hTB.get (tabOf_get hst);refine⟨_,rfl,TB,_,_,_,rfl,rfl,SqL.of hTB.top,az (mem_pl.mp hst).1 (c6 htr),?_⟩;have hR3:=hR2.mono s3;have hSA3:=s3 _ _ hSA;refine⟨_,rfl,R,as,rs.map rowI,rfl,hR3.rows,by rw[List.length_map];omega,fun D bs H4 hD4 s4 dfr hD0=>?_⟩
   refine⟨_,rfl,SA,_,rfl,.inl (SqL.of (s4 _ _ hSA3)),fun CP hCP=>?_⟩;have w5:=aj (o:=.lst (zV S)) hCP;have hCP5:(upd H4 CP (.lst (zV S))) CP=some (.lst (zV S)):=a9;have hD5:=hD4.mono w5;generalize upd H4 CP (.lst (zV S))=H5 at w5 hCP5 hD5⊢;refine⟨by show 2≤sizeLine;exact aV (by decide),fun HD hHD=>?_⟩
   have w6:=aj (o:=.lst [V.ref D,V.ref CP]) hHD;have hHD6:(upd H5 HD (.lst [V.ref D,V.ref CP])) HD=some (.lst [V.ref D,V.ref CP]):=a9;have hD6:=hD5.mono w6;have hCP6:=w6 _ _ hCP5;have s36:=(s4.trans w5).trans w6;generalize upd H5 HD (.lst [V.ref D,V.ref CP])=H6 at w6 hHD6 hD6 hCP6 s36⊢;have s16:=s1.trans (s2.trans (s3.trans s36));refine⟨_,rfl,_,rfl,HD,_,_,_,rfl,rfl,SqL.of hHD6,rfl,_,rfl,_,rfl,HD,_,_,_,rfl,rfl,SqL.of hHD6,rfl,n,D,bs,rs,s0,S,CP,f,_,rfl,hD6,t,m,hst,hCP6,hSp,by omega,s16 _ _ hTt,rfl,fun FO ws lst H7 s7 hFO0 hFO ln=>?_⟩
   have few:=ln.few;have w1:1≤ws.length:=(List.getElem?_eq_some_iff.mp ln.first).1;refine⟨_,rfl,_,_,_,_,rfl,.lst hFO,B.ll,_,rfl,iteF ?_⟩;refine⟨_,rfl,_,rfl,FO,_,rfl,SqL.of hFO,fun X1 hX1=>?_⟩;have ec:cutV (zV ws) none (some 1)=zV [s0]:=by
    obtain⟨x,l,rfl⟩:∃x l,ws=x::l:=by
     cases ws with
     | nil=>exact absurd w1 (by decide)
     | cons x l=>exact⟨x,l,rfl⟩
    have:=ln.first;cases this;unfold cutV;rw[HT.sIx_none,show(1:Int)=((1:Nat):Int)from rfl,HT.sIx_nat,Nat.sub_zero,List.drop_zero,Nat.min_eq_left (by rw[ai];exact w1)]
    rfl
   rw[ec];have w8:=aj (o:=.lst (zV [s0])) hX1;have hX8:(upd H7 X1 (.lst (zV [s0]))) X1=some (.lst (zV [s0])):=a9;generalize upd H7 X1 (.lst (zV [s0]))=H8 at w8 hX8⊢;refine⟨_,rfl,by show 1≤sizeLine;exact aV (by decide),fun X2 hX2=>?_⟩
   have w9:=aj (o:=.lst [V.int s0]) hX2;have hX9:(upd H8 X2 (.lst [V.int s0])) X2=some (.lst (zV [s0])):=a9;generalize upd H8 X2 (.lst [V.int s0])=H9 at w9 hX9⊢;refine⟨X1,X2,_,_,rfl,rfl,SqL.of (w9 _ _ hX8),SqL.of hX9,bf _,bf _,_,rfl,?_⟩;show(if (!eqVs (zV [s0]) (zV [s0]))=true then _ else _)
   rw[dN (bf _)];refine iteF ?_;have s79:=w8.trans w9;have hFO9:=s79 _ _ hFO;refine⟨_,rfl,FO,rfl,⟨_,SqL.of hFO9⟩,fun C1 hC1=>?_⟩;refine eR (K:=K) (a:=FO) (xs:=ws) (el:=V.int) (fv:=fun _=>V.bl true) hFO9 hC1 (by omega) (fun i x ex HA Qw sA kw=>⟨_,rfl,x,rfl,kw HA (Same.refl _)⟩) fun HA hCA sA=>?_
   refine⟨C1,ws.map fun _=>true,rfl,SqL.of (by rw[List.map_map];exact hCA),?_⟩
   rw[jx];refine⟨_,rfl,iteF ?_⟩;have s7A:=s79.trans sA;have s3A:=(s36.trans s7).trans s7A;refine⟨_,rfl,_,rfl,_,rfl,by show 1≤sizeLine;exact aV (by decide),fun X3 hX3=>?_⟩
   have wB:=aj (o:=.lst [V.int s0]) hX3;have hX3B:(upd HA X3 (.lst [V.int s0])) X3=some (.lst (zV [s0])):=a9;generalize upd HA X3 (.lst [V.int s0])=HB at wB hX3B⊢;have hSAB:=(s3A.trans wB) _ _ hSA3;refine⟨SA,X3,_,_,rfl,rfl,hSAB,hX3B,by rw[ai];exact iF (by show S.length+1≤_;omega),fun X4 hX4=>?_⟩
   have eS:zV S++zV [s0]=zV (S++[s0]):=by unfold zV;rw[List.map_append]
   rw[eS];have wC:=aj (o:=.lst (zV (S++[s0]))) hX4;have hX4C:(upd HB X4 (.lst (zV (S++[s0])))) X4=some (.lst (zV (S++[s0]))):=a9;generalize upd HB X4 (.lst (zV (S++[s0])))=HC at wC hX4C⊢;have s3C:=(s3A.trans wB).trans wC;have hSq:∀x∈S++[s0],x∈pl n:=fun x hx=>by
    rcases List.mem_append.mp hx with e | e
    . exact hSp x e
    . rw[List.mem_singleton.mp e];exact hst
   have lSq:(S++[s0]).length=S.length+1:=by rw[List.length_append];rfl
   refine⟨n,R,X4,as,rs,f,S++[s0],rfl,(hR3.mono s3C).rows,t,m,hX4C,by omega,hSq,fun DU du H8 s8 hDU0 hDU duf=>?_⟩
   refine⟨DU,rfl,⟨_,SqL.of hDU.top⟩,fun C4 hC4=>?_⟩;refine comp_rows (K:=K) (fv:=fun r=>V.int r.2.2) hDU hC4 (by have:=List.length_filter_le (sepB f (S++[s0])) rs;omega) (fun r p hr' HX Qv hp sX kk=>⟨_,rfl,p,_,_,_,rfl,rfl,SqL.of hp,rfl,kk HX (Same.refl _)⟩) fun HE hCE sE=>?_
   refine⟨C4,(rs.filter (sepB f (S++[s0]))).map fun r=>r.2.2,rfl,SqL.of (by rw[List.map_map];exact hCE),_,_,rfl,rfl,.inl ⟨by decide,by decide⟩,?_⟩
   have s3E:=(s3C.trans s8).trans sE;refine⟨_,rfl,_,rfl,_,rfl,by show 1≤sizeLine;exact aV (by decide),fun X5 hX5=>?_⟩
   have wF:=aj (o:=.lst [V.int s0]) hX5;have hX5F:(upd HE X5 (.lst [V.int s0])) X5=some (.lst (zV [s0])):=a9;generalize upd HE X5 (.lst [V.int s0])=HF at wF hX5F⊢;have s3F:=s3E.trans wF;refine⟨SA,X5,_,_,rfl,rfl,s3F _ _ hSA3,hX5F,by rw[ai];exact iF (by show S.length+1≤_;omega),fun X6 hX6=>?_⟩
   rw[eS];have wG:=aj (o:=.lst (zV (S++[s0]))) hX6;have hX6G:(upd HF X6 (.lst (zV (S++[s0])))) X6=some (.lst (zV (S++[s0]))):=a9;generalize upd HF X6 (.lst (zV (S++[s0])))=HG at wG hX6G⊢;have s3G:=s3F.trans wG;have hrowG:=s3G _ _ hrow;refine⟨X6,rfl,⟨_,SqL.of hX6G⟩,fun C5 hC5=>?_⟩;refine eR (K:=K) (a:=X6) (xs:=S++[s0]) (el:=V.int) (fv:=fun x=>V.int (f s0 x)) hX6G hC5 (by omega) (fun i x ex HX Qw sX kw=>?_) fun HI hCI sI=>?_
   . have hx:=hSq x (List.mem_of_getElem? ex);refine⟨_,rfl,_,rfl,tr,_,_,_,rfl,rfl,SqL.of (sX _ _ hrowG),az (mem_pl.mp hx).1 (aL (row_get hx)),kw HX (Same.refl _)⟩
   refine⟨C5,(S++[s0]).map (f s0),rfl,SqL.of (by rw[List.map_map];exact hCI),by rw[List.length_map];omega,fun M hM1 hM2=>?_⟩
   have eM:=far_max ln.mem ln.mx (m.zero s0 hst) (m.nn s0 hst lst (ln.rng lst (List.mem_of_getElem? ln.last))) hM1 hM2;subst eM;have s3I:=s3G.trans sI;refine⟨_,_,rfl,rfl,?_⟩;dsimp only;have eL:(2:Int)*((rs.filter (sepB f (S++[s0]))).map fun r=>r.2.2).sum - f s0 lst=ax f ws:=by rw[ln.len,need_sep]
   have hFOI:=(((((((s7A.trans wB).trans wC).trans s8).trans sE).trans wF).trans wG).trans sI) _ _ hFO;refine⟨_,rfl,_,rfl,n,R,as,rs,ws,FO,f,rfl,(hR3.mono s3I).rows,t,m,hFOI,ln.adj,by omega,fun HJ sJ=>?_⟩
   have s3J:=s3I.trans sJ;have hFOJ:=sJ _ _ hFOI;refine⟨_,rfl,rfl,_,rfl,?_⟩;rw[eL,decide_eq_true rfl];refine iteF ?_;have hSAJ:=s3J _ _ hSA3;refine⟨_,rfl,SA,rfl,⟨_,SqL.of hSAJ⟩,fun C6 hC6=>?_⟩;refine eR (K:=K) (a:=SA) (xs:=S) (el:=V.int) (fv:=fun _=>V.bl true) hSAJ hC6 (by omega) (fun i x ex HX Qw sX kw=>?_) fun HL hCL sL=>?_
   . refine⟨_,rfl,_,rfl,FO,_,rfl,.inl (SqL.of (sX _ _ hFOJ)),rfl,bf _,?_⟩;rw[if_neg (by decide),jJ,decide_eq_true (ln.all x (List.mem_of_getElem? ex))]
     exact kw HX (Same.refl _)
   refine⟨C6,S.map fun _=>true,rfl,SqL.of (by rw[List.map_map];exact hCL),?_⟩
   rw[jx];refine⟨_,rfl,iteF ?_⟩;have s3L:=s3J.trans sL;have hFOL:=sL _ _ hFOJ;have s6L:Same H6 HL:=(s7.trans ((((((((s7A.trans wB).trans wC).trans s8).trans sE).trans wF).trans wG).trans sI).trans sJ)).trans sL;refine⟨_,rfl,_,rfl,HD,_,_,_,rfl,rfl,SqL.of (s6L _ _ hHD6),rfl,_,rfl,n,D,bs,rs,ws,FO,f,rfl,hD6.mono s6L,t,m,hFOL,ln.rng,ln.adj,by omega,fun HM sM=>?_⟩
   refine⟨_,rfl,rfl,_,rfl,?_⟩;rw[decide_eq_true rfl];refine iteF ?_;have hFOM:=sM _ _ hFOL;have s6M:=s6L.trans sM;refine⟨_,rfl,.inl ⟨rfl,_,SqL.of hFOM⟩,FO,_,_,rfl,rfl,hFOM,by rw[ai];exact au (by omega),?_⟩
   have sY:Same H6 (upd HM FO (.lst (zV ws++[V.int 99]))):=fun b o e=>by
    rw[ac (a8 e hFO0)];exact s6M b o e
   generalize upd HM FO (.lst (zV ws++[V.int 99]))=HY at sY;refine⟨_,rfl,_,rfl,_,rfl,by show 2≤sizeLine;exact aV (by decide),fun Z hZ=>?_⟩
   have wZ:=aj (o:=.lst [V.ref R,V.ref SA]) hZ;have hZZ:(upd HY Z (.lst [V.ref R,V.ref SA])) Z=some (.lst [V.ref R,V.ref SA]):=a9;generalize upd HY Z (.lst [V.ref R,V.ref SA])=HZ at wZ hZZ;have s6Z:=sY.trans wZ;have s3Z:=s36.trans s6Z;refine⟨HD,Z,D,CP,R,SA,bs,as,_,_,_,_,rfl,rfl,SqL.of (s6Z _ _ hHD6),SqL.of hZZ,iS (hD6.mono s6Z),iS (hR3.mono s3Z).rows,(fun p hp hq=>hR3.rows.freshR (dfr p hp) hq),rfl,SqL.of (s6Z _ _ hCP6),SqL.of (s3Z _ _ hSA3),bf _,bf _,(a8 hR3.rows.top hD0).symm,(a8 (s4 _ _ hSA3) hCP).symm,?_⟩;rw[rows_same,dN (bf _)];exact k _
end
end Tw
namespace Tw
open PySem L2
theorem aO {K:PySem.W.Frag}{h:Heap}{mg:Str->Option Value}{x:Str}{st:Stmt}{ps:List Str}{f:Addr}{oc:Value}{od an:Option Addr}{osl:Array (Option Value)}{kV doc pm cdv ct:Value}(X:K.In h)(G:h.Ns mainGlobals mg)(a:PySem.W.nsIn K mainGlobals x=some (some (.ref f)))(l:K.lookup f=some ⟨oc,od,.func (PySem.W.fnOf x x (aw st) (aq st) (ae st) .none kV doc pm an cdv ct),osl⟩)(c:PySem.W.codeIn K cdv x=true)(k:PySem.W.keepIn K (.ref f)=true)(b:∀(kV doc pm:Value) (an:Option Addr) (cdv ct:Value) (us:List Value),us.length=ps.length->bindArgs (PySem.W.fnOf x x (aw st) (aq st) (ae st) .none kV doc pm an cdv ct) ⟨us,[]⟩=pure (ps.zip us)):Def K mg x st ps f (PySem.W.fnOf x x (aw st) (aq st) (ae st) .none kV doc pm an cdv ct):=⟨lu l c k,(lu l c k).binds b,PySem.W.mg_of X G a⟩
theorem tabs_some {K:PySem.W.Frag}{names:List Str}{n:Str}(h:io K names=true)(hn:n∈names):∃c P,PySem.W.tabIn K n=some (c,P):=by
 have t:=List.all_eq_true.mp (Bool.and_eq_true_iff.mp h).1 n hn;cases e:PySem.W.tabIn K n with
 | none=>rw[e]at t;cases t
 | some x=>exact⟨x.1,x.2,rfl⟩
theorem all_mk {l:PySem.W.OpenLaw}{w:World}{K:PySem.W.Frag}{h:Heap}{mg:Str->Option Value}{fa fW fP fAP fRD fI fC fCP fN fS fFF fWB fLF fLB fLO fY fA fM fE fU fT fFA fPL fCO fON fSI fLL fLN fX:Addr}(X:K.In h)(G:h.Ns mainGlobals mg)(hfa:mg "law" = some (.ref fa))(hCd:∀n∈((["line_from"]:List Str):List Str),∀c P,PySem.W.tabIn K n=some (c,P)->PySem.W.CodeHd h c P)
 {odW anW odP anP odAP anAP odRD anRD odI anI odC anC odCP anCP odN anN odS anS odFF anFF odWB anWB odLF anLF odLB anLB odLO anLO odY anY odA anA odM anM odE anE odU anU odT anT odFA anFA odPL anPL odCO anCO odON anON odSI anSI odLL anLL odLN anLN odX anX:Option Addr} {slW slP slAP slRD slI slC slCP slN slS slFF slWB slLF slLB slLO slY slA slM slE slU slT slFA slPL slCO slON slSI slLL slLN slX:Array (Option Value)}
 {ocW kVW dcW pmW cdW ctW ocP kVP dcP pmP cdP ctP ocAP kVAP dcAP pmAP cdAP ctAP ocRD kVRD dcRD pmRD cdRD ctRD ocI kVI dcI pmI cdI ctI ocC kVC dcC pmC cdC ctC ocCP kVCP dcCP pmCP cdCP ctCP ocN kVN dcN pmN cdN ctN ocS kVS dcS pmS cdS ctS ocFF kVFF dcFF pmFF cdFF ctFF ocWB kVWB dcWB pmWB cdWB ctWB ocLF kVLF dcLF pmLF cdLF ctLF ocLB kVLB dcLB pmLB cdLB ctLB ocLO kVLO dcLO pmLO cdLO ctLO ocY kVY dcY pmY cdY ctY ocA kVA dcA pmA cdA ctA ocM kVM dcM pmM cdM ctM ocE kVE dcE pmE cdE ctE ocU kVU dcU pmU cdU ctU ocT kVT dcT pmT cdT ctT ocFA kVFA dcFA pmFA cdFA ctFA ocPL kVPL dcPL pmPL cdPL ctPL ocCO kVCO dcCO pmCO cdCO ctCO ocON kVON dcON pmON cdON ctON ocSI kVSI dcSI pmSI cdSI ctSI ocLL kVLL dcLL pmLL cdLL ctLL ocLN kVLN dcLN pmLN cdLN ctLN ocX kVX dcX pmX cdX ctX:Value}
 (aW:PySem.W.nsIn K mainGlobals "is_whole" = some (some (.ref fW))) (lW:K.lookup fW=some ⟨ocW,odW,.func (PySem.W.fnOf "is_whole" "is_whole" (aw ci) (aq ci) (ae ci) .none kVW dcW pmW anW cdW ctW),slW⟩) (cW:PySem.W.codeIn K cdW "is_whole" = true) (kW:PySem.W.keepIn K (.ref fW)=true)
 (aP:PySem.W.nsIn K mainGlobals "is_place" = some (some (.ref fP))) (lP:K.lookup fP=some ⟨ocP,odP,.func (PySem.W.fnOf "is_place" "is_place" (aw cH) (aq cH) (ae cH) .none kVP dcP pmP anP cdP ctP),slP⟩) (cP:PySem.W.codeIn K cdP "is_place" = true) (kP:PySem.W.keepIn K (.ref fP)=true)
 (aAP:PySem.W.nsIn K mainGlobals "are_places" = some (some (.ref fAP))) (lAP:K.lookup fAP=some ⟨ocAP,odAP,.func (PySem.W.fnOf "are_places" "are_places" (aw bB) (aq bB) (ae bB) .none kVAP dcAP pmAP anAP cdAP ctAP),slAP⟩) (cAP:PySem.W.codeIn K cdAP "are_places" = true) (kAP:PySem.W.keepIn K (.ref fAP)=true)
 (aRD:PySem.W.nsIn K mainGlobals "is_road" = some (some (.ref fRD))) (lRD:K.lookup fRD=some ⟨ocRD,odRD,.func (PySem.W.fnOf "is_road" "is_road" (aw gh) (aq gh) (ae gh) .none kVRD dcRD pmRD anRD cdRD ctRD),slRD⟩) (cRD:PySem.W.codeIn K cdRD "is_road" = true) (kRD:PySem.W.keepIn K (.ref fRD)=true)
 (aI:PySem.W.nsIn K mainGlobals "is_tree" = some (some (.ref fI))) (lI:K.lookup fI=some ⟨ocI,odI,.func (PySem.W.fnOf "is_tree" "is_tree" (aw cx) (aq cx) (ae cx) .none kVI dcI pmI anI cdI ctI),slI⟩) (cI:PySem.W.codeIn K cdI "is_tree" = true) (kI:PySem.W.keepIn K (.ref fI)=true)
 (aC:PySem.W.nsIn K mainGlobals "check_tree" = some (some (.ref fC))) (lC:K.lookup fC=some ⟨ocC,odC,.func (PySem.W.fnOf "check_tree" "check_tree" (aw di) (aq di) (ae di) .none kVC dcC pmC anC cdC ctC),slC⟩) (cC:PySem.W.codeIn K cdC "check_tree" = true) (kC:PySem.W.keepIn K (.ref fC)=true)
 (aCP:PySem.W.nsIn K mainGlobals "check_places" = some (some (.ref fCP))) (lCP:K.lookup fCP=some ⟨ocCP,odCP,.func (PySem.W.fnOf "check_places" "check_places" (aw cy) (aq cy) (ae cy) .none kVCP dcCP pmCP anCP cdCP ctCP),slCP⟩) (cCP:PySem.W.codeIn K cdCP "check_places" = true) (kCP:PySem.W.keepIn K (.ref fCP)=true)
 (aN:PySem.W.nsIn K mainGlobals "neighbours" = some (some (.ref fN))) (lN:K.lookup fN=some ⟨ocN,odN,.func (PySem.W.fnOf "neighbours" "neighbours" (aw dP) (aq dP) (ae dP) .none kVN dcN pmN anN cdN ctN),slN⟩) (cN:PySem.W.codeIn K cdN "neighbours" = true) (kN:PySem.W.keepIn K (.ref fN)=true)
 (aS:PySem.W.nsIn K mainGlobals "steps_to" = some (some (.ref fS))) (lS:K.lookup fS=some ⟨ocS,odS,.func (PySem.W.fnOf "steps_to" "steps_to" (aw d5) (aq d5) (ae d5) .none kVS dcS pmS anS cdS ctS),slS⟩) (cS:PySem.W.codeIn K cdS "steps_to" = true) (kS:PySem.W.keepIn K (.ref fS)=true)
 (aFF:PySem.W.nsIn K mainGlobals "fars_from" = some (some (.ref fFF))) (lFF:K.lookup fFF=some ⟨ocFF,odFF,.func (PySem.W.fnOf "fars_from" "fars_from" (aw fj) (aq fj) (ae fj) .none kVFF dcFF pmFF anFF cdFF ctFF),slFF⟩) (cFF:PySem.W.codeIn K cdFF "fars_from" = true) (kFF:PySem.W.keepIn K (.ref fFF)=true)
 (aWB:PySem.W.nsIn K mainGlobals "way_between" = some (some (.ref fWB))) (lWB:K.lookup fWB=some ⟨ocWB,odWB,.func (PySem.W.fnOf "way_between" "way_between" (aw gc) (aq gc) (ae gc) .none kVWB dcWB pmWB anWB cdWB ctWB),slWB⟩) (cWB:PySem.W.codeIn K cdWB "way_between" = true) (kWB:PySem.W.keepIn K (.ref fWB)=true)
 (aLF:PySem.W.nsIn K mainGlobals "line_from" = some (some (.ref fLF))) (lLF:K.lookup fLF=some ⟨ocLF,odLF,.func (PySem.W.fnOf "line_from" "line_from" (aw bz) (aq bz) (ae bz) .none kVLF dcLF pmLF anLF cdLF ctLF),slLF⟩) (cLF:PySem.W.codeIn K cdLF "line_from" = true) (kLF:PySem.W.keepIn K (.ref fLF)=true)
 (aLB:PySem.W.nsIn K mainGlobals "line_by" = some (some (.ref fLB))) (lLB:K.lookup fLB=some ⟨ocLB,odLB,.func (PySem.W.fnOf "line_by" "line_by" (aw d6) (aq d6) (ae d6) .none kVLB dcLB pmLB anLB cdLB ctLB),slLB⟩) (cLB:PySem.W.codeIn K cdLB "line_by" = true) (kLB:PySem.W.keepIn K (.ref fLB)=true)
 (aLO:PySem.W.nsIn K mainGlobals "length_of" = some (some (.ref fLO))) (lLO:K.lookup fLO=some ⟨ocLO,odLO,.func (PySem.W.fnOf "length_of" "length_of" (aw bT) (aq bT) (ae bT) .none kVLO dcLO pmLO anLO cdLO ctLO),slLO⟩) (cLO:PySem.W.codeIn K cdLO "length_of" = true) (kLO:PySem.W.keepIn K (.ref fLO)=true)
 (aY:PySem.W.nsIn K mainGlobals "_law_whole" = some (some (.ref fY))) (lY:K.lookup fY=some ⟨ocY,odY,.func (PySem.W.fnOf "_law_whole" "_law_whole" (aw d8) (aq d8) (ae d8) .none kVY dcY pmY anY cdY ctY),slY⟩) (cY:PySem.W.codeIn K cdY "_law_whole" = true) (kY:PySem.W.keepIn K (.ref fY)=true)
 (aA:PySem.W.nsIn K mainGlobals "_law_cell_at" = some (some (.ref fA))) (lA:K.lookup fA=some ⟨ocA,odA,.func (PySem.W.fnOf "_law_cell_at" "_law_cell_at" (aw fo) (aq fo) (ae fo) .none kVA dcA pmA anA cdA ctA),slA⟩) (cA:PySem.W.codeIn K cdA "_law_cell_at" = true) (kA:PySem.W.keepIn K (.ref fA)=true)
 (aM:PySem.W.nsIn K mainGlobals "_law_mixed" = some (some (.ref fM))) (lM:K.lookup fM=some ⟨ocM,odM,.func (PySem.W.fnOf "_law_mixed" "_law_mixed" (aw dW) (aq dW) (ae dW) .none kVM dcM pmM anM cdM ctM),slM⟩) (cM:PySem.W.codeIn K cdM "_law_mixed" = true) (kM:PySem.W.keepIn K (.ref fM)=true)
 (aE:PySem.W.nsIn K mainGlobals "_law_names" = some (some (.ref fE))) (lE:K.lookup fE=some ⟨ocE,odE,.func (PySem.W.fnOf "_law_names" "_law_names" (aw dU) (aq dU) (ae dU) .none kVE dcE pmE anE cdE ctE),slE⟩) (cE:PySem.W.codeIn K cdE "_law_names" = true) (kE:PySem.W.keepIn K (.ref fE)=true)
 (aU:PySem.W.nsIn K mainGlobals "_law_numbers" = some (some (.ref fU))) (lU:K.lookup fU=some ⟨ocU,odU,.func (PySem.W.fnOf "_law_numbers" "_law_numbers" (aw bP) (aq bP) (ae bP) .none kVU dcU pmU anU cdU ctU),slU⟩) (cU:PySem.W.codeIn K cdU "_law_numbers" = true) (kU:PySem.W.keepIn K (.ref fU)=true)
 (aT:PySem.W.nsIn K mainGlobals "_law_tree" = some (some (.ref fT))) (lT:K.lookup fT=some ⟨ocT,odT,.func (PySem.W.fnOf "_law_tree" "_law_tree" (aw gf) (aq gf) (ae gf) .none kVT dcT pmT anT cdT ctT),slT⟩) (cT:PySem.W.codeIn K cdT "_law_tree" = true) (kT:PySem.W.keepIn K (.ref fT)=true)
 (aFA:PySem.W.nsIn K mainGlobals "_law_fars" = some (some (.ref fFA))) (lFA:K.lookup fFA=some ⟨ocFA,odFA,.func (PySem.W.fnOf "_law_fars" "_law_fars" (aw dh) (aq dh) (ae dh) .none kVFA dcFA pmFA anFA cdFA ctFA),slFA⟩) (cFA:PySem.W.codeIn K cdFA "_law_fars" = true) (kFA:PySem.W.keepIn K (.ref fFA)=true)
 (aPL:PySem.W.nsIn K mainGlobals "_law_places" = some (some (.ref fPL))) (lPL:K.lookup fPL=some ⟨ocPL,odPL,.func (PySem.W.fnOf "_law_places" "_law_places" (aw cu) (aq cu) (ae cu) .none kVPL dcPL pmPL anPL cdPL ctPL),slPL⟩) (cPL:PySem.W.codeIn K cdPL "_law_places" = true) (kPL:PySem.W.keepIn K (.ref fPL)=true)
 (aCO:PySem.W.nsIn K mainGlobals "_law_copy" = some (some (.ref fCO))) (lCO:K.lookup fCO=some ⟨ocCO,odCO,.func (PySem.W.fnOf "_law_copy" "_law_copy" (aw fm) (aq fm) (ae fm) .none kVCO dcCO pmCO anCO cdCO ctCO),slCO⟩) (cCO:PySem.W.codeIn K cdCO "_law_copy" = true) (kCO:PySem.W.keepIn K (.ref fCO)=true)
 (aON:PySem.W.nsIn K mainGlobals "_law_on" = some (some (.ref fON))) (lON:K.lookup fON=some ⟨ocON,odON,.func (PySem.W.fnOf "_law_on" "_law_on" (aw sOn) (aq sOn) (ae sOn) .none kVON dcON pmON anON cdON ctON),slON⟩) (cON:PySem.W.codeIn K cdON "_law_on" = true) (kON:PySem.W.keepIn K (.ref fON)=true)
 (aSI:PySem.W.nsIn K mainGlobals "_law_side" = some (some (.ref fSI))) (lSI:K.lookup fSI=some ⟨ocSI,odSI,.func (PySem.W.fnOf "_law_side" "_law_side" (aw gg) (aq gg) (ae gg) .none kVSI dcSI pmSI anSI cdSI ctSI),slSI⟩) (cSI:PySem.W.codeIn K cdSI "_law_side" = true) (kSI:PySem.W.keepIn K (.ref fSI)=true)
 (aLL:PySem.W.nsIn K mainGlobals "_law_length" = some (some (.ref fLL))) (lLL:K.lookup fLL=some ⟨ocLL,odLL,.func (PySem.W.fnOf "_law_length" "_law_length" (aw d7) (aq d7) (ae d7) .none kVLL dcLL pmLL anLL cdLL ctLL),slLL⟩) (cLL:PySem.W.codeIn K cdLL "_law_length" = true) (kLL:PySem.W.keepIn K (.ref fLL)=true)
 (aLN:PySem.W.nsIn K mainGlobals "_law_needed" = some (some (.ref fLN))) (lLN:K.lookup fLN=some ⟨ocLN,odLN,.func (PySem.W.fnOf "_law_needed" "_law_needed" (aw cw) (aq cw) (ae cw) .none kVLN dcLN pmLN anLN cdLN ctLN),slLN⟩) (cLN:PySem.W.codeIn K cdLN "_law_needed" = true) (kLN:PySem.W.keepIn K (.ref fLN)=true)
 (aX:PySem.W.nsIn K mainGlobals "law" = some (some (.ref fX))) (lX:K.lookup fX=some ⟨ocX,odX,.func (PySem.W.fnOf "law" "law" (aw sLaw) (aq sLaw) (ae sLaw) .none kVX dcX pmX anX cdX ctX),slX⟩) (cX:PySem.W.codeIn K cdX "law" = true) (kX:PySem.W.keepIn K (.ref fX)=true)
 (tbs:io K (["line_from"]:List Str)=true)
 (zisinstance:PySem.W.nsIn K mainGlobals "isinstance" = some none)
 (zint:PySem.W.nsIn K mainGlobals "int" = some none)
 (zbool:PySem.W.nsIn K mainGlobals "bool" = some none)
 (zlist:PySem.W.nsIn K mainGlobals "list" = some none)
 (zlen:PySem.W.nsIn K mainGlobals "len" = some none)
 (zall:PySem.W.nsIn K mainGlobals "all" = some none)
 (zsum:PySem.W.nsIn K mainGlobals "sum" = some none)
 (zrange:PySem.W.nsIn K mainGlobals "range" = some none)
 (zmax:PySem.W.nsIn K mainGlobals "max" = some none)
 (zmin:PySem.W.nsIn K mainGlobals "min" = some none)
 (zset:PySem.W.nsIn K mainGlobals "set" = some none)
 (zsorted:PySem.W.nsIn K mainGlobals "sorted" = some none)
 (zzip:PySem.W.nsIn K mainGlobals "zip" = some none)
 (zany:PySem.W.nsIn K mainGlobals "any" = some none)
 (zdict:PySem.W.nsIn K mainGlobals "dict" = some none)
 (zreversed:PySem.W.nsIn K mainGlobals "reversed" = some none)
 (ztuple:PySem.W.nsIn K mainGlobals "tuple" = some none)
 {tm:Tok} (zM:PySem.W.nsIn K mainGlobals "MOST_PLACES" = some (some (.int 12 tm)))
 (ii:PySem.W.kitOne K (.type "int") (.type "int")=some true) (ib:PySem.W.kitOne K (.type "int") (.type "bool")=some false) (ll:PySem.W.kitOne K (.type "list") (.type "list")=some true) (bb:PySem.W.kitOne K (.type "bool") (.type "bool")=some true) (tt:PySem.W.kitOne K (.type "tuple") (.type "tuple")=some true) :
 ∃fd:FuncData,(∀(s:Shared) (v:Value),BindsTo s fd ⟨[v],[]⟩ [("_law_script",v)])/\∀base:Heap,K.In base->base.Ns mainGlobals mg->FnOk l.prog w K mg base CX0 8 fa fd ["_law_script"] (spLawT (["line_from"]:List Str) K):=by
 have e:=hfa.symm.trans (PySem.W.mg_of X G aX);cases e;have B:Bi K mg:=⟨PySem.W.mg_none_of X G zisinstance,PySem.W.mg_none_of X G zint,PySem.W.mg_none_of X G zbool,PySem.W.mg_none_of X G zlist,PySem.W.mg_none_of X G zlen,PySem.W.mg_none_of X G zall,PySem.W.mg_none_of X G zsum,PySem.W.mg_none_of X G zrange,PySem.W.mg_none_of X G zmax,PySem.W.mg_none_of X G zmin,PySem.W.mg_none_of X G zset,PySem.W.mg_none_of X G zsorted,PySem.W.mg_none_of X G zzip,PySem.W.mg_none_of X G zany,PySem.W.mg_none_of X G zdict,PySem.W.mg_none_of X G zreversed,PySem.W.mg_none_of X G ztuple,ii,ib,ll,bb,tt⟩;have hM:=PySem.W.mg_of X G zM;have FW:=aO (st:=ci) (ps:=["value"]) X G aW lW cW kW fun _ _ _ _ _ _ us hl=>match us,hl with | [_],_=>rfl
 have FP:=aO (st:=cH) (ps:=["many", "value"]) X G aP lP cP kP fun _ _ _ _ _ _ us hl=>match us,hl with | [_,_],_=>rfl
 have FAP:=aO (st:=bB) (ps:=["many", "some"]) X G aAP lAP cAP kAP fun _ _ _ _ _ _ us hl=>match us,hl with | [_,_],_=>rfl
 have FRD:=aO (st:=gh) (ps:=["many", "row"]) X G aRD lRD cRD kRD fun _ _ _ _ _ _ us hl=>match us,hl with | [_,_],_=>rfl
 have FI:=aO (st:=cx) (ps:=["many", "roads"]) X G aI lI cI kI fun _ _ _ _ _ _ us hl=>match us,hl with | [_,_],_=>rfl
 have FC:=aO (st:=di) (ps:=["many", "roads"]) X G aC lC cC kC fun _ _ _ _ _ _ us hl=>match us,hl with | [_,_],_=>rfl
 have FCP:=aO (st:=cy) (ps:=["many", "some"]) X G aCP lCP cCP kCP fun _ _ _ _ _ _ us hl=>match us,hl with | [_,_],_=>rfl
 have FN:=aO (st:=dP) (ps:=["many", "roads"]) X G aN lN cN kN fun _ _ _ _ _ _ us hl=>match us,hl with | [_,_],_=>rfl
 have FS:=aO (st:=d5) (ps:=["near", "goal"]) X G aS lS cS kS fun _ _ _ _ _ _ us hl=>match us,hl with | [_,_],_=>rfl
 have FFF:=aO (st:=fj) (ps:=["near", "start"]) X G aFF lFF cFF kFF fun _ _ _ _ _ _ us hl=>match us,hl with | [_,_],_=>rfl
 have FWB:=aO (st:=gc) (ps:=["near", "a", "b"]) X G aWB lWB cWB kWB fun _ _ _ _ _ _ us hl=>match us,hl with | [_,_,_],_=>rfl
 have FLF:=aO (st:=bz) (ps:=["near", "start", "some"]) X G aLF lLF cLF kLF fun _ _ _ _ _ _ us hl=>match us,hl with | [_,_,_],_=>rfl
 have FLB:=aO (st:=d6) (ps:=["many", "roads", "start", "some"]) X G aLB lLB cLB kLB fun _ _ _ _ _ _ us hl=>match us,hl with | [_,_,_,_],_=>rfl
 have FLO:=aO (st:=bT) (ps:=["many", "roads", "places"]) X G aLO lLO cLO kLO fun _ _ _ _ _ _ us hl=>match us,hl with | [_,_,_],_=>rfl
 have FY:=aO (st:=d8) (ps:=["_law_found"]) X G aY lY cY kY fun _ _ _ _ _ _ us hl=>match us,hl with | [_],_=>rfl
 have FA:=aO (st:=fo) (ps:=["_law_script", "_law_k"]) X G aA lA cA kA fun _ _ _ _ _ _ us hl=>match us,hl with | [_,_],_=>rfl
 have FM:=aO (st:=dW) (ps:=["_law_cell", "_law_k"]) X G aM lM cM kM fun _ _ _ _ _ _ us hl=>match us,hl with | [_,_],_=>rfl
 have FE:=aO (st:=dU) (ps:=["_law_cell", "_law_many"]) X G aE lE cE kE fun _ _ _ _ _ _ us hl=>match us,hl with | [_,_],_=>rfl
 have FU:=aO (st:=bP) (ps:=["_law_script"]) X G aU lU cU kU fun _ _ _ _ _ _ us hl=>match us,hl with | [_],_=>rfl
 have FT:=aO (st:=gf) (ps:=["_law_script"]) X G aT lT cT kT fun _ _ _ _ _ _ us hl=>match us,hl with | [_],_=>rfl
 have FFA:=aO (st:=dh) (ps:=["_law_many", "_law_roads"]) X G aFA lFA cFA kFA fun _ _ _ _ _ _ us hl=>match us,hl with | [_,_],_=>rfl
 have FPL:=aO (st:=cu) (ps:=["_law_many", "_law_numbers_here"]) X G aPL lPL cPL kPL fun _ _ _ _ _ _ us hl=>match us,hl with | [_,_],_=>rfl
 have FCO:=aO (st:=fm) (ps:=["_law_rows"]) X G aCO lCO cCO kCO fun _ _ _ _ _ _ us hl=>match us,hl with | [_],_=>rfl
 have FON:=aO (st:=sOn) (ps:=["_law_roads", "_law_a", "_law_b"]) X G aON lON cON kON fun _ _ _ _ _ _ us hl=>match us,hl with | [_,_,_],_=>rfl
 have FSI:=aO (st:=gg) (ps:=["_law_roads", "_law_start", "_law_other"]) X G aSI lSI cSI kSI fun _ _ _ _ _ _ us hl=>match us,hl with | [_,_,_],_=>rfl
 have FLL:=aO (st:=d7) (ps:=["_law_roads", "_law_found"]) X G aLL lLL cLL kLL fun _ _ _ _ _ _ us hl=>match us,hl with | [_,_],_=>rfl
 have FLN:=aO (st:=cw) (ps:=["_law_roads", "_law_some"]) X G aLN lLN cLN kLN fun _ _ _ _ _ _ us hl=>match us,hl with | [_,_],_=>rfl
 have FX:=aO (st:=sLaw) (ps:=["_law_script"]) X G aX lX cX kX fun _ _ _ _ _ _ us hl=>match us,hl with | [_],_=>rfl
 obtain⟨tcLF,tTLF,tbLF⟩:=tabs_some tbs (show("line_from" : Str)∈(["line_from"]:List Str) by simp)
 have TBLF:=tab_mk X (hCd "line_from" (by simp) _ _ tbLF) aLF lLF tbLF
 refine⟨PySem.W.fnOf "law" "law" (aw sLaw) (aq sLaw) (ae sLaw) .none kVX dcX pmX anX cdX ctX,fun s v=>.of_eq rfl,fun base _ _=>?_⟩;have GI:FnOk l.prog w K mg base CX0 4 fI _ ["many", "roads"] g9:=ok_istree FI FW FP FRD FN FS B hM;have GC:FnOk l.prog w K mg base CX0 5 fC _ ["many", "roads"] fO:=ok_check FC FI GI;have GCP:FnOk l.prog w K mg base CX0 4 fCP _ ["many", "some"] eh:=ok_checkp FCP FAP FP FW B;have GFF:FnOk l.prog w K mg base CX0 2 fFF _ ["near", "start"] jD:=ok_fars FFF FS B;have GWB:FnOk l.prog w K mg base CX0 2 fWB _ ["near", "a", "b"] jB:=ok_wayb FWB FS B;have GLF:FnOk l.prog w K mg base CX0 4 fLF _ ["near", "start", "some"] (jC tTLF (lamQ "line_from")):=ok_line FLF FFF FWB GFF GWB TBLF B;have GLO:FnOk l.prog w K mg base CX0 6 fLO _ ["many", "roads", "places"] ir:=ok_lenof FLO FC FCP FN GC GCP B;have GLB:FnOk l.prog w K mg base CX0 6 fLB _ ["many", "roads", "start", "some"] (g8 tTLF (lamQ "line_from")):=ok_lineby FLB FC FCP FN FLF GC GCP GLF B;exact ok_law FX FT FPL FFA FCO FLB FLN FLL FLO FY (ok_tree FT FU FA FE (ok_numbers FU FM FA B) B) (ok_places FPL B) GLB (ok_lneed FLN FSI B) (ok_llen FLL FON B) GLO tbLF B
end Tw
open PySem PySem.W PyProof.Rows
set_option maxRecDepth 100000 in
set_option maxHeartbeats 0 in
theorem PySem.Challenge.cw_treewells_k74_whole_lines_holds : PySem.Challenge.rw_treewells_k74_whole_lines.Holds := by
 w_on;o_law
 refine PySem.W.holds_open (q:=KH.kView) (loose:=[]) (N:=3538)
  (XP:=PySem.W.XL KH.kView []) (Xt:=(fun s=>PySem.W.xlAt KH.kView [] s &&
  PySem.W.recOk (PySem.W.RowW.records (PySem.W.OpenRow.toRowW PySem.Challenge.rw_treewells_k74_whole_lines.row)) s))
  (Yf:=(PySem.W.kHook KH.kHeap KH.kAddrs KH.kAddrs_eq).obs) (Ya:=(PySem.W.kHook KH.kHeap KH.kAddrs KH.kAddrs_eq).val) (YP:=(PySem.W.kHook KH.kHeap KH.kAddrs KH.kAddrs_eq).says)
  KH.kLeft (PySem.W.Hook.of _) (PySem.W.Hook.keeps _)
  (fun s e=>PySem.W.xl_of s (Bool.and_eq_true_iff.mp e).1)
  PySem.W.XL.keeps (by rfl) (by rfl) (by rfl)
  (fun s e=>PySem.W.recFacts_of (Bool.and_eq_true_iff.mp e).2)
  (by rfl) (by first | assumption | decide +kernel)
  (by decide +kernel) ⟨rfl,rfl,rfl,rfl,rfl,by decide +kernel⟩ ?hw ?hc
 (case hw=>w_witness2)
 k_fill
 refine L2.walk_bitsT (l:=PySem.Challenge.rw_treewells_k74_whole_lines) (n:=63) (k:=8) (x:="_law_script") (names:=(["line_from"]:List Str)) (sp:=Tw.spLawT (["line_from"]:List Str)) rfl (by decide) rfl ⟨rfl,by decide,by decide⟩ (fun w h Y=>PySem.W.kIn_of Y) ?T ?R ?F ?S
 case S=>exact fun K H a ns hl hb tb hS=>⟨a,ns,rfl,hS,hb,hl,tb,fun _=>rfl⟩
 case T=>intro w;first | kernel_rfl | rfl | decide +kernel
 case R=>exact fun n hn=>by(simp only[List.mem_cons,List.not_mem_nil,or_false]at hn;first | (subst hn;first | kernel_rfl | rfl) | (rcases hn with rfl<;>first | kernel_rfl | rfl))
 case F =>
  intro w mg fa h KX G hCd hmg;refine' Tw.all_mk KX G hmg hCd ?aW ?lW ?cW ?kW ?aP ?lP ?cP ?kP ?aAP ?lAP ?cAP ?kAP ?aRD ?lRD ?cRD ?kRD ?aI ?lI ?cI ?kI ?aC ?lC ?cC ?kC ?aCP ?lCP ?cCP ?kCP ?aN ?lN ?cN ?kN ?aS ?lS ?cS ?kS ?aFF ?lFF ?cFF ?kFF ?aWB ?lWB ?cWB ?kWB ?aLF ?lLF ?cLF ?kLF ?aLB ?lLB ?cLB ?kLB ?aLO ?lLO ?cLO ?kLO ?aY ?lY ?cY ?kY ?aA ?lA ?cA ?kA ?aM ?lM ?cM ?kM ?aE ?lE ?cE ?kE ?aU ?lU ?cU ?kU ?aT ?lT ?cT ?kT ?aFA ?lFA ?cFA ?kFA ?aPL ?lPL ?cPL ?kPL ?aCO ?lCO ?cCO ?kCO ?aON ?lON ?cON ?kON ?aSI ?lSI ?cSI ?kSI ?aLL ?lLL ?cLL ?kLL ?aLN ?lLN ?cLN ?kLN ?aX ?lX ?cX ?kX ?tbs ?zisinstance ?zint ?zbool ?zlist ?zlen ?zall ?zsum ?zrange ?zmax ?zmin ?zset ?zsorted ?zzip ?zany ?zdict ?zreversed ?ztuple ?zM ?ii ?ib ?ll ?bb ?tt
  (case aW=>k_is)
  (case lW=>k_is)
  (case cW=>k_is)
  (case kW=>k_is)
  (case aP=>k_is)
  (case lP=>k_is)
  (case cP=>k_is)
  (case kP=>k_is)
  (case aAP=>k_is)
  (case lAP=>k_is)
  (case cAP=>k_is)
  (case kAP=>k_is)
  (case aRD=>k_is)
  (case lRD=>k_is)
  (case cRD=>k_is)
  (case kRD=>k_is)
  (case aI=>k_is)
  (case lI=>k_is)
  (case cI=>k_is)
  (case kI=>k_is)
  (case aC=>k_is)
  (case lC=>k_is)
  (case cC=>k_is)
  (case kC=>k_is)
  (case aCP=>k_is)
  (case lCP=>k_is)
  (case cCP=>k_is)
  (case kCP=>k_is)
  (case aN=>k_is)
  (case lN=>k_is)
  (case cN=>k_is)
  (case kN=>k_is)
  (case aS=>k_is)
  (case lS=>k_is)
  (case cS=>k_is)
  (case kS=>k_is)
  (case aFF=>k_is)
  (case lFF=>k_is)
  (case cFF=>k_is)
  (case kFF=>k_is)
  (case aWB=>k_is)
  (case lWB=>k_is)
  (case cWB=>k_is)
  (case kWB=>k_is)
  (case aLF=>k_is)
  (case lLF=>k_is)
  (case cLF=>k_is)
  (case kLF=>k_is)
  (case aLB=>k_is)
  (case lLB=>k_is)
  (case cLB=>k_is)
  (case kLB=>k_is)
  (case aLO=>k_is)
  (case lLO=>k_is)
  (case cLO=>k_is)
  (case kLO=>k_is)
  (case aY=>k_is)
  (case lY=>k_is)
  (case cY=>k_is)
  (case kY=>k_is)
  (case aA=>k_is)
  (case lA=>k_is)
  (case cA=>k_is)
  (case kA=>k_is)
  (case aM=>k_is)
  (case lM=>k_is)
  (case cM=>k_is)
  (case kM=>k_is)
  (case aE=>k_is)
  (case lE=>k_is)
  (case cE=>k_is)
  (case kE=>k_is)
  (case aU=>k_is)
  (case lU=>k_is)
  (case cU=>k_is)
  (case kU=>k_is)
  (case aT=>k_is)
  (case lT=>k_is)
  (case cT=>k_is)
  (case kT=>k_is)
  (case aFA=>k_is)
  (case lFA=>k_is)
  (case cFA=>k_is)
  (case kFA=>k_is)
  (case aPL=>k_is)
  (case lPL=>k_is)
  (case cPL=>k_is)
  (case kPL=>k_is)
  (case aCO=>k_is)
  (case lCO=>k_is)
  (case cCO=>k_is)
  (case kCO=>k_is)
  (case aON=>k_is)
  (case lON=>k_is)
  (case cON=>k_is)
  (case kON=>k_is)
  (case aSI=>k_is)
  (case lSI=>k_is)
  (case cSI=>k_is)
  (case kSI=>k_is)
  (case aLL=>k_is)
  (case lLL=>k_is)
  (case cLL=>k_is)
  (case kLL=>k_is)
  (case aLN=>k_is)
  (case lLN=>k_is)
  (case cLN=>k_is)
  (case kLN=>k_is)
  (case aX=>k_is)
  (case lX=>k_is)
  (case cX=>k_is)
  (case kX=>k_is)
  (case tbs=>first | kernel_rfl | rfl | decide +kernel)
  (case zisinstance=>k_is)
  (case zint=>k_is)
  (case zbool=>k_is)
  (case zlist=>k_is)
  (case zlen=>k_is)
  (case zall=>k_is)
  (case zsum=>k_is)
  (case zrange=>k_is)
  (case zmax=>k_is)
  (case zmin=>k_is)
  (case zset=>k_is)
  (case zsorted=>k_is)
  (case zzip=>k_is)
  (case zany=>k_is)
  (case zdict=>k_is)
  (case zreversed=>k_is)
  (case ztuple=>k_is)
  (case zM=>k_is)
  (case ii=>first | k_is | kernel_rfl | rfl | decide +kernel)
  (case ib=>first | k_is | kernel_rfl | rfl | decide +kernel)
  (case ll=>first | k_is | kernel_rfl | rfl | decide +kernel)
  (case bb=>first | k_is | kernel_rfl | rfl | decide +kernel)
  (case tt=>first | k_is | kernel_rfl | rfl | decide +kernel)
