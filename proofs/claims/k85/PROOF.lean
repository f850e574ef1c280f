import PyProof.Rows.All
import Wide.All
import OpenK.AllK
import Wide.FinOn
import Lean
import PyProof.EqAt
import PyProof.EqKinds
import PyProof.TupleCall
import PySem.Challenge.RW_treewells_k85_trees_as_texts
set_option Elab.async false
set_option linter.all false
set_option maxRecDepth 100000
set_option maxHeartbeats 4000000
namespace KH
open PySem PySem.W
def topRunT (tb : String->Option Builtin) (p : Program) (w : World) (n₀ : Nat) (ann : Option Value) : Nat->SharedT->Thread->Option SharedT
  | 0, _, _ => none
  | n + 1, s, t => match through t with
    | true => some s
    | false => match stepOk n₀ ann t with
      | false => none
      | true => match stepT (denote tb) p w s t with
        | some (s', t') => topRunT tb p w n₀ ann n s' t'
        | none => none
theorem topRun_of {tb : String->Option Builtin} {p : Program} {w : World} {n₀ : Nat} {ann : Option Value} : ∀ {n : Nat} {s s' : SharedT} {t : Thread}, topRunT tb p w n₀ ann n s t = some s'->topRun tb p w n₀ ann n s.abs t = some s'.abs
  | 0, _, _, _, h => by cases h
  | n + 1, s, s', t, h => by
    unfold topRunT at h
    unfold topRun
    cases he : through t with
    | true => rw [he] at h; cases h; rfl
    | false =>
      rw [he] at h
      cases hk : stepOk n₀ ann t with
      | false => rw [hk] at h; cases h
      | true =>
        rw [hk] at h
        cases hs : stepT (denote tb) p w s t with
        | none => rw [hs] at h; cases h
        | some r => obtain ⟨s₂, t₂⟩ := r; rw [hs] at h; dsimp only; rw [stepT_spec hs]; exact topRun_of h
def insAll : List Obj->Nat->BT->Option BT
  | [], _, t => some t
  | o :: l, n, t => match ((t.ins n o).get n).isSome with
    | true => insAll l (n + 1) (t.ins n o)
    | false => none
theorem insAll_of {life : Life} : ∀ {l : List Obj} {n : Nat} {t t' : BT}, insAll l n t = some t'->absHeap t' (n + l.length) life = ⟨(absHeap t n life).objs ++ l.toArray, life⟩
  | [], n, t, t', h => by cases h; simp [absHeap]
  | o :: l, n, t, t', h => by
    unfold insAll at h
    cases e : ((t.ins n o).get n).isSome with
    | false => rw [e] at h; cases h
    | true =>
      rw [e] at h
      have := insAll_of (life := life) h
      rw [absHeap_ins e] at this
      rw [List.length_cons, show n + (l.length + 1) = n + 1 + l.length by omega, this]
      simp [Heap.push]
def Look (p : Program) (N : Nat) (H₀ : Params->Heap) (gs₀ : Array GenState) (d₀ : Drawn) (k₀ m₀ : Nat) (ann : Option Value) (life : Life) {α : Type} (g : World->Shared->α) (v : World->α) : Prop :=
  ∀ (w : World) (os : OsState), ((insAll (H₀ w.params).objs.toList 0 .nil).bind fun t => (topRunT treeTable p w m₀ ann N ⟨t, m₀, life, gs₀, d₀, k₀, os⟩ (topStub p)).map fun s => g w s.abs) = some (v w)
theorem left_of {p q : Program} {loose : List Str} {Xt : Shared->Bool} {α : Type} {Yf : Shared->α} {Ya : World->α} {N : Nat} {H₀ : Params->Heap} {gs₀ : Array GenState} {d₀ : Drawn} {k₀ m₀ : Nat} {ann : Option Value} {life : Life} (open_ : ∀ w : World, (fencedOpening treeTable p w N).map (fun s => (s.heap, s.gens, s.drawn, s.toks)) = some (H₀ w.params, gs₀, d₀, k₀)) (size : ∀ w : World, ((H₀ w.params).isNs mainGlobals && gs₀.size == 0, (H₀ w.params).objs.size, (H₀ w.params).nsMap mainGlobals "__annotations__", (H₀ w.params).life) = (true, m₀, ann, life)) (ha : Look p N H₀ gs₀ d₀ k₀ m₀ ann life (fun w s => staticsOk (importedModules p.main.body) (H₀ w.params) s.heap && namesBound p s.heap && gensDone s && laidKept (H₀ w.params) s.heap) (fun _ => true)) (hb : Look p N H₀ gs₀ d₀ k₀ m₀ ann life (fun _ s => openSeen q loose (importedModules p.main.body) Xt true s) (fun _ => openGood q loose)) (hc : Look p N H₀ gs₀ d₀ k₀ m₀ ann life (fun _ s => Yf s) Ya) : LeftO p q loose Xt Yf Ya N := fun w => by
  obtain ⟨⟨hp, gs, d, k, os⟩, e, e'⟩ := Option.map_eq_some_iff.mp (open_ w)
  obtain ⟨rfl, rfl, rfl, rfl⟩ : hp = H₀ w.params/\gs = gs₀/\d = d₀/\k = k₀ := by simpa using e'
  obtain ⟨z1, z2, z3, z4⟩ : _/\_/\_/\_ := by simpa only [Prod.mk.injEq] using size w
  obtain ⟨t, ht, h'⟩ := Option.bind_eq_some_iff.mp (ha w os)
  obtain ⟨s, hs, l1⟩ := Option.map_eq_some_iff.mp h'
  change (staticsOk (importedModules p.main.body) (H₀ w.params) s.abs.heap && namesBound p s.abs.heap && gensDone s.abs && laidKept (H₀ w.params) s.abs.heap) = true at l1
  have l2 : openSeen q loose (importedModules p.main.body) Xt true s.abs = openGood q loose := by
    obtain ⟨t', ht', h''⟩ := Option.bind_eq_some_iff.mp (hb w os)
    obtain ⟨s', hs', l⟩ := Option.map_eq_some_iff.mp h''
    rw [ht] at ht'; cases ht'
    rw [hs] at hs'; cases hs'
    exact l
  have l3 : Yf s.abs = Ya w := by
    obtain ⟨t', ht', h''⟩ := Option.bind_eq_some_iff.mp (hc w os)
    obtain ⟨s', hs', l⟩ := Option.map_eq_some_iff.mp h''
    rw [ht] at ht'; cases ht'
    rw [hs] at hs'; cases hs'
    exact l
  have ab : (⟨t, m₀, life, gs, d, k, os⟩ : SharedT).abs = ⟨H₀ w.params, gs, d, k, os⟩ := by
    have := insAll_of (life := life) ht
    rw [Nat.zero_add, Array.length_toList, z2] at this
    show Shared.mk (absHeap t m₀ life) gs d k os = _
    rw [this, ← z4]
    have e0 : (absHeap BT.nil 0 (H₀ w.params).life).objs = #[] := by simp [absHeap, BT.list]
    rw [e0]
    simp
  have r := topRun_of hs
  rw [ab] at r
  have T : topFrom treeTable p w N ⟨H₀ w.params, gs, d, k, os⟩ = some s.abs := by
    unfold topFrom
    dsimp only
    rw [z1, z2, z3, r]
    show (match staticsOk (importedModules p.main.body) (H₀ w.params) s.abs.heap && namesBound p s.abs.heap && gensDone s.abs && laidKept (H₀ w.params) s.abs.heap with | true => _ | false => _) = _
    rw [l1]
  unfold openEnds
  rw [e]
  show (topFrom treeTable p w N _).map _ = _
  rw [T]
  exact congrArg some (Prod.ext l2 l3)
end KH
namespace KH
open PySem PySem.W
def top (i : Nat) : Stmt := PySem.Challenge.pw_treewells_k85_trees_as_texts.main.body.getD i (.Pass ⟨0, 0, 0, 0⟩)
def kA (s : Stmt) : Arguments := match s with
  | .FunctionDef _ x _ _ _ _ _ _ _ _ => x
  | _ => ⟨[], [], none, [], [], none, []⟩
def kB (s : Stmt) : List Stmt := match s with
  | .FunctionDef _ _ x _ _ _ _ _ _ _ => x
  | _ => []
def kS (s : Stmt) : Scope := match s with
  | .FunctionDef _ _ _ _ _ _ x _ _ _ => x
  | _ => { kind := .function, names := [], isGenerator := false, isCoroutine := false }
def kHeap : Params->PySem.W.Frag := fun P =>
(nat_lit 2, .mk .none none (.dict #[]) #[]) ::
(nat_lit 3, .mk (.type "dict") none (.dict #[.mk (PyData.keyHash P "__name__") (.str "__name__" 165) (.str "law_treewells_k85_trees_as_texts" 541), .mk (PyData.keyHash P "__doc__") (.str "__doc__" 166) .none, .mk (PyData.keyHash P "__package__") (.str "__package__" 167) .none, .mk (PyData.keyHash P "__loader__") (.str "__loader__" 168) (.builtin "__main__.__loader__#opaque"), .mk (PyData.keyHash P "__spec__") (.str "__spec__" 169) .none, .mk (PyData.keyHash P "__annotations__") (.str "__annotations__" 170) (.ref 6), .mk (PyData.keyHash P "__builtins__") (.str "__builtins__" 171) (.ref 4), .mk (PyData.keyHash P "__file__") (.str "__file__" 173) (.str "/claim/cut.py" 172), .mk (PyData.keyHash P "__cached__") (.str "__cached__" 174) .none, .mk (PyData.keyHash P "TreeError") (.str "TreeError" 206) (.ref 24), .mk (PyData.keyHash P "NoTree") (.str "NoTree" 222) (.ref 37), .mk (PyData.keyHash P "NoPlace") (.str "NoPlace" 238) (.ref 49), .mk (PyData.keyHash P "NoRoad") (.str "NoRoad" 254) (.ref 61), .mk (PyData.keyHash P "NoSpot") (.str "NoSpot" 270) (.ref 73), .mk (PyData.keyHash P "NoSite") (.str "NoSite" 286) (.ref 85), .mk (PyData.keyHash P "NoYard") (.str "NoYard" 302) (.ref 97),
.mk (PyData.keyHash P "NoWorth") (.str "NoWorth" 318) (.ref 109), .mk (PyData.keyHash P "NoGift") (.str "NoGift" 334) (.ref 121), .mk (PyData.keyHash P "NoText") (.str "NoText" 350) (.ref 133), .mk (PyData.keyHash P "NoKind") (.str "NoKind" 366) (.ref 145), .mk (PyData.keyHash P "NoQuestion") (.str "NoQuestion" 382) (.ref 157), .mk (PyData.keyHash P "NoRow") (.str "NoRow" 398) (.ref 169), .mk (PyData.keyHash P "NoName") (.str "NoName" 414) (.ref 181), .mk (PyData.keyHash P "MOST_PLACES") (.str "MOST_PLACES" 418) (.int 12 417), .mk (PyData.keyHash P "is_whole") (.str "is_whole" 425) (.ref 190), .mk (PyData.keyHash P "is_place") (.str "is_place" 433) (.ref 197), .mk (PyData.keyHash P "is_road") (.str "is_road" 441) (.ref 204), .mk (PyData.keyHash P "is_tree") (.str "is_tree" 447) (.ref 209), .mk (PyData.keyHash P "check_tree") (.str "check_tree" 455) (.ref 216), .mk (PyData.keyHash P "neighbours") (.str "neighbours" 461) (.ref 221), .mk (PyData.keyHash P "steps_to") (.str "steps_to" 474) (.ref 228), .mk (PyData.keyHash P "FIGURES") (.str "FIGURES" 478) (.str "0123456789" 477), .mk (PyData.keyHash P "MOST_FIGURES") (.str "MOST_FIGURES" 480) (.int 60 479),
.mk (PyData.keyHash P "are_figures") (.str "are_figures" 486) (.ref 233), .mk (PyData.keyHash P "is_number") (.str "is_number" 493) (.ref 240), .mk (PyData.keyHash P "read_number") (.str "read_number" 500) (.ref 247), .mk (PyData.keyHash P "read_row") (.str "read_row" 506) (.ref 252), .mk (PyData.keyHash P "read_rows") (.str "read_rows" 512) (.ref 257), .mk (PyData.keyHash P "shown_row") (.str "shown_row" 518) (.ref 262), .mk (PyData.keyHash P "shown_rows") (.str "shown_rows" 524) (.ref 267), .mk (PyData.keyHash P "read_tree") (.str "read_tree" 532) (.ref 274), .mk (PyData.keyHash P "shown_tree") (.str "shown_tree" 540) (.ref 281), .mk (PyData.keyHash P "_law_mix") (.str "_law_mix" 551) (.ref 288), .mk (PyData.keyHash P "_law_whole") (.str "_law_whole" 558) (.ref 295), .mk (PyData.keyHash P "_law_cell_at") (.str "_law_cell_at" 566) (.ref 302), .mk (PyData.keyHash P "_law_older") (.str "_law_older" 575) (.ref 309), .mk (PyData.keyHash P "_law_size") (.str "_law_size" 585) (.ref 316), .mk (PyData.keyHash P "_law_hung") (.str "_law_hung" 591) (.ref 321), .mk (PyData.keyHash P "_law_tree") (.str "_law_tree" 607) (.ref 328), .mk (PyData.keyHash P "_law_fars") (.str "_law_fars" 613) (.ref 333),
.mk (PyData.keyHash P "_law_shown") (.str "_law_shown" 619) (.ref 338), .mk (PyData.keyHash P "_law_bent") (.str "_law_bent" 634) (.ref 345), .mk (PyData.keyHash P "_law_is_tree") (.str "_law_is_tree" 640) (.ref 350), .mk (PyData.keyHash P "_law_refused") (.str "_law_refused" 652) (.ref 357), .mk (PyData.keyHash P "law") (.str "law" 658) (.ref 362)] 55) #[]) ::
(nat_lit 15, .mk (.type "tuple") none (.seq #[.type "ValueError"]) #[]) ::
(nat_lit 22, .mk (.type "tuple") none (.seq #[]) #[]) ::
(nat_lit 23, .mk (.type "dict") none (.dict #[.mk (PyData.keyHash P "__module__") (.str "__module__" 196) (.str "treewells.errors" 187), .mk (PyData.keyHash P "__firstlineno__") (.str "__firstlineno__" 200) (.int 2 199), .mk (PyData.keyHash P "__static_attributes__") (.str "__static_attributes__" 201) (.ref 22), .mk (PyData.keyHash P "__weakref__") (.str "__weakref__" 203) (.ref 25), .mk (PyData.keyHash P "__doc__") (.str "__doc__" 204) .none] 3) #[]) ::
(nat_lit 24, .mk (.type "type") none (Data.cls (ClassData.mk "TreeError" [.type "ValueError"] [.ref 24, .type "ValueError", .type "Exception", .type "BaseException", .type "object"] 23 "TreeError" true [] [.ref 37, .ref 49, .ref 61, .ref 73, .ref 85, .ref 97, .ref 109, .ref 121, .ref 133, .ref 145, .ref 157, .ref 169, .ref 181] false none false)) #[some (.ref 15), none, some (.str "TreeError" 189), some (.str "TreeError" 197), some (.builtin "ValueError.__new__"), some (.bool true)]) ::
(nat_lit 25, .mk (.type "getset_descriptor") none (.fields #[.str "__weakref__" 202, .ref 24, .builtin "ExceptionGroup.__weakref__", .none]) #[]) ::
(nat_lit 28, .mk (.type "tuple") none (.seq #[.ref 24]) #[]) ::
(nat_lit 35, .mk (.type "tuple") none (.seq #[]) #[]) ::
(nat_lit 36, .mk (.type "dict") none (.dict #[.mk (PyData.keyHash P "__module__") (.str "__module__" 214) (.str "treewells.errors" 187), .mk (PyData.keyHash P "__firstlineno__") (.str "__firstlineno__" 218) (.int 4 217), .mk (PyData.keyHash P "__static_attributes__") (.str "__static_attributes__" 219) (.ref 35), .mk (PyData.keyHash P "__doc__") (.str "__doc__" 220) .none] 2) #[]) ::
(nat_lit 37, .mk (.type "type") none (Data.cls (ClassData.mk "NoTree" [.ref 24] [.ref 37, .ref 24, .type "ValueError", .type "Exception", .type "BaseException", .type "object"] 36 "NoTree" true [] [] false none false)) #[some (.ref 28), none, some (.str "NoTree" 207), some (.str "NoTree" 215), some (.builtin "ValueError.__new__"), some (.bool true)]) ::
(nat_lit 40, .mk (.type "tuple") none (.seq #[.ref 24]) #[]) ::
(nat_lit 47, .mk (.type "tuple") none (.seq #[]) #[]) ::
(nat_lit 48, .mk (.type "dict") none (.dict #[.mk (PyData.keyHash P "__module__") (.str "__module__" 230) (.str "treewells.errors" 187), .mk (PyData.keyHash P "__firstlineno__") (.str "__firstlineno__" 234) (.int 6 233), .mk (PyData.keyHash P "__static_attributes__") (.str "__static_attributes__" 235) (.ref 47), .mk (PyData.keyHash P "__doc__") (.str "__doc__" 236) .none] 2) #[]) ::
(nat_lit 49, .mk (.type "type") none (Data.cls (ClassData.mk "NoPlace" [.ref 24] [.ref 49, .ref 24, .type "ValueError", .type "Exception", .type "BaseException", .type "object"] 48 "NoPlace" true [] [] false none false)) #[some (.ref 40), none, some (.str "NoPlace" 223), some (.str "NoPlace" 231), some (.builtin "ValueError.__new__"), some (.bool true)]) ::
(nat_lit 52, .mk (.type "tuple") none (.seq #[.ref 24]) #[]) ::
(nat_lit 59, .mk (.type "tuple") none (.seq #[]) #[]) ::
(nat_lit 60, .mk (.type "dict") none (.dict #[.mk (PyData.keyHash P "__module__") (.str "__module__" 246) (.str "treewells.errors" 187), .mk (PyData.keyHash P "__firstlineno__") (.str "__firstlineno__" 250) (.int 8 249), .mk (PyData.keyHash P "__static_attributes__") (.str "__static_attributes__" 251) (.ref 59), .mk (PyData.keyHash P "__doc__") (.str "__doc__" 252) .none] 2) #[]) ::
(nat_lit 61, .mk (.type "type") none (Data.cls (ClassData.mk "NoRoad" [.ref 24] [.ref 61, .ref 24, .type "ValueError", .type "Exception", .type "BaseException", .type "object"] 60 "NoRoad" true [] [] false none false)) #[some (.ref 52), none, some (.str "NoRoad" 239), some (.str "NoRoad" 247), some (.builtin "ValueError.__new__"), some (.bool true)]) ::
(nat_lit 64, .mk (.type "tuple") none (.seq #[.ref 24]) #[]) ::
(nat_lit 71, .mk (.type "tuple") none (.seq #[]) #[]) ::
(nat_lit 72, .mk (.type "dict") none (.dict #[.mk (PyData.keyHash P "__module__") (.str "__module__" 262) (.str "treewells.errors" 187), .mk (PyData.keyHash P "__firstlineno__") (.str "__firstlineno__" 266) (.int 10 265), .mk (PyData.keyHash P "__static_attributes__") (.str "__static_attributes__" 267) (.ref 71), .mk (PyData.keyHash P "__doc__") (.str "__doc__" 268) .none] 2) #[]) ::
(nat_lit 73, .mk (.type "type") none (Data.cls (ClassData.mk "NoSpot" [.ref 24] [.ref 73, .ref 24, .type "ValueError", .type "Exception", .type "BaseException", .type "object"] 72 "NoSpot" true [] [] false none false)) #[some (.ref 64), none, some (.str "NoSpot" 255), some (.str "NoSpot" 263), some (.builtin "ValueError.__new__"), some (.bool true)]) ::
(nat_lit 76, .mk (.type "tuple") none (.seq #[.ref 24]) #[]) ::
(nat_lit 83, .mk (.type "tuple") none (.seq #[]) #[]) ::
(nat_lit 84, .mk (.type "dict") none (.dict #[.mk (PyData.keyHash P "__module__") (.str "__module__" 278) (.str "treewells.errors" 187), .mk (PyData.keyHash P "__firstlineno__") (.str "__firstlineno__" 282) (.int 12 281), .mk (PyData.keyHash P "__static_attributes__") (.str "__static_attributes__" 283) (.ref 83), .mk (PyData.keyHash P "__doc__") (.str "__doc__" 284) .none] 2) #[]) ::
(nat_lit 85, .mk (.type "type") none (Data.cls (ClassData.mk "NoSite" [.ref 24] [.ref 85, .ref 24, .type "ValueError", .type "Exception", .type "BaseException", .type "object"] 84 "NoSite" true [] [] false none false)) #[some (.ref 76), none, some (.str "NoSite" 271), some (.str "NoSite" 279), some (.builtin "ValueError.__new__"), some (.bool true)]) ::
(nat_lit 88, .mk (.type "tuple") none (.seq #[.ref 24]) #[]) ::
(nat_lit 95, .mk (.type "tuple") none (.seq #[]) #[]) ::
(nat_lit 96, .mk (.type "dict") none (.dict #[.mk (PyData.keyHash P "__module__") (.str "__module__" 294) (.str "treewells.errors" 187), .mk (PyData.keyHash P "__firstlineno__") (.str "__firstlineno__" 298) (.int 14 297), .mk (PyData.keyHash P "__static_attributes__") (.str "__static_attributes__" 299) (.ref 95), .mk (PyData.keyHash P "__doc__") (.str "__doc__" 300) .none] 2) #[]) ::
(nat_lit 97, .mk (.type "type") none (Data.cls (ClassData.mk "NoYard" [.ref 24] [.ref 97, .ref 24, .type "ValueError", .type "Exception", .type "BaseException", .type "object"] 96 "NoYard" true [] [] false none false)) #[some (.ref 88), none, some (.str "NoYard" 287), some (.str "NoYard" 295), some (.builtin "ValueError.__new__"), some (.bool true)]) ::
(nat_lit 100, .mk (.type "tuple") none (.seq #[.ref 24]) #[]) ::
(nat_lit 107, .mk (.type "tuple") none (.seq #[]) #[]) ::
(nat_lit 108, .mk (.type "dict") none (.dict #[.mk (PyData.keyHash P "__module__") (.str "__module__" 310) (.str "treewells.errors" 187), .mk (PyData.keyHash P "__firstlineno__") (.str "__firstlineno__" 314) (.int 16 313), .mk (PyData.keyHash P "__static_attributes__") (.str "__static_attributes__" 315) (.ref 107), .mk (PyData.keyHash P "__doc__") (.str "__doc__" 316) .none] 2) #[]) ::
(nat_lit 109, .mk (.type "type") none (Data.cls (ClassData.mk "NoWorth" [.ref 24] [.ref 109, .ref 24, .type "ValueError", .type "Exception", .type "BaseException", .type "object"] 108 "NoWorth" true [] [] false none false)) #[some (.ref 100), none, some (.str "NoWorth" 303), some (.str "NoWorth" 311), some (.builtin "ValueError.__new__"), some (.bool true)]) ::
(nat_lit 112, .mk (.type "tuple") none (.seq #[.ref 24]) #[]) ::
(nat_lit 119, .mk (.type "tuple") none (.seq #[]) #[]) ::
(nat_lit 120, .mk (.type "dict") none (.dict #[.mk (PyData.keyHash P "__module__") (.str "__module__" 326) (.str "treewells.errors" 187), .mk (PyData.keyHash P "__firstlineno__") (.str "__firstlineno__" 330) (.int 18 329), .mk (PyData.keyHash P "__static_attributes__") (.str "__static_attributes__" 331) (.ref 119), .mk (PyData.keyHash P "__doc__") (.str "__doc__" 332) .none] 2) #[]) ::
(nat_lit 121, .mk (.type "type") none (Data.cls (ClassData.mk "NoGift" [.ref 24] [.ref 121, .ref 24, .type "ValueError", .type "Exception", .type "BaseException", .type "object"] 120 "NoGift" true [] [] false none false)) #[some (.ref 112), none, some (.str "NoGift" 319), some (.str "NoGift" 327), some (.builtin "ValueError.__new__"), some (.bool true)]) ::
(nat_lit 124, .mk (.type "tuple") none (.seq #[.ref 24]) #[]) ::
(nat_lit 131, .mk (.type "tuple") none (.seq #[]) #[]) ::
(nat_lit 132, .mk (.type "dict") none (.dict #[.mk (PyData.keyHash P "__module__") (.str "__module__" 342) (.str "treewells.errors" 187), .mk (PyData.keyHash P "__firstlineno__") (.str "__firstlineno__" 346) (.int 20 345), .mk (PyData.keyHash P "__static_attributes__") (.str "__static_attributes__" 347) (.ref 131), .mk (PyData.keyHash P "__doc__") (.str "__doc__" 348) .none] 2) #[]) ::
(nat_lit 133, .mk (.type "type") none (Data.cls (ClassData.mk "NoText" [.ref 24] [.ref 133, .ref 24, .type "ValueError", .type "Exception", .type "BaseException", .type "object"] 132 "NoText" true [] [] false none false)) #[some (.ref 124), none, some (.str "NoText" 335), some (.str "NoText" 343), some (.builtin "ValueError.__new__"), some (.bool true)]) ::
(nat_lit 136, .mk (.type "tuple") none (.seq #[.ref 24]) #[]) ::
(nat_lit 143, .mk (.type "tuple") none (.seq #[]) #[]) ::
(nat_lit 144, .mk (.type "dict") none (.dict #[.mk (PyData.keyHash P "__module__") (.str "__module__" 358) (.str "treewells.errors" 187), .mk (PyData.keyHash P "__firstlineno__") (.str "__firstlineno__" 362) (.int 22 361), .mk (PyData.keyHash P "__static_attributes__") (.str "__static_attributes__" 363) (.ref 143), .mk (PyData.keyHash P "__doc__") (.str "__doc__" 364) .none] 2) #[]) ::
(nat_lit 145, .mk (.type "type") none (Data.cls (ClassData.mk "NoKind" [.ref 24] [.ref 145, .ref 24, .type "ValueError", .type "Exception", .type "BaseException", .type "object"] 144 "NoKind" true [] [] false none false)) #[some (.ref 136), none, some (.str "NoKind" 351), some (.str "NoKind" 359), some (.builtin "ValueError.__new__"), some (.bool true)]) ::
(nat_lit 148, .mk (.type "tuple") none (.seq #[.ref 24]) #[]) ::
(nat_lit 155, .mk (.type "tuple") none (.seq #[]) #[]) ::
(nat_lit 156, .mk (.type "dict") none (.dict #[.mk (PyData.keyHash P "__module__") (.str "__module__" 374) (.str "treewells.errors" 187), .mk (PyData.keyHash P "__firstlineno__") (.str "__firstlineno__" 378) (.int 24 377), .mk (PyData.keyHash P "__static_attributes__") (.str "__static_attributes__" 379) (.ref 155), .mk (PyData.keyHash P "__doc__") (.str "__doc__" 380) .none] 2) #[]) ::
(nat_lit 157, .mk (.type "type") none (Data.cls (ClassData.mk "NoQuestion" [.ref 24] [.ref 157, .ref 24, .type "ValueError", .type "Exception", .type "BaseException", .type "object"] 156 "NoQuestion" true [] [] false none false)) #[some (.ref 148), none, some (.str "NoQuestion" 367), some (.str "NoQuestion" 375), some (.builtin "ValueError.__new__"), some (.bool true)]) ::
(nat_lit 160, .mk (.type "tuple") none (.seq #[.ref 24]) #[]) ::
(nat_lit 167, .mk (.type "tuple") none (.seq #[]) #[]) ::
(nat_lit 168, .mk (.type "dict") none (.dict #[.mk (PyData.keyHash P "__module__") (.str "__module__" 390) (.str "treewells.errors" 187), .mk (PyData.keyHash P "__firstlineno__") (.str "__firstlineno__" 394) (.int 26 393), .mk (PyData.keyHash P "__static_attributes__") (.str "__static_attributes__" 395) (.ref 167), .mk (PyData.keyHash P "__doc__") (.str "__doc__" 396) .none] 2) #[]) ::
(nat_lit 169, .mk (.type "type") none (Data.cls (ClassData.mk "NoRow" [.ref 24] [.ref 169, .ref 24, .type "ValueError", .type "Exception", .type "BaseException", .type "object"] 168 "NoRow" true [] [] false none false)) #[some (.ref 160), none, some (.str "NoRow" 383), some (.str "NoRow" 391), some (.builtin "ValueError.__new__"), some (.bool true)]) ::
(nat_lit 172, .mk (.type "tuple") none (.seq #[.ref 24]) #[]) ::
(nat_lit 179, .mk (.type "tuple") none (.seq #[]) #[]) ::
(nat_lit 180, .mk (.type "dict") none (.dict #[.mk (PyData.keyHash P "__module__") (.str "__module__" 406) (.str "treewells.errors" 187), .mk (PyData.keyHash P "__firstlineno__") (.str "__firstlineno__" 410) (.int 28 409), .mk (PyData.keyHash P "__static_attributes__") (.str "__static_attributes__" 411) (.ref 179), .mk (PyData.keyHash P "__doc__") (.str "__doc__" 412) .none] 2) #[]) ::
(nat_lit 181, .mk (.type "type") none (Data.cls (ClassData.mk "NoName" [.ref 24] [.ref 181, .ref 24, .type "ValueError", .type "Exception", .type "BaseException", .type "object"] 180 "NoName" true [] [] false none false)) #[some (.ref 172), none, some (.str "NoName" 399), some (.str "NoName" 407), some (.builtin "ValueError.__new__"), some (.bool true)]) ::
(nat_lit 184, .mk (.type "tuple") none (.seq #[]) #[]) ::
(nat_lit 186, .mk (.type "tuple") none (.seq #[.str "value" 422]) #[]) ::
(nat_lit 187, .mk (.type "tuple") none (.seq #[]) #[]) ::
(nat_lit 189, .mk (.type "code") none (.fields #[.str "is_whole" 419, .str "is_whole" 420, .str "/claim/cut.py" 421, .int 32 0, .int 1 0, .int 0 0, .int 0 0, .int 3 0, .ref 184, .bool true, .int 181 0, .ref 185, .none, .ref 186, .ref 187, .ref 188, .int 423 0, .int 32 0, .str "/claim/cut.py" 424]) #[]) ::
(nat_lit 190, .mk (.type "function") none (.func (.mk "is_whole" "is_whole" (kA (top 17)) (.stmts (kB (top 17))) (kS (top 17)) 3 [] .none .none .none (.str "treewells.trees" 415) none (.ref 189) .none 0)) #[]) ::
(nat_lit 191, .mk (.type "tuple") none (.seq #[]) #[]) ::
(nat_lit 193, .mk (.type "tuple") none (.seq #[.str "many" 429, .str "value" 430]) #[]) ::
(nat_lit 194, .mk (.type "tuple") none (.seq #[]) #[]) ::
(nat_lit 196, .mk (.type "code") none (.fields #[.str "is_place" 426, .str "is_place" 427, .str "/claim/cut.py" 428, .int 34 0, .int 2 0, .int 0 0, .int 0 0, .int 3 0, .ref 191, .bool true, .int 181 0, .ref 192, .none, .ref 193, .ref 194, .ref 195, .int 431 0, .int 34 0, .str "/claim/cut.py" 432]) #[]) ::
(nat_lit 197, .mk (.type "function") none (.func (.mk "is_place" "is_place" (kA (top 18)) (.stmts (kB (top 18))) (kS (top 18)) 3 [] .none .none .none (.str "treewells.trees" 415) none (.ref 196) .none 0)) #[]) ::
(nat_lit 198, .mk (.type "tuple") none (.seq #[]) #[]) ::
(nat_lit 200, .mk (.type "tuple") none (.seq #[.str "many" 437, .str "row" 438]) #[]) ::
(nat_lit 201, .mk (.type "tuple") none (.seq #[]) #[]) ::
(nat_lit 203, .mk (.type "code") none (.fields #[.str "is_road" 434, .str "is_road" 435, .str "/claim/cut.py" 436, .int 36 0, .int 2 0, .int 0 0, .int 0 0, .int 3 0, .ref 198, .bool true, .int 181 0, .ref 199, .none, .ref 200, .ref 201, .ref 202, .int 439 0, .int 36 0, .str "/claim/cut.py" 440]) #[]) ::
(nat_lit 204, .mk (.type "function") none (.func (.mk "is_road" "is_road" (kA (top 19)) (.stmts (kB (top 19))) (kS (top 19)) 3 [] .none .none .none (.str "treewells.trees" 415) none (.ref 203) .none 0)) #[]) ::
(nat_lit 205, .mk (.type "tuple") none (.seq #[]) #[]) ::
(nat_lit 208, .mk (.type "code") none (.fields #[.str "is_tree" 442, .str "is_tree" 443, .str "/claim/cut.py" 444, .int 40 0, .int 2 0, .int 0 0, .int 0 0, .int 3 0, .ref 205, .bool true, .int 181 0, .ref 206, .none, .none, .none, .ref 207, .int 445 0, .int 40 0, .str "/claim/cut.py" 446]) #[]) ::
(nat_lit 209, .mk (.type "function") none (.func (.mk "is_tree" "is_tree" (kA (top 20)) (.stmts (kB (top 20))) (kS (top 20)) 3 [] .none .none .none (.str "treewells.trees" 415) none (.ref 208) .none 0)) #[]) ::
(nat_lit 210, .mk (.type "tuple") none (.seq #[]) #[]) ::
(nat_lit 212, .mk (.type "tuple") none (.seq #[.str "many" 451, .str "roads" 452]) #[]) ::
(nat_lit 213, .mk (.type "tuple") none (.seq #[]) #[]) ::
(nat_lit 215, .mk (.type "code") none (.fields #[.str "check_tree" 448, .str "check_tree" 449, .str "/claim/cut.py" 450, .int 46 0, .int 2 0, .int 0 0, .int 0 0, .int 3 0, .ref 210, .bool true, .int 181 0, .ref 211, .none, .ref 212, .ref 213, .ref 214, .int 453 0, .int 46 0, .str "/claim/cut.py" 454]) #[]) ::
(nat_lit 216, .mk (.type "function") none (.func (.mk "check_tree" "check_tree" (kA (top 21)) (.stmts (kB (top 21))) (kS (top 21)) 3 [] .none .none .none (.str "treewells.trees" 415) none (.ref 215) .none 0)) #[]) ::
(nat_lit 217, .mk (.type "tuple") none (.seq #[]) #[]) ::
(nat_lit 220, .mk (.type "code") none (.fields #[.str "neighbours" 456, .str "neighbours" 457, .str "/claim/cut.py" 458, .int 49 0, .int 2 0, .int 0 0, .int 0 0, .int 3 0, .ref 217, .bool true, .int 181 0, .ref 218, .none, .none, .none, .ref 219, .int 459 0, .int 49 0, .str "/claim/cut.py" 460]) #[]) ::
(nat_lit 221, .mk (.type "function") none (.func (.mk "neighbours" "neighbours" (kA (top 22)) (.stmts (kB (top 22))) (kS (top 22)) 3 [] .none .none .none (.str "treewells.trees" 415) none (.ref 220) .none 0)) #[]) ::
(nat_lit 222, .mk (.type "tuple") none (.seq #[]) #[]) ::
(nat_lit 224, .mk (.type "tuple") none (.seq #[.str "near" 465, .str "goal" 466, .str "steps" 467, .str "reached" 468, .str "done" 469, .str "here" 470, .str "place" 471]) #[]) ::
(nat_lit 225, .mk (.type "tuple") none (.seq #[]) #[]) ::
(nat_lit 227, .mk (.type "code") none (.fields #[.str "steps_to" 462, .str "steps_to" 463, .str "/claim/cut.py" 464, .int 55 0, .int 2 0, .int 0 0, .int 0 0, .int 3 0, .ref 222, .bool true, .int 181 0, .ref 223, .none, .ref 224, .ref 225, .ref 226, .int 472 0, .int 55 0, .str "/claim/cut.py" 473]) #[]) ::
(nat_lit 228, .mk (.type "function") none (.func (.mk "steps_to" "steps_to" (kA (top 23)) (.stmts (kB (top 23))) (kS (top 23)) 3 [] .none .none .none (.str "treewells.trees" 415) none (.ref 227) .none 0)) #[]) ::
(nat_lit 229, .mk (.type "tuple") none (.seq #[]) #[]) ::
(nat_lit 232, .mk (.type "code") none (.fields #[.str "are_figures" 481, .str "are_figures" 482, .str "/claim/cut.py" 483, .int 70 0, .int 1 0, .int 0 0, .int 0 0, .int 3 0, .ref 229, .bool true, .int 181 0, .ref 230, .none, .none, .none, .ref 231, .int 484 0, .int 70 0, .str "/claim/cut.py" 485]) #[]) ::
(nat_lit 233, .mk (.type "function") none (.func (.mk "are_figures" "are_figures" (kA (top 27)) (.stmts (kB (top 27))) (kS (top 27)) 3 [] .none .none .none (.str "treewells.texts" 475) none (.ref 232) .none 0)) #[]) ::
(nat_lit 234, .mk (.type "tuple") none (.seq #[]) #[]) ::
(nat_lit 236, .mk (.type "tuple") none (.seq #[.str "text" 490]) #[]) ::
(nat_lit 237, .mk (.type "tuple") none (.seq #[]) #[]) ::
(nat_lit 239, .mk (.type "code") none (.fields #[.str "is_number" 487, .str "is_number" 488, .str "/claim/cut.py" 489, .int 74 0, .int 1 0, .int 0 0, .int 0 0, .int 3 0, .ref 234, .bool true, .int 181 0, .ref 235, .none, .ref 236, .ref 237, .ref 238, .int 491 0, .int 74 0, .str "/claim/cut.py" 492]) #[]) ::
(nat_lit 240, .mk (.type "function") none (.func (.mk "is_number" "is_number" (kA (top 28)) (.stmts (kB (top 28))) (kS (top 28)) 3 [] .none .none .none (.str "treewells.texts" 475) none (.ref 239) .none 0)) #[]) ::
(nat_lit 241, .mk (.type "tuple") none (.seq #[]) #[]) ::
(nat_lit 243, .mk (.type "tuple") none (.seq #[.str "text" 497]) #[]) ::
(nat_lit 244, .mk (.type "tuple") none (.seq #[]) #[]) ::
(nat_lit 246, .mk (.type "code") none (.fields #[.str "read_number" 494, .str "read_number" 495, .str "/claim/cut.py" 496, .int 78 0, .int 1 0, .int 0 0, .int 0 0, .int 3 0, .ref 241, .bool true, .int 181 0, .ref 242, .none, .ref 243, .ref 244, .ref 245, .int 498 0, .int 78 0, .str "/claim/cut.py" 499]) #[]) ::
(nat_lit 247, .mk (.type "function") none (.func (.mk "read_number" "read_number" (kA (top 29)) (.stmts (kB (top 29))) (kS (top 29)) 3 [] .none .none .none (.str "treewells.texts" 475) none (.ref 246) .none 0)) #[]) ::
(nat_lit 248, .mk (.type "tuple") none (.seq #[]) #[]) ::
(nat_lit 251, .mk (.type "code") none (.fields #[.str "read_row" 501, .str "read_row" 502, .str "/claim/cut.py" 503, .int 82 0, .int 1 0, .int 0 0, .int 0 0, .int 3 0, .ref 248, .bool true, .int 181 0, .ref 249, .none, .none, .none, .ref 250, .int 504 0, .int 82 0, .str "/claim/cut.py" 505]) #[]) ::
(nat_lit 252, .mk (.type "function") none (.func (.mk "read_row" "read_row" (kA (top 30)) (.stmts (kB (top 30))) (kS (top 30)) 3 [] .none .none .none (.str "treewells.texts" 475) none (.ref 251) .none 0)) #[]) ::
(nat_lit 253, .mk (.type "tuple") none (.seq #[]) #[]) ::
(nat_lit 256, .mk (.type "code") none (.fields #[.str "read_rows" 507, .str "read_rows" 508, .str "/claim/cut.py" 509, .int 86 0, .int 1 0, .int 0 0, .int 0 0, .int 3 0, .ref 253, .bool true, .int 181 0, .ref 254, .none, .none, .none, .ref 255, .int 510 0, .int 86 0, .str "/claim/cut.py" 511]) #[]) ::
(nat_lit 257, .mk (.type "function") none (.func (.mk "read_rows" "read_rows" (kA (top 31)) (.stmts (kB (top 31))) (kS (top 31)) 3 [] .none .none .none (.str "treewells.texts" 475) none (.ref 256) .none 0)) #[]) ::
(nat_lit 258, .mk (.type "tuple") none (.seq #[]) #[]) ::
(nat_lit 261, .mk (.type "code") none (.fields #[.str "shown_row" 513, .str "shown_row" 514, .str "/claim/cut.py" 515, .int 90 0, .int 1 0, .int 0 0, .int 0 0, .int 3 0, .ref 258, .bool true, .int 181 0, .ref 259, .none, .none, .none, .ref 260, .int 516 0, .int 90 0, .str "/claim/cut.py" 517]) #[]) ::
(nat_lit 262, .mk (.type "function") none (.func (.mk "shown_row" "shown_row" (kA (top 32)) (.stmts (kB (top 32))) (kS (top 32)) 3 [] .none .none .none (.str "treewells.texts" 475) none (.ref 261) .none 0)) #[]) ::
(nat_lit 263, .mk (.type "tuple") none (.seq #[]) #[]) ::
(nat_lit 266, .mk (.type "code") none (.fields #[.str "shown_rows" 519, .str "shown_rows" 520, .str "/claim/cut.py" 521, .int 94 0, .int 1 0, .int 0 0, .int 0 0, .int 3 0, .ref 263, .bool true, .int 181 0, .ref 264, .none, .none, .none, .ref 265, .int 522 0, .int 94 0, .str "/claim/cut.py" 523]) #[]) ::
(nat_lit 267, .mk (.type "function") none (.func (.mk "shown_rows" "shown_rows" (kA (top 33)) (.stmts (kB (top 33))) (kS (top 33)) 3 [] .none .none .none (.str "treewells.texts" 475) none (.ref 266) .none 0)) #[]) ::
(nat_lit 268, .mk (.type "tuple") none (.seq #[]) #[]) ::
(nat_lit 270, .mk (.type "tuple") none (.seq #[.str "text" 528, .str "rows" 529]) #[]) ::
(nat_lit 271, .mk (.type "tuple") none (.seq #[]) #[]) ::
(nat_lit 273, .mk (.type "code") none (.fields #[.str "read_tree" 525, .str "read_tree" 526, .str "/claim/cut.py" 527, .int 98 0, .int 1 0, .int 0 0, .int 0 0, .int 3 0, .ref 268, .bool true, .int 181 0, .ref 269, .none, .ref 270, .ref 271, .ref 272, .int 530 0, .int 98 0, .str "/claim/cut.py" 531]) #[]) ::
(nat_lit 274, .mk (.type "function") none (.func (.mk "read_tree" "read_tree" (kA (top 34)) (.stmts (kB (top 34))) (kS (top 34)) 3 [] .none .none .none (.str "treewells.texts" 475) none (.ref 273) .none 0)) #[]) ::
(nat_lit 275, .mk (.type "tuple") none (.seq #[]) #[]) ::
(nat_lit 277, .mk (.type "tuple") none (.seq #[.str "many" 536, .str "roads" 537]) #[]) ::
(nat_lit 278, .mk (.type "tuple") none (.seq #[]) #[]) ::
(nat_lit 280, .mk (.type "code") none (.fields #[.str "shown_tree" 533, .str "shown_tree" 534, .str "/claim/cut.py" 535, .int 104 0, .int 2 0, .int 0 0, .int 0 0, .int 3 0, .ref 275, .bool true, .int 181 0, .ref 276, .none, .ref 277, .ref 278, .ref 279, .int 538 0, .int 104 0, .str "/claim/cut.py" 539]) #[]) ::
(nat_lit 281, .mk (.type "function") none (.func (.mk "shown_tree" "shown_tree" (kA (top 35)) (.stmts (kB (top 35))) (kS (top 35)) 3 [] .none .none .none (.str "treewells.texts" 475) none (.ref 280) .none 0)) #[]) ::
(nat_lit 282, .mk (.type "tuple") none (.seq #[]) #[]) ::
(nat_lit 284, .mk (.type "tuple") none (.seq #[.str "_law_number" 546, .str "_law_k" 547, .str "_law_mixed" 548]) #[]) ::
(nat_lit 285, .mk (.type "tuple") none (.seq #[]) #[]) ::
(nat_lit 287, .mk (.type "code") none (.fields #[.str "_law_mix" 543, .str "_law_mix" 544, .str "/claim/cut.py" 545, .int 108 0, .int 2 0, .int 0 0, .int 0 0, .int 3 0, .ref 282, .bool true, .int 181 0, .ref 283, .none, .ref 284, .ref 285, .ref 286, .int 549 0, .int 108 0, .str "/claim/cut.py" 550]) #[]) ::
(nat_lit 288, .mk (.type "function") none (.func (.mk "_law_mix" "_law_mix" (kA (top 37)) (.stmts (kB (top 37))) (kS (top 37)) 3 [] .none .none .none (.str "law_treewells_k85_trees_as_texts" 541) none (.ref 287) .none 0)) #[]) ::
(nat_lit 296, .mk (.type "tuple") none (.seq #[]) #[]) ::
(nat_lit 298, .mk (.type "tuple") none (.seq #[.str "_law_script" 562, .str "_law_k" 563]) #[]) ::
(nat_lit 299, .mk (.type "tuple") none (.seq #[]) #[]) ::
(nat_lit 301, .mk (.type "code") none (.fields #[.str "_law_cell_at" 559, .str "_law_cell_at" 560, .str "/claim/cut.py" 561, .int 113 0, .int 2 0, .int 0 0, .int 0 0, .int 3 0, .ref 296, .bool true, .int 181 0, .ref 297, .none, .ref 298, .ref 299, .ref 300, .int 564 0, .int 113 0, .str "/claim/cut.py" 565]) #[]) ::
(nat_lit 302, .mk (.type "function") none (.func (.mk "_law_cell_at" "_law_cell_at" (kA (top 39)) (.stmts (kB (top 39))) (kS (top 39)) 3 [] .none .none .none (.str "law_treewells_k85_trees_as_texts" 541) none (.ref 301) .none 0)) #[]) ::
(nat_lit 303, .mk (.type "tuple") none (.seq #[]) #[]) ::
(nat_lit 305, .mk (.type "tuple") none (.seq #[.str "_law_cell" 570, .str "_law_k" 571, .str "_law_mixed" 572]) #[]) ::
(nat_lit 306, .mk (.type "tuple") none (.seq #[]) #[]) ::
(nat_lit 308, .mk (.type "code") none (.fields #[.str "_law_older" 567, .str "_law_older" 568, .str "/claim/cut.py" 569, .int 117 0, .int 2 0, .int 0 0, .int 0 0, .int 3 0, .ref 303, .bool true, .int 181 0, .ref 304, .none, .ref 305, .ref 306, .ref 307, .int 573 0, .int 117 0, .str "/claim/cut.py" 574]) #[]) ::
(nat_lit 309, .mk (.type "function") none (.func (.mk "_law_older" "_law_older" (kA (top 40)) (.stmts (kB (top 40))) (kS (top 40)) 3 [] .none .none .none (.str "law_treewells_k85_trees_as_texts" 541) none (.ref 308) .none 0)) #[]) ::
(nat_lit 310, .mk (.type "tuple") none (.seq #[]) #[]) ::
(nat_lit 312, .mk (.type "tuple") none (.seq #[.str "_law_cell" 579, .str "_law_k" 580, .str "_law_mixed" 581, .str "_law_some" 582]) #[]) ::
(nat_lit 313, .mk (.type "tuple") none (.seq #[]) #[]) ::
(nat_lit 315, .mk (.type "code") none (.fields #[.str "_law_size" 576, .str "_law_size" 577, .str "/claim/cut.py" 578, .int 120 0, .int 2 0, .int 0 0, .int 0 0, .int 3 0, .ref 310, .bool true, .int 181 0, .ref 311, .none, .ref 312, .ref 313, .ref 314, .int 583 0, .int 120 0, .str "/claim/cut.py" 584]) #[]) ::
(nat_lit 316, .mk (.type "function") none (.func (.mk "_law_size" "_law_size" (kA (top 41)) (.stmts (kB (top 41))) (kS (top 41)) 3 [] .none .none .none (.str "law_treewells_k85_trees_as_texts" 541) none (.ref 315) .none 0)) #[]) ::
(nat_lit 317, .mk (.type "tuple") none (.seq #[]) #[]) ::
(nat_lit 320, .mk (.type "code") none (.fields #[.str "_law_hung" 586, .str "_law_hung" 587, .str "/claim/cut.py" 588, .int 124 0, .int 3 0, .int 0 0, .int 0 0, .int 3 0, .ref 317, .bool true, .int 181 0, .ref 318, .none, .none, .none, .ref 319, .int 589 0, .int 124 0, .str "/claim/cut.py" 590]) #[]) ::
(nat_lit 321, .mk (.type "function") none (.func (.mk "_law_hung" "_law_hung" (kA (top 42)) (.stmts (kB (top 42))) (kS (top 42)) 3 [] .none .none .none (.str "law_treewells_k85_trees_as_texts" 541) none (.ref 320) .none 0)) #[]) ::
(nat_lit 322, .mk (.type "tuple") none (.seq #[]) #[]) ::
(nat_lit 324, .mk (.type "tuple") none (.seq #[.str "_law_script" 595, .str "_law_cell" 596, .str "_law_many" 597, .str "_law_shape" 598, .str "_law_names" 599, .str "_law_k" 600, .str "_law_roads" 601, .str "_law_pair" 602, .str "_law_one" 603, .str "_law_at" 604]) #[]) ::
(nat_lit 325, .mk (.type "tuple") none (.seq #[]) #[]) ::
(nat_lit 327, .mk (.type "code") none (.fields #[.str "_law_tree" 592, .str "_law_tree" 593, .str "/claim/cut.py" 594, .int 132 0, .int 1 0, .int 0 0, .int 0 0, .int 3 0, .ref 322, .bool true, .int 181 0, .ref 323, .none, .ref 324, .ref 325, .ref 326, .int 605 0, .int 132 0, .str "/claim/cut.py" 606]) #[]) ::
(nat_lit 328, .mk (.type "function") none (.func (.mk "_law_tree" "_law_tree" (kA (top 43)) (.stmts (kB (top 43))) (kS (top 43)) 3 [] .none .none .none (.str "law_treewells_k85_trees_as_texts" 541) none (.ref 327) .none 0)) #[]) ::
(nat_lit 334, .mk (.type "tuple") none (.seq #[]) #[]) ::
(nat_lit 337, .mk (.type "code") none (.fields #[.str "_law_shown" 614, .str "_law_shown" 615, .str "/claim/cut.py" 616, .int 160 0, .int 1 0, .int 0 0, .int 0 0, .int 3 0, .ref 334, .bool true, .int 181 0, .ref 335, .none, .none, .none, .ref 336, .int 617 0, .int 160 0, .str "/claim/cut.py" 618]) #[]) ::
(nat_lit 338, .mk (.type "function") none (.func (.mk "_law_shown" "_law_shown" (kA (top 45)) (.stmts (kB (top 45))) (kS (top 45)) 3 [] .none .none .none (.str "law_treewells_k85_trees_as_texts" 541) none (.ref 337) .none 0)) #[]) ::
(nat_lit 339, .mk (.type "tuple") none (.seq #[]) #[]) ::
(nat_lit 341, .mk (.type "tuple") none (.seq #[.str "_law_rows" 623, .str "_law_cell" 624, .str "_law_choice" 625, .str "_law_at" 626, .str "_law_row" 627, .str "_law_some" 628, .str "_law_place" 629, .str "_law_number" 630, .str "_law_changed" 631]) #[]) ::
(nat_lit 342, .mk (.type "tuple") none (.seq #[]) #[]) ::
(nat_lit 344, .mk (.type "code") none (.fields #[.str "_law_bent" 620, .str "_law_bent" 621, .str "/claim/cut.py" 622, .int 168 0, .int 2 0, .int 0 0, .int 0 0, .int 3 0, .ref 339, .bool true, .int 181 0, .ref 340, .none, .ref 341, .ref 342, .ref 343, .int 632 0, .int 168 0, .str "/claim/cut.py" 633]) #[]) ::
(nat_lit 345, .mk (.type "function") none (.func (.mk "_law_bent" "_law_bent" (kA (top 46)) (.stmts (kB (top 46))) (kS (top 46)) 3 [] .none .none .none (.str "law_treewells_k85_trees_as_texts" 541) none (.ref 344) .none 0)) #[]) ::
(nat_lit 346, .mk (.type "tuple") none (.seq #[]) #[]) ::
(nat_lit 349, .mk (.type "code") none (.fields #[.str "_law_is_tree" 635, .str "_law_is_tree" 636, .str "/claim/cut.py" 637, .int 181 0, .int 1 0, .int 0 0, .int 0 0, .int 3 0, .ref 346, .bool true, .int 181 0, .ref 347, .none, .none, .none, .ref 348, .int 638 0, .int 181 0, .str "/claim/cut.py" 639]) #[]) ::
(nat_lit 350, .mk (.type "function") none (.func (.mk "_law_is_tree" "_law_is_tree" (kA (top 47)) (.stmts (kB (top 47))) (kS (top 47)) 3 [] .none .none .none (.str "law_treewells_k85_trees_as_texts" 541) none (.ref 349) .none 0)) #[]) ::
(nat_lit 351, .mk (.type "tuple") none (.seq #[]) #[]) ::
(nat_lit 353, .mk (.type "tuple") none (.seq #[.str "_law_which" 644, .str "_law_text" 645, .str "_law_many" 646, .str "_law_roads" 647, .str "_law_caught" 648, .str "e" 649]) #[]) ::
(nat_lit 354, .mk (.type "tuple") none (.seq #[]) #[]) ::
(nat_lit 356, .mk (.type "code") none (.fields #[.str "_law_refused" 641, .str "_law_refused" 642, .str "/claim/cut.py" 643, .int 194 0, .int 4 0, .int 0 0, .int 0 0, .int 3 0, .ref 351, .bool true, .int 181 0, .ref 352, .none, .ref 353, .ref 354, .ref 355, .int 650 0, .int 194 0, .str "/claim/cut.py" 651]) #[]) ::
(nat_lit 357, .mk (.type "function") none (.func (.mk "_law_refused" "_law_refused" (kA (top 48)) (.stmts (kB (top 48))) (kS (top 48)) 3 [] .none .none .none (.str "law_treewells_k85_trees_as_texts" 541) none (.ref 356) .none 0)) #[]) ::
(nat_lit 358, .mk (.type "tuple") none (.seq #[]) #[]) ::
(nat_lit 361, .mk (.type "code") none (.fields #[.str "law" 653, .str "law" 654, .str "/claim/cut.py" 655, .int 208 0, .int 1 0, .int 0 0, .int 0 0, .int 3 0, .ref 358, .bool true, .int 181 0, .ref 359, .none, .none, .none, .ref 360, .int 656 0, .int 208 0, .str "/claim/cut.py" 657]) #[]) ::
(nat_lit 362, .mk (.type "function") none (.func (.mk "law" "law" (kA (top 49)) (.stmts (kB (top 49))) (kS (top 49)) 3 [] .none .none .none (.str "law_treewells_k85_trees_as_texts" 541) none (.ref 361) .none 0)) #[]) ::
[]
def kAddrs : List Addr := [nat_lit 2, nat_lit 3, nat_lit 15, nat_lit 22, nat_lit 23, nat_lit 24, nat_lit 25, nat_lit 28, nat_lit 35, nat_lit 36, nat_lit 37, nat_lit 40, nat_lit 47, nat_lit 48, nat_lit 49, nat_lit 52, nat_lit 59, nat_lit 60, nat_lit 61, nat_lit 64, nat_lit 71, nat_lit 72, nat_lit 73, nat_lit 76, nat_lit 83, nat_lit 84, nat_lit 85, nat_lit 88, nat_lit 95, nat_lit 96, nat_lit 97, nat_lit 100, nat_lit 107, nat_lit 108, nat_lit 109, nat_lit 112, nat_lit 119, nat_lit 120, nat_lit 121, nat_lit 124, nat_lit 131, nat_lit 132, nat_lit 133, nat_lit 136, nat_lit 143, nat_lit 144, nat_lit 145, nat_lit 148, nat_lit 155, nat_lit 156, nat_lit 157, nat_lit 160, nat_lit 167, nat_lit 168, nat_lit 169, nat_lit 172, nat_lit 179, nat_lit 180, nat_lit 181, nat_lit 184, nat_lit 186, nat_lit 187, nat_lit 189, nat_lit 190, nat_lit 191, nat_lit 193, nat_lit 194, nat_lit 196, nat_lit 197, nat_lit 198, nat_lit 200, nat_lit 201, nat_lit 203, nat_lit 204, nat_lit 205, nat_lit 208, nat_lit 209, nat_lit 210, nat_lit 212, nat_lit 213, nat_lit 215, nat_lit 216, nat_lit 217, nat_lit 220, nat_lit 221, nat_lit 222, nat_lit 224, nat_lit 225, nat_lit 227, nat_lit 228, nat_lit 229, nat_lit 232, nat_lit 233, nat_lit 234, nat_lit 236, nat_lit 237, nat_lit 239, nat_lit 240, nat_lit 241, nat_lit 243, nat_lit 244, nat_lit 246, nat_lit 247, nat_lit 248, nat_lit 251, nat_lit 252, nat_lit 253, nat_lit 256, nat_lit 257, nat_lit 258, nat_lit 261, nat_lit 262, nat_lit 263, nat_lit 266, nat_lit 267, nat_lit 268, nat_lit 270, nat_lit 271, nat_lit 273, nat_lit 274, nat_lit 275, nat_lit 277, nat_lit 278, nat_lit 280, nat_lit 281, nat_lit 282, nat_lit 284, nat_lit 285, nat_lit 287, nat_lit 288, nat_lit 296, nat_lit 298, nat_lit 299, nat_lit 301, nat_lit 302, nat_lit 303, nat_lit 305, nat_lit 306, nat_lit 308, nat_lit 309, nat_lit 310, nat_lit 312, nat_lit 313, nat_lit 315, nat_lit 316, nat_lit 317, nat_lit 320, nat_lit 321, nat_lit 322, nat_lit 324, nat_lit 325, nat_lit 327, nat_lit 328, nat_lit 334, nat_lit 337, nat_lit 338, nat_lit 339, nat_lit 341, nat_lit 342, nat_lit 344, nat_lit 345, nat_lit 346, nat_lit 349, nat_lit 350, nat_lit 351, nat_lit 353, nat_lit 354, nat_lit 356, nat_lit 357, nat_lit 358, nat_lit 361, nat_lit 362]
def kView : Program := { PySem.Challenge.pw_treewells_k85_trees_as_texts with main := { PySem.Challenge.pw_treewells_k85_trees_as_texts.main with body := [top 1, top 2, top 3, top 4, top 5, top 6, top 7, top 8, top 9, top 10, top 11, top 12, top 13, top 14, top 16, top 17, top 18, top 19, top 20, top 21, top 22, top 23, top 25, top 26, top 27, top 28, top 29, top 30, top 31, top 32, top 33, top 34, top 35, top 37, top 38, top 39, top 40, top 41, top 42, top 43, top 44, top 45, top 46, top 47, top 48, top 49] } }
theorem kAddrs_eq (P : Params) : kAddrs = (kHeap P).map (·.1) := by kernel_rfl
theorem kBoot : ∀ w : World, (PySem.W.fencedOpening treeTable PySem.Challenge.rw_treewells_k85_trees_as_texts.row.prog w 7854).map (fun s => (s.heap, s.gens, s.drawn, s.toks)) = some (PySem.W.boot_heap w.params, Array.mk [], PySem.W.boot_drawn, PySem.W.boot_toks) :=
  PySem.W.boot_open (by rfl) (by decide) (fun _ => rfl)
abbrev kPr : Program := PySem.Challenge.rw_treewells_k85_trees_as_texts.row.prog
abbrev kLk {α : Type} (g : World->Shared->α) (v : World->α) : Prop := Look kPr 7854 PySem.W.boot_heap (Array.mk []) PySem.W.boot_drawn PySem.W.boot_toks (nat_lit 11) (some (.ref (nat_lit 6))) { debug := 0, thresholds := [2000, 10, 10] } g v
theorem kL1 : kLk (fun w s => PySem.W.staticsOk (PySem.importedModules kPr.main.body) (PySem.W.boot_heap w.params) s.heap && PySem.W.namesBound kPr s.heap && PySem.W.gensDone s && PySem.W.laidKept (PySem.W.boot_heap w.params) s.heap) (fun _ => true) := by intro w os; kernel_rfl
theorem kL2 : kLk (fun _ s => PySem.W.openSeen KH.kView [] (PySem.importedModules kPr.main.body) (fun s => PySem.W.xlAt KH.kView [] s && PySem.W.recOk (PySem.W.RowW.records (PySem.W.OpenRow.toRowW PySem.Challenge.rw_treewells_k85_trees_as_texts.row)) s) true s) (fun _ => PySem.W.openGood KH.kView []) := by intro w os; kernel_rfl
theorem kL3 : kLk (fun _ s => (PySem.W.kHook KH.kHeap KH.kAddrs KH.kAddrs_eq).obs s) (PySem.W.kHook KH.kHeap KH.kAddrs KH.kAddrs_eq).val := by intro w os; kernel_rfl
theorem kLeft : PySem.W.LeftO PySem.Challenge.rw_treewells_k85_trees_as_texts.row.prog KH.kView [] (fun s => PySem.W.xlAt KH.kView [] s && PySem.W.recOk (PySem.W.RowW.records (PySem.W.OpenRow.toRowW PySem.Challenge.rw_treewells_k85_trees_as_texts.row)) s) (PySem.W.kHook KH.kHeap KH.kAddrs KH.kAddrs_eq).obs (PySem.W.kHook KH.kHeap KH.kAddrs KH.kAddrs_eq).val 7854 :=
  left_of kBoot (by intro w; kernel_rfl) kL1 kL2 kL3
end KH
namespace L2
open PySem PySem.Spec PyProof.Rows
abbrev Key := Sum Int Str
def keyIs : Key->Value->Bool
  | .inl k, v => Value.isInt k v
  | .inr x, v => Value.isStrOf x v
def keyH (w : World) : Key->Int
  | .inl k => hashInt k
  | .inr x => hashStr w x
theorem keyIs_shape : ∀ {k : Key} {v : Value}, keyIs k v = true->(∃ i t, k = Sum.inl i/\v = Value.int i t) ∨ (∃ x t, k = Sum.inr x/\v = Value.str x t)
  | .inl i, v, h => by
    obtain ⟨t, e⟩ := Value.isInt_shape (k := i) (v := v) h
    exact .inl ⟨i, t, rfl, e⟩
  | .inr x, v, h => by
    obtain ⟨t, e⟩ := Value.isStrOf_shape (x := x) (v := v) h
    exact .inr ⟨x, t, rfl, e⟩
theorem keyIs_int (i : Int) (t : Tok) : keyIs (.inl i) (.int i t) = true := by simp [keyIs, Value.isInt]
theorem keyIs_str (x : Str) (t : Tok) : keyIs (.inr x) (.str x t) = true := by simp [keyIs, Value.isStrOf]
theorem key_ll (a b : Int) : decide ((Sum.inl a : Key) = Sum.inl b) = (a == b) := by
  by_cases e : a = b
  · subst e; simp
  · have h : ¬ (Sum.inl a : Key) = Sum.inl b := fun q => e (Sum.inl.inj q)
    rw [decide_eq_false h]
    exact (beq_eq_false_iff_ne.mpr e).symm
theorem key_rr (a b : Str) : decide ((Sum.inr a : Key) = Sum.inr b) = decide (a = b) := by
  by_cases e : a = b
  · subst e; simp
  · have h : ¬ (Sum.inr a : Key) = Sum.inr b := fun q => e (Sum.inr.inj q)
    rw [decide_eq_false h, decide_eq_false e]
theorem key_lr (a : Int) (b : Str) : decide ((Sum.inl a : Key) = Sum.inr b) = false := decide_eq_false (fun q => nomatch q)
theorem key_rl (a : Str) (b : Int) : decide ((Sum.inr a : Key) = Sum.inl b) = false := decide_eq_false (fun q => nomatch q)
def mixKind (prog : Program) (w : World) : PySem.KeyKind prog w Key where
  is := keyIs
  hash := keyH w
  inj := fun v a b ha hb => by
    rcases keyIs_shape ha with ⟨i, t, rfl, rfl⟩ | ⟨x, t, rfl, rfl⟩
    · rcases keyIs_shape hb with ⟨j, u, rfl, e⟩ | ⟨y, u, rfl, e⟩
      · injection e with e1 _; rw [e1]
      · exact nomatch e
    · rcases keyIs_shape hb with ⟨j, u, rfl, e⟩ | ⟨y, u, rfl, e⟩
      · exact nomatch e
      · injection e with e1 _; rw [e1]
  byValue := fun k v h => by
    rcases keyIs_shape h with ⟨i, t, rfl, rfl⟩ | ⟨x, t, rfl, rfl⟩ <;> rfl
  pyHash := fun hv h => by
    rcases keyIs_shape hv with ⟨i, t, rfl, rfl⟩ | ⟨x, t, rfl, rfl⟩
    · exact wpAny_pyHash_int h
    · exact wpAny_pyHash_str h
  eqBool := fun hu hv h => by
    rcases keyIs_shape hu with ⟨i, t, rfl, rfl⟩ | ⟨x, t, rfl, rfl⟩
    · rcases keyIs_shape hv with ⟨j, u, rfl, rfl⟩ | ⟨y, u, rfl, rfl⟩
      · rw [key_ll] at h; exact wpAny_eqBool_int h
      · rw [key_lr] at h; exact SeqAt.EqAt.int_str i t y u _ _ _ _ h
    · rcases keyIs_shape hv with ⟨j, u, rfl, rfl⟩ | ⟨y, u, rfl, rfl⟩
      · rw [key_rl] at h; exact SeqAt.EqAt.str_int x t j u _ _ _ _ h
      · rw [key_rr] at h; exact wpAny_eqBool_str h
  «strs» := fun k x t v h => by
    rcases keyIs_shape h with ⟨i, u, rfl, e⟩ | ⟨y, u, rfl, e⟩
    · exact nomatch e
    · injection e with e1 _
      subst e1
      cases v <;> rfl
theorem mixKind_int (prog : Program) (w : World) (i : Int) (t : Tok) : (mixKind prog w).is (.inl i) (.int i t) = true := keyIs_int i t
theorem mixKind_str (prog : Program) (w : World) (x : Str) (t : Tok) : (mixKind prog w).is (.inr x) (.str x t) = true := keyIs_str x t
end L2
namespace L2
open PySem PySem.Spec PyProof.Rows
inductive V where
  | non | bl (b : Bool) | int (i : Int) | str (x : Str) | byt (b : Array UInt8) | flt (b : UInt64) | ref (a : Addr) | ty (n : String)
  deriving DecidableEq
def RelV : V->Value->Prop
  | .non, u => u = Value.none
  | .bl b, u => u = Value.bool b
  | .int i, u => ∃ t, u = Value.int i t
  | .str x, u => ∃ t, u = Value.str x t
  | .byt b, u => ∃ t, u = Value.bytes b t
  | .flt b, u => ∃ t, u = Value.float b t
  | .ref a, u => u = Value.ref a
  | .ty n, u => u = Value.type n
abbrev Vals : List V->List Value->Prop := Paired RelV
theorem Vals.length {xs : List V} {us : List Value} (r : Vals xs us) : xs.length = us.length := Paired.length r
theorem Vals.get : ∀ {xs : List V} {us : List Value} {i : Nat} {x : V}, Vals xs us->xs[i]? = some x->∃ u, us[i]? = some u/\RelV x u
  | _, _, _, _, .nil, e => by simp at e
  | _, _, 0, _, .cons r _, e => by simp at e; subst e; exact ⟨_, rfl, r⟩
  | _, _, i + 1, x, .cons _ t, e => by
    obtain ⟨u, h1, h2⟩ := Vals.get (i := i) (x := x) t (by simpa using e)
    exact ⟨u, by simpa using h1, h2⟩
theorem Vals.set {x : V} {u : Value} (r : RelV x u) : ∀ {xs : List V} {us : List Value} (i : Nat), Vals xs us->Vals (xs.set i x) (us.set i u)
  | _, _, _, .nil => .nil
  | _, _, 0, .cons _ t => .cons r t
  | _, _, i + 1, .cons q t => .cons q (Vals.set r i t)
theorem Vals.append : ∀ {xs ys : List V} {us ws : List Value}, Vals xs us->Vals ys ws->Vals (xs ++ ys) (us ++ ws)
  | _, _, _, _, .nil, s => s
  | _, _, _, _, .cons r t, s => .cons r (Vals.append t s)
theorem Vals.take : ∀ {xs : List V} {us : List Value} (n : Nat), Vals xs us->Vals (xs.take n) (us.take n)
  | _, _, 0, _ => .nil
  | _, _, _ + 1, .nil => .nil
  | _, _, n + 1, .cons r t => .cons r (Vals.take n t)
theorem Vals.drop : ∀ {xs : List V} {us : List Value} (n : Nat), Vals xs us->Vals (xs.drop n) (us.drop n)
  | _, _, 0, r => r
  | _, _, _ + 1, .nil => .nil
  | _, _, n + 1, .cons _ t => Vals.drop n t
def RelO : Option V->Option Value->Prop
  | some v, some u => RelV v u
  | none, none => True
  | _, _ => False
def KV {κ : Type} : List (κ × V)->List (κ × Value)->Prop := Paired fun (p : κ × V) (q : κ × Value) => p.1 = q.1/\RelV p.2 q.2
def kV : Key->V
  | .inl i => .int i
  | .inr x => .str x
inductive HO where
  | lst (xs : List V)
  | tup (xs : List V)
  | dK (kvs : List (Key × V)) | dT (kvs : List (List Key × V))
  | set (S : Int->Bool) (n : Nat)
  | ins (C dx : Addr) (fs : List (Str × V))
  | own (x : Addr)
  | xd (fs : List (Str × V))
  | met (f x : Addr)
  | rng (lo hi : Int)
  | frz (o : Obj) (u : HO)
  | tbl (ps : Array Value)
  | cod (q : Str)
  | ext (φ : Heap->Prop)
def Per : HO->Prop
  | .tup _ => True
  | .cod _ => True
  | _ => False
def qOf (qs : Array Value) : Str := match (qs[0]? : Option Value) with
  | some (.str q _) => q
  | _ => ""
abbrev Hp := Addr->Option HO
def upd (H : Hp) (a : Addr) (o : HO) : Hp := fun b => if b = a then some o else H b
theorem upd_same {H : Hp} {a : Addr} {o : HO} : upd H a o a = some o := by unfold upd; rw [if_pos rfl]
theorem upd_ne {H : Hp} {a b : Addr} {o : HO} (h : b ≠ a) : upd H a o b = H b := by unfold upd; rw [if_neg h]
theorem ne_of {H : Hp} {a b : Addr} {o u : HO} (h : H a = some o) (h' : H b = some u) (d : o ≠ u) : a ≠ b := by
  intro e; subst e; rw [h] at h'; exact d (Option.some.inj h')
theorem ne_of_none {H : Hp} {a b : Addr} {o : HO} (h : H a = some o) (h' : H b = none) : a ≠ b := by
  intro e; subst e; rw [h] at h'; cases h'
section
variable (P : Program) (w : World)
def ObjOk (H : Hp) (h : Heap) (a : Addr) : HO->Prop
  | .lst xs => xs.length ≤ sizeLine/\∃ (its : List Value) (n : Nat), Vals xs its/\h.get? a = some { cls := .type "list", data := .seq its.toArray n }
  | .tup xs => xs.length ≤ sizeLine/\∃ its : List Value, Vals xs its/\IsTup h a its.toArray
  | .dK kvs => kvs.length ≤ sizeLine/\(a == sysModules) = false/\∃ vs, KV kvs vs/\h.DictOf (mixKind P w) a vs
  | .dT kvs => kvs.length ≤ sizeLine/\(a == sysModules) = false/\∃ xs : List (List Key × Addr × Value),
      Paired (fun (p : List Key × V) (q : List Key × Addr × Value) => p.1 = q.1/\H q.2.1 = some (.tup (p.1.map kV))/\RelV p.2 q.2.2) kvs xs ∧
      ∃ o es ep, h.get? a = some o/\o.ExactDict/\o.data = .dict es ep/\es.toList = xs.map (entryOfKey (tupleKind (mixKind P w)))/\(xs.map (·.1)).Nodup
  | .set S n => h.SetOf (intKind P w) a S n
  | .ins C dx fs => H dx = some (.own a)/\fs.length ≤ 1000/\dx ≠ a/\h.get? a = some (PySem.W.instObj C dx) ∧
      ∃ mA, h.Ns1 dx mA/\(∀ f, RelO (fs.lookup f) (mA f))/\PySem.Within mA (fs.map (·.1))
  | .own _ => ∃ o, h.get? a = some o
  | .xd fs => ∃ mA, h.Ns1 a mA/\∀ f, RelO (fs.lookup f) (mA f)
  | .rng lo hi => ∃ t u v, h.get? a = some { cls := .type "range", data := .fields #[.int lo t, .int hi u, .int 1 v] }
  | .frz o u => h.get? a = some o/\ObjOk H h a u
  | .tbl qs => ∃ ps : Array Value, h.get? a = some { cls := .none, data := .fields ps }/\TriplesOk ps.toList/\∀ (pos : Pos) (cv : Value), codeAmong pos ps.toList = some cv->∃ c, cv = .ref c/\H c = some (.cod (qOf qs))
  | .cod q => h.CodeRec (.ref a) q
  | .met f x => h.get? a = some (PySem.W.methodObj (.ref f) (.ref x))
  | .ext φ => φ h/\(∃ o, h.get? a = some o)/\∀ h1 h2 : Heap, φ h1->(∀ o, h1.get? a = some o->h2.get? a = some o)->φ h2
def HOk (H : Hp) (h : Heap) : Prop := ∀ a o, H a = some o->ObjOk P w H h a o
end
section
variable {P : Program} {w : World} {H H' : Hp} {h h' : Heap} {a : Addr} {o : HO}
theorem ObjOk.lt (x : ObjOk P w H h a o) : a < h.objs.size := by
  cases o with
  | lst xs => obtain ⟨_, _, _, _, e⟩ := x; exact Heap.lt_size e
  | tup xs => obtain ⟨_, _, _, p⟩ := x; exact p.lt
  | dK kvs => obtain ⟨_, _, _, _, o, _, _, e, _⟩ := x; exact Heap.lt_size e
  | dT kvs => obtain ⟨_, _, _, _, o, _, _, e, _⟩ := x; exact Heap.lt_size e
  | set S n => obtain ⟨o, _, _, _, e, _⟩ := x; exact Heap.lt_size e
  | ins C dx fs => obtain ⟨_, _, _, e, _⟩ := x; exact Heap.lt_size e
  | own y => obtain ⟨_, e⟩ := x; exact Heap.lt_size e
  | xd fs => obtain ⟨_, ⟨_, _, _, e, _⟩, _⟩ := x; exact Heap.lt_size e
  | rng lo hi => obtain ⟨_, _, _, e⟩ := x; exact Heap.lt_size e
  | frz ob u => obtain ⟨e, _⟩ := x; exact Heap.lt_size e
  | tbl ps => obtain ⟨_, e, _⟩ := x; exact Heap.lt_size e
  | cod q => obtain ⟨_, _, _, _, e0, e, _⟩ := x; cases e0; exact Heap.lt_size e
  | met f y => exact Heap.lt_size (show h.get? a = some _ from x)
  | ext φ => obtain ⟨_, ⟨_, e⟩, _⟩ := x; exact Heap.lt_size e
theorem Paired.mapP {α β : Type} {F G : α->β->Prop} : ∀ {l₁ : List α} {l₂ : List β}, Paired F l₁ l₂->(∀ a b, F a b->G a b)->Paired G l₁ l₂
  | _, _, .nil, _ => .nil
  | _, _, .cons r t, f => .cons (f _ _ r) (Paired.mapP t f)
theorem ObjOk.stay (x : ObjOk P w H h a o) (k : ∀ b u, (b = a ∨ H b = some (.own a))->h.get? b = some u->h'.get? b = some u) (ho : ∀ b, H b = some (.own a)->H' b = some (.own a)) (ht : ∀ b u, Per u->H b = some u->H' b = some u) : ObjOk P w H' h' a o := by
  induction o with
  | lst xs => obtain ⟨z, its, n, r, e⟩ := x; exact ⟨z, its, n, r, k _ _ (.inl rfl) e⟩
  | tup xs => obtain ⟨z, its, r, ob, e, c⟩ := x; exact ⟨z, its, r, ob, k _ _ (.inl rfl) e, c⟩
  | dK kvs => obtain ⟨z, y, vs, r, ob, es, ep, e, c⟩ := x; exact ⟨z, y, vs, r, ob, es, ep, k _ _ (.inl rfl) e, c⟩
  | dT kvs =>
    obtain ⟨z, y, xs, r, ob, es, ep, e, c⟩ := x
    exact ⟨z, y, xs, Paired.mapP r fun p q z => ⟨z.1, ht _ _ trivial z.2.1, z.2.2⟩, ob, es, ep, k _ _ (.inl rfl) e, c⟩
  | set S n => obtain ⟨ob, es, ep, t, e, c⟩ := x; exact ⟨ob, es, ep, t, k _ _ (.inl rfl) e, c⟩
  | ins C dx fs =>
    obtain ⟨d, z, ne, e, mA, ⟨od, es, ep, e2, c⟩, r⟩ := x
    exact ⟨ho _ d, z, ne, k _ _ (.inl rfl) e, mA, ⟨od, es, ep, k _ _ (.inr d) e2, c⟩, r⟩
  | own y => obtain ⟨ob, e⟩ := x; exact ⟨ob, k _ _ (.inl rfl) e⟩
  | xd fs => obtain ⟨mA, ⟨od, es, ep, e, c⟩, r⟩ := x; exact ⟨mA, ⟨od, es, ep, k _ _ (.inl rfl) e, c⟩, r⟩
  | rng lo hi => obtain ⟨t, u, v, e⟩ := x; exact ⟨t, u, v, k _ _ (.inl rfl) e⟩
  | frz ob u ih => obtain ⟨e, q⟩ := x; exact ⟨k _ _ (.inl rfl) e, ih q⟩
  | tbl qs =>
    obtain ⟨ps, e, tr, f⟩ := x
    exact ⟨ps, k a _ (.inl rfl) e, tr, fun pos cv hc => let ⟨c, e1, e2⟩ := f pos cv hc; ⟨c, e1, ht _ _ trivial e2⟩⟩
  | cod q =>
    obtain ⟨c, oc, vs, tq, e0, e, r⟩ := x
    cases e0
    exact ⟨a, oc, vs, tq, rfl, k a _ (.inl rfl) e, r⟩
  | met f y =>
    have e : h.get? a = some (PySem.W.methodObj (.ref f) (.ref y)) := x
    show h'.get? a = some (PySem.W.methodObj (.ref f) (.ref y))
    exact k a _ (.inl rfl) e
  | ext φ => obtain ⟨p, ⟨o, e⟩, st⟩ := x; exact ⟨st _ _ p fun o q => k _ _ (.inl rfl) q, ⟨o, k _ _ (.inl rfl) e⟩, st⟩
theorem HOk.lt (x : HOk P w H h) (e : H a = some o) : a < h.objs.size := (x a o e).lt
theorem HOk.fresh (x : HOk P w H h) (e : h.objs.size ≤ a) : H a = none := by
  cases q : H a with
  | none => rfl
  | some u => exact absurd (Nat.lt_of_lt_of_le (x.lt q) e) (Nat.lt_irrefl _)
theorem HOk.kept (x : HOk P w H h) (k : ∀ b u, h.get? b = some u->h'.get? b = some u) : HOk P w H h' := fun a o e =>
  (x a o e).stay (fun b u _ q => k b u q) (fun _ q => q) fun _ _ _ q => q
theorem HOk.laid (x : HOk P w H h) (k : ∀ b u, h.get? b = some u->h'.get? b = some u) (hp : h.objs.size ≤ a) (new : ObjOk P w (upd H a o) h' a o) : HOk P w (upd H a o) h' := fun b u e => by
  have hn := x.fresh hp
  by_cases hb : b = a
  · subst hb; rw [upd_same] at e; cases e; exact new
  · rw [upd_ne hb] at e
    exact (x b u e).stay (fun c v _ q => k c v q) (fun c q => by rw [upd_ne (ne_of_none q hn)]; exact q) fun c xs _ q => by rw [upd_ne (ne_of_none q hn)]; exact q
end
def Rd (H : Hp) (a : Addr) (u : HO) : Prop := H a = some u ∨ ∃ o, H a = some (.frz o u)
theorem Rd.ok {P : Program} {w : World} {H : Hp} {h : Heap} {a : Addr} {u : HO} (r : Rd H a u) (x : HOk P w H h) : ObjOk P w H h a u := by
  rcases r with r | ⟨o, r⟩
  · exact x a u r
  · obtain ⟨_, q⟩ := x a _ r
    exact q
def Mut : Option HO->Prop
  | some (.lst _) => True
  | some (.dK _) => True
  | some (.dT _) => True
  | some (.set _ _) => True
  | some (.ins _ _ _) => True
  | some (.ext _) => True
  | _ => False
section
variable {P : Program} {w : World} {H : Hp} {h h' : Heap} {x e : Addr} {o' : HO}
theorem HOk.write (ok : HOk P w H h) (mu : Mut (H x)) (he : e = x ∨ H e = some (.own x)) (k : ∀ b u, b ≠ e->h.get? b = some u->h'.get? b = some u) (heo : ∃ u, h'.get? e = some u) (new : ObjOk P w (upd H x o') h' x o') : HOk P w (upd H x o') h' := fun b u q => by
  have nown : ∀ c y, H c = some (.own y)->c ≠ x := fun c y r z => by subst z; rw [r] at mu; exact mu
  have ntup : ∀ c xs, H c = some (.tup xs)->c ≠ x := fun c xs r z => by subst z; rw [r] at mu; exact mu
  have nper : ∀ c u, Per u->H c = some u->c ≠ x := fun c u pu r z => by
    subst z
    rw [r] at mu
    cases u <;> first | exact mu | exact pu
  by_cases hb : b = x
  · subst hb; rw [upd_same] at q; cases q; exact new
  · rw [upd_ne hb] at q
    by_cases hbe : b = e
    · have q' : H b = some (.own x) := by
        rcases he with z | z
        · exact absurd (hbe.trans z) hb
        · rw [hbe]; exact z
      rw [q] at q'; cases q'
      obtain ⟨v, hv⟩ := heo
      exact ⟨v, by rw [hbe]; exact hv⟩
    · refine (ok b u q).stay (fun c v hc r => k c v ?_ r) (fun c r => by rw [upd_ne (nown c b r)]; exact r) fun c u pu r => by rw [upd_ne (nper c u pu r)]; exact r
      rcases hc with rfl | hc
      · exact hbe
      · rintro rfl
        rcases he with z | z
        · exact nown c b hc z
        · rw [hc] at z; cases z; exact hb rfl
end
structure Un (fs ex : List Addr) (H H' : Hp) (h h' : Heap) : Prop where
  keep : ∀ b o, h.get? b = some o->H b = none->b ∉ fs->b ∉ ex->h'.get? b = some o
  slot : ∀ b o, h.get? b = some o->H b = none->b ∈ fs->b ∉ ex->∃ sl, h'.get? b = some { o with slots := sl }
  free : ∀ b o, h.get? b = some o->H b = none->b ∉ ex->H' b = none
  there : ∀ b o, h.get? b = some o->b ∉ ex->∃ o', h'.get? b = some o'
  tups : ∀ b xs, H b = some (.tup xs)->H' b = some (.tup xs)
  frzs : ∀ b o u, H b = some (.frz o u)->H' b = some (.frz o u)
  tbls : ∀ b ps, H b = some (.tbl ps)->∃ more, H' b = some (.tbl (ps ++ more))
section
variable {fs fs' ex ex' : List Addr} {H H1 H2 : Hp} {h h1 h2 h' : Heap} {a x e : Addr} {o : HO}
theorem Un.any (u : Un fs ex H H1 h h1) {b : Addr} {ob : Obj} (q : h.get? b = some ob) (n : H b = none) (hx : b ∉ ex) : ∃ sl, h1.get? b = some { ob with slots := sl } := by
  by_cases hb : b ∈ fs
  · exact u.slot b ob q n hb hx
  · exact ⟨ob.slots, u.keep b ob q n hb hx⟩
theorem Un.kept (k : ∀ b u, h.get? b = some u->h'.get? b = some u) : Un fs ex H H h h' :=
  ⟨fun b ob q _ _ _ => k b ob q, fun b ob q _ _ _ => ⟨ob.slots, k b ob q⟩, fun _ _ _ n _ => n, fun b ob q _ => ⟨ob, k b ob q⟩, fun _ _ q => q, fun _ _ _ q => q, fun _ ps q => ⟨#[], by rw [q]; simp⟩⟩
theorem Un.refl : Un fs ex H H h h := Un.kept fun _ _ q => q
theorem Un.laid (k : ∀ b u, h.get? b = some u->h'.get? b = some u) (hp : h.objs.size ≤ a) (hn : H a = none) : Un fs ex H (upd H a o) h h' where
  keep := fun b u q _ _ _ => k b u q
  slot := fun b u q _ _ _ => ⟨u.slots, k b u q⟩
  free := fun b u q n _ => by rw [upd_ne (Nat.ne_of_lt (Nat.lt_of_lt_of_le (Heap.lt_size q) hp))]; exact n
  there := fun b u q _ => ⟨u, k b u q⟩
  tups := fun b xs q => by rw [upd_ne (ne_of_none q hn)]; exact q
  frzs := fun b u xs q => by rw [upd_ne (ne_of_none q hn)]; exact q
  tbls := fun b ps q => ⟨#[], by rw [upd_ne (ne_of_none q hn), q]; simp⟩
theorem Un.write (mu : Mut (H x)) (he : e = x ∨ H e = some (.own x)) (k : ∀ b u, b ≠ e->h.get? b = some u->h'.get? b = some u) (heo : ∃ u, h'.get? e = some u) : Un fs ex H (upd H x o) h h' := by
  have hx : ∀ b, H b = none->b ≠ x := fun b n z => by subst z; rw [n] at mu; exact mu
  have hb : ∀ b, H b = none->b ≠ e := fun b n z => by
    subst z
    rcases he with r | r
    · exact hx b n r
    · rw [n] at r; cases r
  have hm : ∀ b u, H b = some u->¬ Mut (some u)->b ≠ x := fun b u q nm z => by subst z; rw [q] at mu; exact nm mu
  refine ⟨fun b u q n _ _ => k b u (hb b n) q, fun b u q n _ _ => ⟨u.slots, k b u (hb b n) q⟩, fun b u q n _ => by rw [upd_ne (hx b n)]; exact n, fun b u q _ => ?_,
    fun b xs q => by rw [upd_ne (hm b _ q fun z => z)]; exact q, fun b u xs q => by rw [upd_ne (hm b _ q fun z => z)]; exact q, fun b ps q => ⟨#[], by rw [upd_ne (hm b _ q fun z => z), q]; simp⟩⟩
  by_cases hbe : b = e
  · subst hbe; exact heo
  · exact ⟨u, k b u hbe q⟩
end
def trk (h : Heap) (H : Hp) : List Addr := (List.range h.objs.size).filter fun a => (H a).isSome
def hidT (h : Heap) (H : Hp) : Heap := PySem.W.hideAll h (trk h H)
theorem hidT_size (h : Heap) (H : Hp) : (hidT h H).objs.size = h.objs.size := PySem.W.hideAll_size _ _
theorem hidT_get {h : Heap} {H : Hp} {b : Addr} {o : Obj} (e : h.get? b = some o) (n : H b = none) : (hidT h H).get? b = some o :=
  PySem.W.hideAll_get _ e fun hm => by
    have q : (H b).isSome = true := (List.mem_filter.mp hm).2
    rw [n] at q; simp at q
theorem of_hidT {h : Heap} {H : Hp} {b : Addr} {o : Obj} (e : (hidT h H).get? b = some o) : h.get? b = some o/\H b = none := by
  have e' : h.get? b = some o := PySem.W.of_hideAll (trk h H) e
  refine ⟨e', ?_⟩
  cases q : H b with
  | none => rfl
  | some x =>
    have hm : b ∈ trk h H := List.mem_filter.mpr ⟨List.mem_range.mpr (Heap.lt_size e'), by simp [q]⟩
    have z : (hidT h H).get? b = none := PySem.W.hideAll_none (trk h H) hm
    rw [z] at e; cases e
end L2
namespace L2
open PySem PySem.Spec PyProof.Rows
structure Mod (K : PySem.W.Frag) (mg : Str->Option Value) (base : Heap) : Prop where
  kin : K.In base
  glob : base.Ns mainGlobals mg
  blt : ∃ mb, base.Ns builtinsNs mb/\∀ x : Str, x ≠ "__name__"->mb x = bootBuiltins x
  nolimit : base.NoLimit
  bmain : ∃ bm ob, mg "__builtins__" = some (.ref bm)/\bm ≠ builtinsNs/\base.get? bm = some ob/\ob.cls = .type "module"/\ob.dict = some builtinsNs/\ob.data = .plain
structure Cx where
  prog : Program
  w : World
  K : PySem.W.Frag
  mg : Str->Option Value
  base : Heap
  A : Around
  N : List Str
  s₀ : Shared
  H₀ : Hp
  env : Env
  outer : List Env
  stack : List Env
  ex : List Addr
  fn : Str->Bool
  calm : Bool
  pn : List (Addr × Obj)
  xe : Value->Shared->Prop
def frs (l : List Env) : List Addr := l.filterMap (·.frame)
abbrev Cx.fs (X : Cx) : List Addr := frs X.outer
def Vis (sc : Scope) (x : Str) : Prop := sc.names.lookup x = some .local ∨ sc.names.lookup x = some .cell ∨ sc.names.lookup x = some .free
def Loc (sc : Scope) (x : Str) : Prop := sc.names.lookup x = some .local ∨ sc.names.lookup x = some .cell
def Look (env : Env) (h : Heap) (m : Str->Option Value) (x : Str) (u : Value) : Prop :=
  (env.kindOf x = some .local/\m x = some u) ∨ ((env.kindOf x = some .cell ∨ env.kindOf x = some .free)/\∃ c, env.cells.lookup x = some c/\h.IsCell c (some u))
structure Cx.Ok (X : Cx) : Prop where
  mod : Mod X.K X.mg X.base
  kind : X.env.scope.kind = .function
  glob : X.env.globals = mainGlobals
  blt : X.env.builtins = builtinsNs
  above : X.s₀.heap.objs.size ≤ X.env.locals
  inj : ∀ x y c, X.env.cells.lookup x = some c->X.env.cells.lookup y = some c->x = y
  has : ∀ x, (X.env.kindOf x = some .cell ∨ X.env.kindOf x = some .free)->∃ c, X.env.cells.lookup x = some c
  cab : ∀ x c, X.fn x = true->X.env.cells.lookup x = some c->X.s₀.heap.objs.size ≤ c
  hd : X.calm = true->X.A.handled = none
  frames : X.A.frames = some X.stack
  stk : X.stack = X.outer ∨ (X.stack = X.env :: X.outer/\X.env.frame = some X.env.locals)
  exf : ∀ b ∈ X.ex, b ≠ X.env.locals/\∀ x c, X.env.cells.lookup x = some c->c ≠ b
  bs : ∀ b o, X.base.get? b = some o->X.s₀.heap.get? b = some o/\X.H₀ b = none
  bsz : X.base.objs.size ≤ X.s₀.heap.objs.size
  noex : ∀ b o, X.base.get? b = some o->b ∉ X.ex
  exfs : ∀ b ∈ X.ex, b ∉ X.fs
  funs : X.s₀.heap.FunFrames X.base X.outer
  frf : ∀ b ∈ X.fs, X.H₀ b = none
structure Inv (X : Cx) (pins : List (Addr × Obj)) (σ : List (Option V)) (H : Hp) (s : Shared) : Prop where
  ok : X.Ok
  os : s.os = X.s₀.os
  bare : AllBare s.gens
  base : Un X.fs X.ex X.H₀ H X.s₀.heap s.heap
  loc : ∃ m, s.heap.Ns X.env.locals m/\∀ (i : Nat) (x : Str) (v : V), X.N[i]? = some x->σ[i]? = some (some v)->Vis X.env.scope x->∃ u, RelV v u/\Look X.env s.heap m x u
  cell : ∀ x c, X.env.cells.lookup x = some c->∃ v, s.heap.IsCell c v
  free : H X.env.locals = none
  freeC : ∀ x c, X.env.cells.lookup x = some c->H c = none
  pin : ∀ p ∈ X.pn ++ pins, s.heap.get? p.1 = some p.2/\H p.1 = none/\p.1 ≠ X.env.locals/\p.1 ∉ X.fs/\∀ v, p.2.data ≠ .cell v
  hok : HOk X.prog X.w H s.heap
  len : σ.length = X.N.length
section
variable {X : Cx} {pins : List (Addr × Obj)} {σ : List (Option V)} {H H' : Hp} {s : Shared} {h' : Heap}
theorem Cx.Ok.nofr (ok : X.Ok) {b : Addr} {o : Obj} (e : X.base.get? b = some o) : b ∉ X.fs := fun hb => by
  have := (ok.funs.mem hb).1
  rw [e] at this; cases this
theorem Inv.bs (I : Inv X pins σ H s) : ∀ b o, X.base.get? b = some o->s.heap.get? b = some o/\H b = none := fun b o e =>
  ⟨I.base.keep b o (I.ok.bs b o e).1 (I.ok.bs b o e).2 (I.ok.nofr e) (I.ok.noex b o e), I.base.free b o (I.ok.bs b o e).1 (I.ok.bs b o e).2 (I.ok.noex b o e)⟩
theorem Inv.bk (I : Inv X pins σ H s) : ∀ b o, X.base.get? b = some o->s.heap.get? b = some o := fun b o e => (I.bs b o e).1
theorem Inv.mod (I : Inv X pins σ H s) : Mod X.K X.mg X.base := I.ok.mod
theorem Inv.kIn (I : Inv X pins σ H s) : X.K.In s.heap := I.ok.mod.kin.keeps I.bk
theorem Inv.lt (I : Inv X pins σ H s) : X.env.locals < s.heap.objs.size := let ⟨_, hn, _⟩ := I.loc; hn.lt
theorem Inv.sz (I : Inv X pins σ H s) : X.s₀.heap.objs.size ≤ s.heap.objs.size := Nat.le_trans I.ok.above (Nat.le_of_lt I.lt)
theorem Inv.nofs (I : Inv X pins σ H s) {a : Addr} (h : s.heap.objs.size ≤ a) : a ∉ X.fs := fun hb => by
  obtain ⟨_, o, ho, _⟩ := I.ok.funs.mem hb
  exact absurd (Nat.lt_of_lt_of_le (Heap.lt_size ho) (Nat.le_trans I.sz h)) (Nat.lt_irrefl _)
theorem Inv.cne (I : Inv X pins σ H s) : ∀ x c, X.env.cells.lookup x = some c->c ≠ X.env.locals := fun x c e z => by
  obtain ⟨v, o, ho, hd⟩ := I.cell x c e
  obtain ⟨m, ⟨o', es, ep, ho', hd', _⟩, _⟩ := I.loc
  rw [z, ho'] at ho; cases ho; rw [hd'] at hd; cases hd
theorem Inv.funs (I : Inv X pins σ H s) : s.heap.FunFrames X.base X.outer := by
  have all : ∀ (l : List Env), (∀ b ∈ frs l, b ∈ X.fs)->X.s₀.heap.FunFrames X.base l->s.heap.FunFrames X.base l := by
    intro l
    induction l with
    | nil => intro _ _; trivial
    | cons env r ih =>
      intro hs hl
      obtain ⟨hk, ⟨L, o, hf, hn, ho, hd⟩, hr⟩ := hl
      have hL : L ∈ X.fs := hs L (by unfold frs; rw [List.filterMap_cons, hf]; exact List.mem_cons_self)
      obtain ⟨sl, e⟩ := I.base.slot L o ho (I.ok.frf L hL) hL fun z => I.ok.exfs L z hL
      exact ⟨hk, ⟨L, _, hf, hn, e, hd⟩, ih (fun b hb => hs b (by unfold frs; rw [List.filterMap_cons, hf]; exact List.mem_cons_of_mem _ hb)) hr⟩
  exact all X.outer (fun _ hb => hb) I.ok.funs
theorem Inv.stack (I : Inv X pins σ H s) : s.heap.FunFrames X.base X.stack := by
  rcases I.ok.stk with e | ⟨e, hf⟩
  · rw [e]; exact I.funs
  · rw [e]
    obtain ⟨m, hn, _⟩ := I.loc
    refine .cons (by rw [I.ok.kind]; decide) hf hn ?_ I.funs
    exact Heap.get?_none_of_le (Nat.le_trans I.ok.bsz I.ok.above)
theorem Inv.stkSub (I : Inv X pins σ H s) : ∀ b ∈ frs X.stack, b ∈ X.env.locals :: X.fs := fun b hb => by
  rcases I.ok.stk with e | ⟨e, hf⟩
  · rw [e] at hb; exact List.mem_cons_of_mem _ hb
  · rw [e] at hb
    unfold frs at hb
    rw [List.filterMap_cons, hf] at hb
    exact hb
theorem Inv.stkFree (I : Inv X pins σ H s) : ∀ b ∈ frs X.stack, H b = none := fun b hb => by
  rcases List.mem_cons.mp (I.stkSub b hb) with e | hb
  · rw [e]; exact I.free
  · obtain ⟨_, o, ho, _⟩ := I.ok.funs.mem hb
    exact I.base.free b o ho (I.ok.frf b hb) fun z => I.ok.exfs b z hb
theorem Inv.step {g' : Array GenState} {t' : Nat} {d' : Drawn} {ch : List Addr} (I : Inv X pins σ H s) (hch : ∀ b ∈ ch, (b ∈ X.ex ∨ X.s₀.heap.objs.size ≤ b)/\b ≠ X.env.locals/\(∀ x c, X.env.cells.lookup x = some c->c ≠ b)/\∀ p ∈ X.pn ++ pins, p.1 ≠ b) (keep : ∀ b o, b ≠ X.env.locals->b ∉ X.fs->b ∉ ch->s.heap.get? b = some o->H b = none->h'.get? b = some o) (slot : ∀ b o, b ≠ X.env.locals->b ∈ X.fs->b ∉ ch->s.heap.get? b = some o->H b = none->∃ sl, h'.get? b = some { o with slots := sl }) (free : ∀ b o, b ∉ ch->s.heap.get? b = some o->H b = none->H' b = none)
    (there : ∀ b o, b ∉ ch->s.heap.get? b = some o->∃ o', h'.get? b = some o')
    (tups : ∀ b xs, H b = some (.tup xs)->H' b = some (.tup xs)) (frzs : ∀ b o u, H b = some (.frz o u)->H' b = some (.frz o u)) (tbls : ∀ b ps, H b = some (.tbl ps)->∃ more, H' b = some (.tbl (ps ++ more)))
    (ns : ∀ m, s.heap.Ns X.env.locals m->h'.Ns X.env.locals m) (hok : HOk X.prog X.w H' h') (hg : AllBare g') :
    Inv X pins σ H' { s with heap := h', gens := g', drawn := d', toks := t' } := by
  have neL : ∀ b o, X.s₀.heap.get? b = some o->b ≠ X.env.locals := fun b o e => Nat.ne_of_lt (Nat.lt_of_lt_of_le (Heap.lt_size e) I.ok.above)
  have neC : ∀ b o, X.s₀.heap.get? b = some o->b ∉ X.ex->b ∉ ch := fun b o e hx hb => by
    rcases (hch b hb).1 with z | z
    · exact hx z
    · exact absurd (Nat.lt_of_lt_of_le (Heap.lt_size e) z) (Nat.lt_irrefl _)
  have cellK : ∀ x c, X.env.cells.lookup x = some c->∀ v, s.heap.IsCell c v->h'.IsCell c v := fun x c e v ⟨o, ho, hd⟩ => by
    have nch : c ∉ ch := fun z => (hch c z).2.2.1 x c e rfl
    by_cases hc : c ∈ X.fs
    · obtain ⟨sl, q⟩ := slot c o (I.cne x c e) hc nch ho (I.freeC x c e)
      exact ⟨_, q, hd⟩
    · exact ⟨o, keep c o (I.cne x c e) hc nch ho (I.freeC x c e), hd⟩
  refine ⟨I.ok, I.os, hg, ⟨fun b o e n hb hx => ?_, fun b o e n hb hx => ?_, fun b o e n hx => ?_, fun b o e hx => ?_, fun b xs e => tups b xs (I.base.tups b xs e), fun b o xs e => frzs b o xs (I.base.frzs b o xs e), fun b ps e => ?_⟩, ?_, fun x c e => ?_, ?_, fun x c e => ?_, fun p hp => ?_, hok, I.len⟩
  · exact keep b o (neL b o e) hb (neC b o e hx) (I.base.keep b o e n hb hx) (I.base.free b o e n hx)
  · obtain ⟨sl, e1⟩ := I.base.slot b o e n hb hx
    obtain ⟨sl', e2⟩ := slot b _ (neL b o e) hb (neC b o e hx) e1 (I.base.free b o e n hx)
    exact ⟨sl', e2⟩
  · obtain ⟨o', e1⟩ := I.base.there b o e hx
    exact free b o' (neC b o e hx) e1 (I.base.free b o e n hx)
  · obtain ⟨o', e1⟩ := I.base.there b o e hx
    exact there b o' (neC b o e hx) e1
  · obtain ⟨m1, e1⟩ := I.base.tbls b ps e
    obtain ⟨m2, e2⟩ := tbls b _ e1
    exact ⟨m1 ++ m2, by rw [e2, Array.append_assoc]⟩
  · obtain ⟨m, hn, hl⟩ := I.loc
    refine ⟨m, ns m hn, fun i x v e1 e2 e3 => ?_⟩
    obtain ⟨u, r, l⟩ := hl i x v e1 e2 e3
    refine ⟨u, r, ?_⟩
    rcases l with l | ⟨k, c, e, z⟩
    · exact .inl l
    · exact .inr ⟨k, c, e, cellK x c e _ z⟩
  · obtain ⟨v, z⟩ := I.cell x c e
    exact ⟨v, cellK x c e v z⟩
  · obtain ⟨m, ⟨o, _, _, ho, _⟩, _⟩ := I.loc
    exact free _ o (fun z => (hch _ z).2.1 rfl) ho I.free
  · obtain ⟨v, o, ho, hd⟩ := I.cell x c e
    exact free c o (fun z => (hch c z).2.2.1 x c e rfl) ho (I.freeC x c e)
  · obtain ⟨e, n, ne, nf, d⟩ := I.pin p hp
    have nch : p.1 ∉ ch := fun z => (hch p.1 z).2.2.2 p hp rfl
    exact ⟨keep p.1 p.2 ne nf nch e n, free p.1 p.2 nch e n, ne, nf, d⟩
theorem Inv.un {t' : Nat} (I : Inv X pins σ H s) (u : Un X.fs [] H H' s.heap h') (hok : HOk X.prog X.w H' h') : Inv X pins σ H' { s with heap := h', toks := t' } := by
  obtain ⟨m, ⟨o, es, ep, ho, r⟩, _⟩ := id I.loc
  obtain ⟨sl, hL⟩ := u.any ho I.free (by simp)
  exact I.step (g' := s.gens) (d' := s.drawn) (ch := []) (fun _ z => nomatch z) (fun b o _ hb _ e n => u.keep b o e n hb (by simp)) (fun b o _ hb _ e n => u.slot b o e n hb (by simp)) (fun b o _ e n => u.free b o e n (by simp)) (fun b o _ e => u.there b o e (by simp)) u.tups u.frzs u.tbls (fun m' hm => by
    obtain ⟨o', es', ep', ho', r'⟩ := hm
    rw [ho] at ho'; cases ho'
    exact ⟨_, es', ep', hL, r'⟩) hok I.bare
theorem Inv.call {g' : Array GenState} {t' : Nat} {d' : Drawn} {ch : List Addr} (I : Inv X pins σ H s) (u : Un (frs X.stack) ch H H' s.heap h') (hok : HOk X.prog X.w H' h') (hg : AllBare g') (hch : ∀ b ∈ ch, (b ∈ X.ex ∨ X.s₀.heap.objs.size ≤ b)/\b ≠ X.env.locals/\(∀ x c, X.env.cells.lookup x = some c->c ≠ b)/\∀ p ∈ X.pn ++ pins, p.1 ≠ b) : Inv X pins σ H' { s with heap := h', gens := g', drawn := d', toks := t' } := by
  obtain ⟨m, ⟨o, es, ep, ho, r⟩, _⟩ := id I.loc
  obtain ⟨sl, hL⟩ := u.any ho I.free fun z => (hch _ z).2.1 rfl
  exact I.step (ch := ch) hch (fun b o hL hb hc e n => u.keep b o e n (fun z => (List.mem_cons.mp (I.stkSub b z)).elim hL hb) hc) (fun b o _ _ hc e n => u.any e n hc) (fun b o hc e n => u.free b o e n hc) (fun b o hc e => u.there b o e hc) u.tups u.frzs u.tbls (fun m' hm => by
    obtain ⟨o', es', ep', ho', r'⟩ := hm
    rw [ho] at ho'; cases ho'
    exact ⟨_, es', ep', hL, r'⟩) hok hg
theorem Inv.turned {t' : Nat} {it : Addr} (I : Inv X pins σ H s) (k : ∀ b o, b ≠ it->s.heap.get? b = some o->h'.get? b = some o) (hn : H it = none) (hL : it ≠ X.env.locals) (h1 : it ∈ X.ex ∨ X.s₀.heap.objs.size ≤ it) (h2 : ∀ x c, X.env.cells.lookup x = some c->c ≠ it) (h3 : ∀ p ∈ X.pn ++ pins, p.1 ≠ it) : Inv X pins σ H { s with heap := h', toks := t' } := by
  have nit : ∀ b u, H b = some u->b ≠ it := fun b u e z => by rw [z, hn] at e; cases e
  refine I.step (g' := s.gens) (d' := s.drawn) (ch := [it]) (fun b hb => ?_) (fun b o _ _ hc e _ => k b o (fun z => hc (by simp [z])) e) (fun b o _ _ hc e _ => ⟨o.slots, k b o (fun z => hc (by simp [z])) e⟩) (fun _ _ _ _ n => n)
    (fun b o hc e => ⟨o, k b o (fun z => hc (by simp [z])) e⟩) (fun _ _ e => e) (fun _ _ _ e => e) (fun b ps e => ⟨#[], by rw [e]; simp⟩) (fun m hm => ?_) (fun b u e => ?_) I.bare
  · have e : b = it := by simpa using hb
    subst e
    exact ⟨h1, hL, h2, h3⟩
  · obtain ⟨o, es, ep, ho, r⟩ := hm
    exact ⟨o, es, ep, k _ o (Ne.symm hL) ho, r⟩
  · refine (I.hok b u e).stay (fun c v hc q => k c v ?_ q) (fun _ q => q) fun _ _ _ q => q
    rcases hc with z | z
    · rw [z]; exact nit b u e
    · exact nit c _ z
theorem Inv.tok (I : Inv X pins σ H s) (t : Nat) : Inv X pins σ H { s with toks := t } := I.un (h' := s.heap) (t' := t) Un.refl I.hok
theorem Inv.kept {t' : Nat} (I : Inv X pins σ H s) (k : ∀ b u, s.heap.get? b = some u->h'.get? b = some u) : Inv X pins σ H { s with heap := h', toks := t' } := I.un (Un.kept k) (I.hok.kept k)
theorem Inv.laid {a : Addr} {o : HO} {t' : Nat} (I : Inv X pins σ H s) (k : ∀ b u, s.heap.get? b = some u->h'.get? b = some u) (hp : s.heap.objs.size ≤ a) (new : ObjOk X.prog X.w (upd H a o) h' a o) : Inv X pins σ (upd H a o) { s with heap := h', toks := t' } := I.un (Un.laid k hp (I.hok.fresh hp)) (I.hok.laid k hp new)
theorem Inv.write {x e : Addr} {o : HO} {t' : Nat} (I : Inv X pins σ H s) (mu : Mut (H x)) (he : e = x ∨ H e = some (.own x)) (k : ∀ b u, b ≠ e->s.heap.get? b = some u->h'.get? b = some u) (heo : ∃ u, h'.get? e = some u) (new : ObjOk X.prog X.w (upd H x o) h' x o) : Inv X pins σ (upd H x o) { s with heap := h', toks := t' } := I.un (Un.write mu he k heo) (I.hok.write mu he k heo new)
theorem Inv.weak {σ' : List (Option V)} (I : Inv X pins σ H s) (hl : σ'.length = σ.length) (w : ∀ (i : Nat) v, σ'[i]? = some (some v)->σ[i]? = some (some v)) : Inv X pins σ' H s :=
  ⟨I.ok, I.os, I.bare, I.base, let ⟨m, hn, hl'⟩ := I.loc; ⟨m, hn, fun i x v e1 e2 e3 => hl' i x v e1 (w i v e2) e3⟩, I.cell, I.free, I.freeC, I.pin, I.hok, hl.trans I.len⟩
theorem Inv.pins_of {pins' : List (Addr × Obj)} (I : Inv X pins σ H s) (h : ∀ p ∈ pins', s.heap.get? p.1 = some p.2/\H p.1 = none/\p.1 ≠ X.env.locals/\p.1 ∉ X.fs/\∀ v, p.2.data ≠ .cell v) : Inv X pins' σ H s :=
  ⟨I.ok, I.os, I.bare, I.base, I.loc, I.cell, I.free, I.freeC, fun p hp => (List.mem_append.mp hp).elim (fun z => I.pin p (List.mem_append_left _ z)) (h p), I.hok, I.len⟩
theorem nodup_ix {N : List Str} (hN : N.Nodup) {i j : Nat} {x : Str} (a : N[i]? = some x) (b : N[j]? = some x) : i = j := by
  obtain ⟨h1, e1⟩ := List.getElem?_eq_some_iff.mp a
  obtain ⟨h2, e2⟩ := List.getElem?_eq_some_iff.mp b
  exact (List.getElem_inj hN).mp (e1.trans e2.symm)
theorem store_ok2 {M : Model} {A : Around} {E : Value->Shared->Prop} {i : Nat} {x : Str} {v : V} {u : Value} {Q : Unit->Shared->Prop} (I : Inv X pins σ H s) (hN : X.N.Nodup) (hi : X.N[i]? = some x) (hx : Loc X.env.scope x) (r : RelV v u) (h : ∀ s', Inv X pins (σ.set i (some v)) H s'->(∃ a, Heap.SameBut a s.heap s'.heap/\(a = X.env.locals ∨ X.env.cells.lookup x = some a))->Q () s') (hf : X.fn x = true ∨ X.env.scope.names.lookup x = some .local := by first | exact .inl rfl | exact .inr rfl | assumption) : wpAny M A (storeName X.env x u) Q E s := by
  obtain ⟨m, hn, hl⟩ := id I.loc
  have hcls : (X.env.scope.kind == .class || (X.env.scope.kind == .module && X.env.locals != X.env.globals)) = false := by rw [I.ok.kind]; rfl
  have hiσ : i < σ.length := by rw [I.len]; exact (List.getElem?_eq_some_iff.mp hi).1
  have cne := I.cne
  have tracked : ∀ {a : Addr} {h' : Heap}, (∃ o, s.heap.get? a = some o/\H a = none)->Heap.SameBut a s.heap h'->HOk X.prog X.w H h' := fun {a h'} ha hs b ob e => by
    obtain ⟨_, _, hfree⟩ := ha
    refine (I.hok b ob e).stay (fun c w' hc q => (hs.2 c ?_).trans q) (fun _ q => q) fun _ _ _ q => q
    rintro rfl
    rcases hc with rfl | hc
    · rw [hfree] at e; cases e
    · rw [hfree] at hc; cases hc
  rcases hx with hk | hk
  · refine wpAny_storeName_local hk hn (fun h' hn' hs => ?_) hcls
    obtain ⟨oL, _, _, hoL, _⟩ := id hn
    refine h _ ⟨I.ok, I.os, I.bare, ⟨fun b o e n hb hx => ?_, fun b o e n hb hx => ?_, I.base.free, fun b o e hx => ?_, I.base.tups, I.base.frzs, I.base.tbls⟩, ⟨_, hn', fun j y v' e1 e2 e3 => ?_⟩, fun y c e => ?_, I.free, I.freeC, fun p hp => ?_, tracked ⟨oL, hoL, I.free⟩ hs, by simpa using I.len⟩ ⟨_, hs, .inl rfl⟩
    · exact (hs.2 b (Nat.ne_of_lt (Nat.lt_of_lt_of_le (Heap.lt_size e) I.ok.above))).trans (I.base.keep b o e n hb hx)
    · obtain ⟨sl, e1⟩ := I.base.slot b o e n hb hx
      exact ⟨sl, (hs.2 b (Nat.ne_of_lt (Nat.lt_of_lt_of_le (Heap.lt_size e) I.ok.above))).trans e1⟩
    · obtain ⟨o', e1⟩ := I.base.there b o e hx
      exact ⟨o', (hs.2 b (Nat.ne_of_lt (Nat.lt_of_lt_of_le (Heap.lt_size e) I.ok.above))).trans e1⟩
    · by_cases hj : j = i
      · subst hj
        rw [hi] at e1; cases e1
        rw [List.getElem?_set_self hiσ] at e2
        cases e2
        exact ⟨u, r, .inl ⟨hk, by simp⟩⟩
      · rw [List.getElem?_set_ne (Ne.symm hj)] at e2
        obtain ⟨u', r', q⟩ := hl j y v' e1 e2 e3
        refine ⟨u', r', ?_⟩
        rcases q with ⟨k, e⟩ | ⟨k, c, e, z⟩
        · refine .inl ⟨k, ?_⟩
          have : y ≠ x := fun e => hj (nodup_ix hN e1 (e ▸ hi))
          simp [this, e]
        · exact .inr ⟨k, c, e, z.sameBut hs (cne y c e)⟩
    · obtain ⟨w', z⟩ := I.cell y c e
      exact ⟨w', z.sameBut hs (cne y c e)⟩
    · obtain ⟨e, n, ne, nf, d⟩ := I.pin p hp
      exact ⟨(hs.2 p.1 ne).trans e, n, ne, nf, d⟩
  · have hfn : X.fn x = true := by
      rcases hf with z | z
      · exact z
      · rw [z] at hk; cases hk
    obtain ⟨c, hc⟩ := I.ok.has x (.inl hk)
    obtain ⟨w', z⟩ := I.cell x c hc
    refine wpAny_storeName_cell I.ok.kind hk hc z (fun h' hc' hs => ?_)
    obtain ⟨oc, hoc, hocd⟩ := id z
    refine h { s with heap := h' } ⟨I.ok, I.os, I.bare, ⟨fun b o e n hb hx => ?_, fun b o e n hb hx => ?_, I.base.free, fun b o e hx => ?_, I.base.tups, I.base.frzs, I.base.tbls⟩, ⟨m, hn.sameBut hs (Ne.symm (cne x c hc)), fun j y v' e1 e2 e3 => ?_⟩, fun y c' e => ?_, I.free, I.freeC, fun p hp => ?_, tracked ⟨oc, hoc, I.freeC x c hc⟩ hs, by simpa using I.len⟩ ⟨c, hs, .inr hc⟩
    · exact (hs.2 b (Nat.ne_of_lt (Nat.lt_of_lt_of_le (Heap.lt_size e) (I.ok.cab x c hfn hc)))).trans (I.base.keep b o e n hb hx)
    · obtain ⟨sl, e1⟩ := I.base.slot b o e n hb hx
      exact ⟨sl, (hs.2 b (Nat.ne_of_lt (Nat.lt_of_lt_of_le (Heap.lt_size e) (I.ok.cab x c hfn hc)))).trans e1⟩
    · obtain ⟨o', e1⟩ := I.base.there b o e hx
      exact ⟨o', (hs.2 b (Nat.ne_of_lt (Nat.lt_of_lt_of_le (Heap.lt_size e) (I.ok.cab x c hfn hc)))).trans e1⟩
    · by_cases hj : j = i
      · subst hj
        rw [hi] at e1; cases e1
        rw [List.getElem?_set_self hiσ] at e2
        cases e2
        exact ⟨u, r, .inr ⟨.inl hk, c, hc, hc'⟩⟩
      · rw [List.getElem?_set_ne (Ne.symm hj)] at e2
        obtain ⟨u', r', q⟩ := hl j y v' e1 e2 e3
        refine ⟨u', r', ?_⟩
        rcases q with q | ⟨k, c', e, z'⟩
        · exact .inl q
        · refine .inr ⟨k, c', e, z'.sameBut hs ?_⟩
          rintro rfl
          exact hj (nodup_ix hN e1 (I.ok.inj _ _ _ e hc ▸ hi))
    · by_cases hcc : c' = c
      · subst hcc; exact ⟨_, hc'⟩
      · obtain ⟨w2, z2⟩ := I.cell y c' e
        exact ⟨w2, z2.sameBut hs hcc⟩
    · obtain ⟨e, n, ne, nf, d⟩ := I.pin p hp
      refine ⟨(hs.2 p.1 ?_).trans e, n, ne, nf, d⟩
      intro q
      rw [q, hoc] at e
      have q' : oc = p.2 := Option.some.inj e
      exact d w' (by rw [← q']; exact hocd)
theorem store_ok {M : Model} {A : Around} {E : Value->Shared->Prop} {i : Nat} {x : Str} {v : V} {u : Value} {Q : Unit->Shared->Prop} (I : Inv X pins σ H s) (hN : X.N.Nodup) (hi : X.N[i]? = some x) (hx : Loc X.env.scope x) (r : RelV v u) (h : ∀ s', Inv X pins (σ.set i (some v)) H s'->Q () s') (hf : X.fn x = true ∨ X.env.scope.names.lookup x = some .local := by first | exact .inl rfl | exact .inr rfl | assumption) : wpAny M A (storeName X.env x u) Q E s :=
  store_ok2 I hN hi hx r (fun s' I' _ => h s' I') hf
theorem Inv.call' {s' : Shared} {ch : List Addr} (I : Inv X pins σ H s) (ho : s'.os = s.os) (u : Un (frs X.stack) ch H H' s.heap s'.heap) (hok : HOk X.prog X.w H' s'.heap) (hg : AllBare s'.gens) (hch : ∀ b ∈ ch, (b ∈ X.ex ∨ X.s₀.heap.objs.size ≤ b)/\b ≠ X.env.locals/\(∀ x c, X.env.cells.lookup x = some c->c ≠ b)/\∀ p ∈ X.pn ++ pins, p.1 ≠ b) : Inv X pins σ H' s' := by
  obtain ⟨h', g', d', t', o'⟩ := s'
  have e : o' = s.os := ho
  subst e
  exact I.call (g' := g') (t' := t') (d' := d') u hok hg hch
end
abbrev XK := Value->Option Addr->Hp->Prop
abbrev St := List (Option V)
abbrev VK := V->Hp->Prop
abbrev TE := St->Hp->VK->Prop
abbrev TT := St->Hp->(Bool->Hp->Prop)->Prop
abbrev TA := St->Hp->(List V->Hp->Prop)->Prop
structure Ends where
  nx : St->Hp->Prop
  rt : VK
  bk : St->Hp->Prop := fun _ _ => False
  ct : St->Hp->Prop := fun _ _ => False
abbrev TS := Ends->St->Hp->Prop
def EP (X : Cx) (pins : List (Addr × Obj)) (σ : St) (Q : VK) (u : Value) (s' : Shared) : Prop := ∃ v H', Inv X pins σ H' s'/\RelV v u/\Q v H'
def TP (X : Cx) (pins : List (Addr × Obj)) (σ : St) (Q : Bool->Hp->Prop) (b : Bool) (s' : Shared) : Prop := ∃ H', Inv X pins σ H' s'/\Q b H'
def AP (X : Cx) (pins : List (Addr × Obj)) (σ : St) (Q : List V->Hp->Prop) (us : List Value) (s' : Shared) : Prop := ∃ vs H', Inv X pins σ H' s'/\Vals vs us/\Q vs H'
def SP (X : Cx) (pins : List (Addr × Obj)) (D : Ends) (f : Flow) (s' : Shared) : Prop :=
  match f with
  | .next => ∃ σ' H', Inv X pins σ' H' s'/\D.nx σ' H'
  | .brk => ∃ σ' H', Inv X pins σ' H' s'/\D.bk σ' H'
  | .cont => ∃ σ' H', Inv X pins σ' H' s'/\D.ct σ' H'
  | .ret u => ∃ v σ' H', Inv X pins σ' H' s'/\RelV v u/\D.rt v H'
def PE (X : Cx) (e : Expr) (t : TE) : Prop :=
  ∀ (pins : List (Addr × Obj)) (s : Shared) (σ : St) (H : Hp) (Q : VK), Inv X pins σ H s->t σ H Q->wpAny (model X.prog X.w) X.A (eval e X.env) (EP X pins σ Q) X.xe s
def PT (X : Cx) (e : Expr) (t : TT) : Prop :=
  ∀ (pins : List (Addr × Obj)) (s : Shared) (σ : St) (H : Hp) (Q : Bool->Hp->Prop), Inv X pins σ H s->t σ H Q->wpAny (model X.prog X.w) X.A (isTrue e X.env (eval e X.env)) (TP X pins σ Q) X.xe s
def PW (X : Cx) (e : Expr) (t : TT) : Prop :=
  ∀ (whole : Sem Value) (pins : List (Addr × Obj)) (s : Shared) (σ : St) (H : Hp) (Q : Bool->Hp->Prop), Inv X pins σ H s->t σ H Q->wpAny (model X.prog X.w) X.A (isTrue e X.env whole) (TP X pins σ Q) X.xe s
theorem PW.pt {X : Cx} {e : Expr} {t : TT} (h : PW X e t) : PT X e t := h _
def PA (X : Cx) (es : List Expr) (t : TA) : Prop :=
  ∀ (pos : Pos) (pins : List (Addr × Obj)) (s : Shared) (σ : St) (H : Hp) (Q : List V->Hp->Prop), Inv X pins σ H s->t σ H Q->wpAny (model X.prog X.w) X.A (spliced (backTo pos (starEach es X.env))) (AP X pins σ Q) X.xe s
def PS (X : Cx) (st : Stmt) (t : TS) : Prop :=
  ∀ (pins : List (Addr × Obj)) (s : Shared) (σ : St) (H : Hp) (D : Ends), Inv X pins σ H s->t D σ H->wpAny (model X.prog X.w) X.A (exec st X.env) (SP X pins D) X.xe s
def PSs (X : Cx) (st : List Stmt) (t : TS) : Prop :=
  ∀ (pins : List (Addr × Obj)) (s : Shared) (σ : St) (H : Hp) (D : Ends), Inv X pins σ H s->t D σ H->wpAny (model X.prog X.w) X.A (execs st X.env) (SP X pins D) X.xe s
theorem thn {α : Type} {t : Sem α} {Q Q' : α->Shared->Prop} {M : Model} {A : Around} {E : Value->Shared->Prop} {s : Shared} (h : wpAny M A t Q E s) (hQ : ∀ a s, Q a s->Q' a s) : wpAny M A t Q' E s := wpAny_mono h hQ fun _ _ x => x
end L2
namespace L2
open PySem PySem.Spec PyProof.Rows
section
variable {X : Cx}
def tVar (i : Nat) : TE := fun σ H Q => ∃ v, σ[i]? = some (some v)/\Q v H
def tC (v : V) : TE := fun _ H Q => Q v H
theorem pe_var {i : Nat} {x : Str} {pos : Pos} (hN : X.N[i]? = some x) (hv : Vis X.env.scope x) (hd : (x == ("__debug__" : Str)) = false := by decide) (hcd : (x == ("__classdict__" : Str)) = false := by decide) : PE X (.Name x pos) (tVar i) := by
  intro pins s σ H Q I h
  obtain ⟨v, e, h⟩ := h
  obtain ⟨m, hn, hl⟩ := I.loc
  obtain ⟨u, r, l⟩ := hl i x v hN e hv
  have fin : EP X pins σ Q u s := ⟨v, H, I, r, h⟩
  rcases l with ⟨hk, hm⟩ | ⟨hk, c, hc, hcell⟩
  · exact wpAny_Name (wpAny_loadName_local I.ok.kind hk hn hm fin) hd
  · rcases hk with hk | hk
    · exact wpAny_Name (wpAny_loadName_cell I.ok.kind hk hc hcell fin) hd
    · exact wpAny_Name (wpAny_loadName_free I.ok.kind hk hc hcell fin hcd) hd
theorem pe_int {i j pos} : PE X (.Constant (.int i) j pos) (tC (.int i)) := fun _ _ _ H _ I h => wpAny_Constant_int ⟨.int i, H, I.tok _, ⟨_, rfl⟩, h⟩
theorem pe_bl {b j pos} : PE X (.Constant (.bool b) j pos) (tC (.bl b)) := fun _ _ _ H _ I h => Constant_bool ⟨.bl b, H, I, rfl, h⟩
theorem pe_non {j pos} : PE X (.Constant .none j pos) (tC .non) := fun _ _ _ H _ I h => Constant_none ⟨.non, H, I, rfl, h⟩
theorem pe_str {x j pos} : PE X (.Constant (.str x) j pos) (tC (.str x)) := fun _ _ _ H _ I h => Calls.Constant_str ⟨.str x, H, I.tok _, ⟨_, rfl⟩, h⟩
def Gl (X : Cx) (x : Str) : Prop := X.env.kindOf x = some .globalImplicit
theorem ld_glob {E : Value->Shared->Prop} {pins : List (Addr × Obj)} {s : Shared} {σ : St} {H : Hp} {x : Str} {u : Value} {pos : Pos} {Q : Value->Shared->Prop} (I : Inv X pins σ H s) (hg : Gl X x) (hm : X.mg x = some u) (h : Q u s) (hd : (x == ("__debug__" : Str)) = false := by decide) : wpAny (model X.prog X.w) X.A (eval (.Name x pos) X.env) Q E s :=
  Calls.Name_function_global I.ok.kind hg (Calls.loadGlobal_global (by rw [I.ok.glob]; exact I.mod.glob.keeps I.bk) hm h) hd
theorem ld_blt {E : Value->Shared->Prop} {pins : List (Addr × Obj)} {s : Shared} {σ : St} {H : Hp} {x : Str} {u : Value} {pos : Pos} {Q : Value->Shared->Prop} (I : Inv X pins σ H s) (hg : Gl X x) (hm : X.mg x = none) (hv : bootBuiltins x = some u) (h : Q u s) (hn : x ≠ "__name__" := by decide) (hd : (x == ("__debug__" : Str)) = false := by decide) : wpAny (model X.prog X.w) X.A (eval (.Name x pos) X.env) Q E s := by
  obtain ⟨mb, h1, h2⟩ := I.mod.blt
  exact Calls.Name_function_global I.ok.kind hg (Calls.loadGlobal_builtin (by rw [I.ok.glob]; exact I.mod.glob.keeps I.bk) hm (by rw [I.ok.blt]; exact h1.keeps I.bk) ((h2 x hn).trans hv) h) hd
theorem pe_glob {x : Str} {v : V} {u : Value} {pos : Pos} (hg : Gl X x) (hm : X.mg x = some u) (r : RelV v u) (hd : (x == ("__debug__" : Str)) = false := by decide) : PE X (.Name x pos) (tC v) :=
  fun _ _ _ H _ I h => ld_glob I hg hm ⟨v, H, I, r, h⟩ hd
theorem pe_bltn {x : Str} {v : V} {u : Value} {pos : Pos} (hg : Gl X x) (hm : X.mg x = none) (hv : bootBuiltins x = some u) (r : RelV v u) (hn : x ≠ "__name__" := by decide) (hd : (x == ("__debug__" : Str)) = false := by decide) : PE X (.Name x pos) (tC v) :=
  fun _ _ _ H _ I h => ld_blt I hg hm hv ⟨v, H, I, r, h⟩ hn hd
variable {a b : Expr} {ta tb : TE} {pos : Pos}
def PC (X : Cx) (op : CmpOp) (a b : Expr) (t : TE) : Prop :=
  ∀ (pins : List (Addr × Obj)) (s : Shared) (σ : St) (H : Hp) (Q : VK), Inv X pins σ H s->t σ H Q →
    wpAny (model X.prog X.w) X.A (eval a X.env) (fun v s₁ => wpAny (model X.prog X.w) X.A (eval b X.env) (fun u s₂ => wpAny (model X.prog X.w) X.A (compareOp op v u) (EP X pins σ Q) X.xe s₂) X.xe s₁) X.xe s
def tB (t : TE) : TT := fun σ H Q => t σ H fun x H1 => ∃ c, x = .bl c/\Q c H1
theorem pt_cmp {op : CmpOp} {t : TE} (h : PC X op a b t) (h1 : behindInMarks op b = false := by first | exact nobehind _ (by decide) (by decide) | rfl) : PT X (.Compare a [op] [b] pos) (tB t) := by
  intro pins s σ H Q I hw
  refine wpAny_isTrue_Compare1 (thn (h pins s σ H _ I hw) fun v s1 h1 => thn h1 fun u s2 h2 => thn h2 fun c s3 ⟨x, H1, I1, r1, q1⟩ => ?_) h1
  obtain ⟨d, rfl, q⟩ := q1
  cases r1
  exact wpAny_truthy_bool ⟨H1, I1, q⟩
theorem pt_val {e : Expr} {t : TE} (h : PE X e t) (he : ∀ whole, isTrue e X.env whole = (do let v ← whole; standAt e.pos; holding [v] (truthy v)) := by intro _; rfl) : PT X e (tB t) := by
  intro pins s σ H Q I hw
  refine isTrue_plain (thn (h pins s σ H _ I hw) fun v s1 ⟨x, H1, I1, r1, q1⟩ => ?_) (he _)
  obtain ⟨d, rfl, q⟩ := q1
  cases r1
  exact wpAny_truthy_bool ⟨H1, I1, q⟩
variable {tA tB' : TT} {rest : List Expr}
def tAnd (t u : TT) : TT := fun σ H Q => t σ H fun c H1 => if c = true then u σ H1 Q else Q false H1
def tOr (t u : TT) : TT := fun σ H Q => t σ H fun c H1 => if c = true then Q true H1 else u σ H1 Q
def tNot (t : TT) : TT := fun σ H Q => t σ H fun c H1 => Q (!c) H1
theorem pw_and1 (ha : PT X a tA) : PW X (.BoolOp .And [a] pos) tA := by
  intro wh pins s σ H Q I h
  refine isTrue_and (thn (ha pins s σ H Q I h) fun c s1 e => ?_)
  cases c with
  | true => exact isTrue_and_nil e
  | false => exact e
theorem pw_or1 (ha : PT X a tA) : PW X (.BoolOp .Or [a] pos) tA := by
  intro wh pins s σ H Q I h
  refine isTrue_or (thn (ha pins s σ H Q I h) fun c s1 e => ?_)
  cases c with
  | false => exact isTrue_or_nil e
  | true => exact e
theorem pw_and (ha : PT X a tA) (hb : PW X (.BoolOp .And (b :: rest) pos) tB') : PW X (.BoolOp .And (a :: b :: rest) pos) (tAnd tA tB') := by
  intro wh pins s σ H Q I h
  refine isTrue_and (thn (ha pins s σ H _ I h) fun c s1 ⟨H1, I1, q1⟩ => ?_)
  cases c with
  | true => exact hb wh pins s1 σ H1 Q I1 q1
  | false => exact ⟨H1, I1, q1⟩
theorem pw_or (ha : PT X a tA) (hb : PW X (.BoolOp .Or (b :: rest) pos) tB') : PW X (.BoolOp .Or (a :: b :: rest) pos) (tOr tA tB') := by
  intro wh pins s σ H Q I h
  refine isTrue_or (thn (ha pins s σ H _ I h) fun c s1 ⟨H1, I1, q1⟩ => ?_)
  cases c with
  | true => exact ⟨H1, I1, q1⟩
  | false => exact hb wh pins s1 σ H1 Q I1 q1
theorem pt_not (ha : PT X a tA) : PT X (.UnaryOp .Not a pos) (tNot tA) := by
  intro pins s σ H Q I h
  exact isTrue_not (ha pins s σ H (fun c H1 => Q (!c) H1) I h)
def tAndV (ta tb : TE) : TE := fun σ H Q => ta σ H fun x H1 => ∃ c, x = .bl c/\if c = true then tb σ H1 Q else Q (.bl false) H1
def tOrV (ta tb : TE) : TE := fun σ H Q => ta σ H fun x H1 => ∃ c, x = .bl c/\if c = true then Q (.bl true) H1 else tb σ H1 Q
def tNotV (ta : TE) : TE := fun σ H Q => ta σ H fun x H1 => ∃ c, x = .bl c/\Q (.bl (!c)) H1
theorem pe_one {op} {t : TE} (h : PE X a t) : PE X (.BoolOp op [a] pos) t := fun pins s σ H Q I hw => BoolOp_one (h pins s σ H Q I hw)
theorem pe_and (ha : PE X a ta) (hb : PE X (.BoolOp .And (b :: rest) pos) tb) : PE X (.BoolOp .And (a :: b :: rest) pos) (tAndV ta tb) := by
  intro pins s σ H Q I h
  refine BoolOp_and (thn (ha pins s σ H _ I h) fun v s1 ⟨x, H1, I1, r1, q1⟩ => ?_)
  obtain ⟨c, rfl, q1⟩ := q1
  cases r1
  refine wpAny_truthy_bool ?_
  cases c with
  | true => exact hb pins s1 σ H1 Q I1 q1
  | false => exact ⟨.bl false, H1, I1, rfl, q1⟩
theorem pe_or (ha : PE X a ta) (hb : PE X (.BoolOp .Or (b :: rest) pos) tb) : PE X (.BoolOp .Or (a :: b :: rest) pos) (tOrV ta tb) := by
  intro pins s σ H Q I h
  refine BoolOp_or (thn (ha pins s σ H _ I h) fun v s1 ⟨x, H1, I1, r1, q1⟩ => ?_)
  obtain ⟨c, rfl, q1⟩ := q1
  cases r1
  refine wpAny_truthy_bool ?_
  cases c with
  | false => exact hb pins s1 σ H1 Q I1 q1
  | true => exact ⟨.bl true, H1, I1, rfl, q1⟩
theorem pe_not (ha : PE X a ta) : PE X (.UnaryOp .Not a pos) (tNotV ta) := by
  intro pins s σ H Q I h
  refine UnaryOp_ (thn (ha pins s σ H _ I h) fun v s1 ⟨x, H1, I1, r1, q1⟩ => ?_)
  obtain ⟨c, rfl, q1⟩ := q1
  cases r1
  exact not_of (wpAny_truthy_bool ⟨.bl (!c), H1, I1, rfl, q1⟩)
end
end L2
namespace L2
open PySem PySem.Spec PyProof.Rows
def SqL (K : PySem.W.Frag) (H : Hp) (a : Addr) (xs : List V) : Prop :=
  Rd H a (.lst xs) ∨
    ∃ (o : Obj) (its : Array Value) (n : Nat), K.lookup a = some o/\o.cls = .type "list"/\o.dict = none/\o.data = .seq its n/\its.size ≤ sizeLine/\Vals xs its.toList
def SqT (K : PySem.W.Frag) (H : Hp) (a : Addr) (xs : List V) : Prop :=
  Rd H a (.tup xs) ∨
    ∃ (o : Obj) (its : Array Value) (n : Nat), K.lookup a = some o/\o.cls = .type "tuple"/\o.data = .seq its n/\its.size ≤ sizeLine/\Vals xs its.toList
def absV : Value->Option V
  | .none => some .non
  | .bool b => some (.bl b)
  | .int i _ => some (.int i)
  | .str x _ => some (.str x)
  | .bytes b _ => some (.byt b)
  | .float b _ => some (.flt b)
  | .ref a => some (.ref a)
  | .type n => some (.ty n)
  | _ => none
theorem RelV.abs {x : V} {u : Value} (r : RelV x u) : absV u = some x := by
  cases x with
  | non => cases r; rfl
  | bl _ => cases r; rfl
  | int _ => obtain ⟨t, rfl⟩ := r; rfl
  | str _ => obtain ⟨t, rfl⟩ := r; rfl
  | byt _ => obtain ⟨t, rfl⟩ := r; rfl
  | flt _ => obtain ⟨t, rfl⟩ := r; rfl
  | ref _ => cases r; rfl
  | ty _ => cases r; rfl
theorem RelV.inj {x y : V} {u : Value} (r : RelV x u) (q : RelV y u) : x = y := Option.some.inj (r.abs.symm.trans q.abs)
theorem Vals.inj : ∀ {xs ys : List V} {us : List Value}, Vals xs us->Vals ys us->xs = ys
  | _, _, _, .nil, .nil => rfl
  | _, _, _, .cons r t, .cons r' t' => by rw [r.inj r', Vals.inj t t']
section
variable {X : Cx} {pins : List (Addr × Obj)} {σ : St} {H : Hp} {s : Shared} {a : Addr} {xs ys : List V}
theorem SqL.of {K : PySem.W.Frag} (h : H a = some (.lst xs)) : SqL K H a xs := .inl (.inl h)
theorem SqT.of {K : PySem.W.Frag} (h : H a = some (.tup xs)) : SqT K H a xs := .inl (.inl h)
theorem Inv.list (I : Inv X pins σ H s) (h : SqL X.K H a xs) : ∃ its : List Value, Vals xs its/\PlainL s.heap a its.toArray/\xs.length ≤ sizeLine := by
  rcases h with h | ⟨o, its, n, hk, hc, hd, hs, hz, r⟩
  · obtain ⟨z, its, n, r, e⟩ := h.ok I.hok
    exact ⟨its, r, ⟨_, n, e, rfl, rfl, rfl⟩, z⟩
  · refine ⟨its.toList, r, ⟨o, n, I.kIn a o hk, hc, hd, by simpa using hs⟩, ?_⟩
    have e := r.length
    simp only [Array.length_toList] at e
    omega
theorem Inv.tuple (I : Inv X pins σ H s) (h : SqT X.K H a xs) : ∃ its : List Value, Vals xs its/\IsTup s.heap a its.toArray/\xs.length ≤ sizeLine := by
  rcases h with h | ⟨o, its, n, hk, hc, hs, hz, r⟩
  · obtain ⟨z, its, r, p⟩ := h.ok I.hok
    exact ⟨its, r, p, z⟩
  · refine ⟨its.toList, r, ⟨o, I.kIn a o hk, hc, n, by simpa using hs⟩, ?_⟩
    have e := r.length
    simp only [Array.length_toList] at e
    omega
theorem Inv.list_inj (I : Inv X pins σ H s) (h : SqL X.K H a xs) (h' : SqL X.K H a ys) : xs = ys := by
  obtain ⟨its, r, ⟨o, n, e, _, _, d⟩, _⟩ := I.list h
  obtain ⟨its', r', ⟨o', n', e', _, _, d'⟩, _⟩ := I.list h'
  rw [e] at e'; cases e'
  rw [d] at d'
  injection d' with d1 _
  have : its = its' := by simpa using congrArg Array.toList d1
  subst this
  exact r.inj r'
end
abbrev Cx.wish (X : Cx) (E : Value->Shared->Prop) : Cx := { X with xe := E }
abbrev Cx.nox (X : Cx) : Cx := X.wish fun _ _ => False
theorem Cx.Ok.wish {X : Cx} (ok : X.Ok) (E : Value->Shared->Prop) : (X.wish E).Ok :=
  ⟨ok.mod, ok.kind, ok.glob, ok.blt, ok.above, ok.inj, ok.has, ok.cab, ok.hd, ok.frames, ok.stk, ok.exf, ok.bs, ok.bsz, ok.noex, ok.exfs, ok.funs, ok.frf⟩
theorem Cx.Ok.unwish {X : Cx} {E : Value->Shared->Prop} (ok : (X.wish E).Ok) : X.Ok :=
  ⟨ok.mod, ok.kind, ok.glob, ok.blt, ok.above, ok.inj, ok.has, ok.cab, ok.hd, ok.frames, ok.stk, ok.exf, ok.bs, ok.bsz, ok.noex, ok.exfs, ok.funs, ok.frf⟩
section
variable {X : Cx} {pins : List (Addr × Obj)} {σ : St} {H : Hp} {s : Shared} {E : Value->Shared->Prop}
theorem Inv.wish (I : Inv X pins σ H s) (E : Value->Shared->Prop) : Inv (X.wish E) pins σ H s := ⟨I.ok.wish E, I.os, I.bare, I.base, I.loc, I.cell, I.free, I.freeC, I.pin, I.hok, I.len⟩
theorem Inv.unwish (I : Inv (X.wish E) pins σ H s) : Inv X pins σ H s := ⟨I.ok.unwish, I.os, I.bare, I.base, I.loc, I.cell, I.free, I.freeC, I.pin, I.hok, I.len⟩
theorem SP.unwish {D : Ends} {f : Flow} {s' : Shared} (h : SP (X.wish E) pins D f s') : SP X pins D f s' := by
  cases f with
  | next => obtain ⟨σ', H', I, q⟩ := h; exact ⟨σ', H', I.unwish, q⟩
  | brk => obtain ⟨σ', H', I, q⟩ := h; exact ⟨σ', H', I.unwish, q⟩
  | cont => obtain ⟨σ', H', I, q⟩ := h; exact ⟨σ', H', I.unwish, q⟩
  | ret u => obtain ⟨v, σ', H', I, r, q⟩ := h; exact ⟨v, σ', H', I.unwish, r, q⟩
theorem PT.nox {e : Expr} {t : TT} (h : PT X.nox e t) : PT X e t := fun pins s σ H Q I hw =>
  wpAny_mono (h pins s σ H Q (I.wish _) hw) (fun _ _ ⟨H', I', q⟩ => ⟨H', I'.unwish, q⟩) fun _ _ z => False.elim z
theorem PSs.nox {st : List Stmt} {t : TS} (h : PSs X.nox st t) : PSs X st t := fun pins s σ H D I hw =>
  wpAny_mono (h pins s σ H D (I.wish _) hw) (fun _ _ q => q.unwish) fun _ _ z => False.elim z
end
section
variable {X : Cx} {st : Stmt} {rest : List Stmt} {t u : TS} {e : Expr} {te : TE} {pos : Pos}
def tNext : TS := fun D σ H => D.nx σ H
def tSeq (t u : TS) : TS := fun D σ H => t { D with nx := u D } σ H
theorem pss_nil : PSs X [] tNext := fun _ _ σ H _ I h => wpAny_execs_nil ⟨σ, H, I, h⟩
theorem pss_cons (h1 : PS X st t) (h2 : PSs X rest u) : PSs X (st :: rest) (tSeq t u) := by
  intro pins s σ H D I h
  refine wpAny_execs_cons (thn (h1 pins s σ H { D with nx := u D } I h) fun f s1 q => ?_)
  cases f with
  | next =>
    obtain ⟨σ', H', I', q⟩ := q
    exact h2 pins s1 σ' H' D I' q
  | ret v => exact q
  | brk => exact q
  | cont => exact q
theorem pss_one (h1 : PS X st t) : PSs X [st] t := by
  intro pins s σ H D I h
  refine wpAny_execs_cons (thn (h1 pins s σ H D I h) fun f s1 q => ?_)
  cases f with
  | next => exact wpAny_execs_nil q
  | ret v => exact q
  | brk => exact q
  | cont => exact q
theorem Inv.quiet {pins : List (Addr × Obj)} {σ : St} {H : Hp} {s : Shared} (I : Inv X pins σ H s) : interactive X.env = false := by simp [interactive, I.ok.kind]
def tDrop (te : TE) : TS := fun D σ H => te σ H fun _ H1 => D.nx σ H1
theorem ps_expr (he : PE X e te) (hs : swapsWith e none pos.line X.env = pure false := by rfl) : PS X (.Expr e pos) (tDrop te) := by
  intro pins s σ H D I h
  exact wpAny_Expr_any (thn (he pins s σ H _ I h) fun v s1 ⟨x, H1, I1, r1, q1⟩ => ⟨σ, H1, I1, q1⟩) I.quiet hs
def tRet (te : TE) : TS := fun D σ H => te σ H D.rt
theorem ps_ret (he : PE X e te) : PS X (.Return (some e) pos) (tRet te) := by
  intro pins s σ H D I h
  exact wpAny_Return_some (thn (he pins s σ H _ I h) fun v s1 ⟨x, H1, I1, r1, q1⟩ => ⟨x, σ, H1, I1, r1, q1⟩)
def tIfS (c : TT) (t u : TS) : TS := fun D σ H => c σ H fun b H1 => if b = true then t D σ H1 else u D σ H1
theorem ps_if {c : Expr} {a b : List Stmt} {tc : TT} (hc : PT X c tc) (ha : PSs X a t) (hb : PSs X b u) : PS X (.If c a b pos) (tIfS tc t u) := by
  intro pins s σ H D I h
  refine wpAny_If (thn (hc pins s σ H _ I h) fun d s1 ⟨H1, I1, q1⟩ => ?_)
  cases d with
  | true => exact ha pins s1 σ H1 D I1 q1
  | false => exact hb pins s1 σ H1 D I1 q1
end
abbrev TG := V->St->Hp->(St->Hp->Prop)->Prop
abbrev TGs := List V->St->Hp->(St->Hp->Prop)->Prop
def PG (X : Cx) (target : Expr) (t : TG) : Prop :=
  ∀ (pins : List (Addr × Obj)) (s : Shared) (σ : St) (H : Hp) (v : V) (u : Value) (Q : St->Hp->Prop), Inv X pins σ H s->RelV v u->t v σ H Q →
    wpAny (model X.prog X.w) X.A (assign target X.env u) (fun _ s' => ∃ σ' H', Inv X pins σ' H' s'/\Q σ' H') X.xe s
def PGs (X : Cx) (ts : List Expr) (t : TGs) : Prop :=
  ∀ (pins : List (Addr × Obj)) (s : Shared) (σ : St) (H : Hp) (vs : List V) (us : List Value) (Q : St->Hp->Prop), Inv X pins σ H s->Vals vs us->t vs σ H Q →
    wpAny (model X.prog X.w) X.A (assignInOrder ((assignEach ts X.env).map (·.2)) us) (fun _ s' => ∃ σ' H', Inv X pins σ' H' s'/\Q σ' H') X.xe s
abbrev TSet := V->V->V->Hp->(Hp->Prop)->Prop
def PSet (X : Cx) (t : TSet) : Prop :=
  ∀ (pins : List (Addr × Obj)) (s : Shared) (σ : St) (H : Hp) (o i v : V) (ov iv u : Value) (Q : Hp->Prop), Inv X pins σ H s->RelV o ov->RelV i iv->RelV v u->t o i v H Q →
    wpAny (model X.prog X.w) X.A (setItem ov iv u) (fun _ s' => ∃ H', Inv X pins σ H' s'/\Q H') X.xe s
abbrev TIp := V->V->Hp->VK->Prop
def PIp (X : Cx) (op : Operator) (t : TIp) : Prop :=
  ∀ (pins : List (Addr × Obj)) (s : Shared) (σ : St) (H : Hp) (x y : V) (v u : Value) (Q : VK), Inv X pins σ H s->RelV x v->RelV y u->t x y H Q →
    wpAny (model X.prog X.w) X.A (inplaceOp op v u) (EP X pins σ Q) X.xe s
section
variable {X : Cx} {pos : Pos}
def gName (i : Nat) : TG := fun v σ H Q => Q (σ.set i (some v)) H
theorem pg_name {i : Nat} {x : Str} (hN : X.N.Nodup) (hi : X.N[i]? = some x) (hx : Loc X.env.scope x) (hf : X.fn x = true ∨ X.env.scope.names.lookup x = some .local := by first | exact .inl rfl | exact .inr rfl | assumption) : PG X (.Name x pos) (gName i) := by
  intro pins s σ H v u Q I r h
  exact wpAny_assign_Name (store_ok I hN hi hx r (fun s' I' => ⟨_, H, I', h⟩) hf)
def gNil : TGs := fun vs σ H Q => vs = []/\Q σ H
def gCons (t : TG) (u : TGs) : TGs := fun vs σ H Q => ∃ v r, vs = v :: r/\t v σ H fun σ' H' => u r σ' H' Q
theorem pgs_nil : PGs X [] gNil := by
  intro pins s σ H vs us Q I r h
  obtain ⟨e, h⟩ := h
  subst e
  cases r
  exact assignInOrder_nil ⟨σ, H, I, h⟩
theorem pgs_cons {e : Expr} {es : List Expr} {t : TG} {u : TGs} (h1 : PG X e t) (h2 : PGs X es u) (hs : (assignEach (e :: es) X.env).map (·.2) = assign e X.env :: (assignEach es X.env).map (·.2) := by rfl) : PGs X (e :: es) (gCons t u) := by
  intro pins s σ H vs us Q I r h
  obtain ⟨v, vr, e1, h⟩ := h
  subst e1
  cases r with
  | cons r rr =>
    rw [hs]
    refine assignInOrder_cons (thn (h1 pins s σ H _ _ _ I r h) fun _ s1 ⟨σ1, H1, I1, q1⟩ => ?_)
    exact h2 pins s1 σ1 H1 _ _ Q I1 rr q1
def gTup (K : PySem.W.Frag) (n : Nat) (t : TGs) : TG := fun v σ H Q => ∃ a xs, v = .ref a/\SqT K H a xs/\xs.length = n/\t xs σ H Q
theorem pg_tup {es : List Expr} {k : Nat} {t : TGs} {n : Nat} (hc : X.calm = true) (h : PGs X es t) (hn : (assignEach es X.env).length = n := by rfl) (hst : (assignEach es X.env).findIdx? (·.1) = none := by rfl) : PG X (.Tuple es k pos) (gTup X.K n t) := by
  intro pins s σ H v u Q I r hw
  obtain ⟨a, xs, e1, hq, hl, hw⟩ := hw
  subst e1
  cases r
  obtain ⟨its, rv, ht, hz⟩ := I.tuple hq
  refine assign_Tuple_tuple (I.ok.hd hc) ht (by simp [hn, ← hl, rv.length]) hst fun h' hx => ?_
  have I1 : Inv X pins σ H { s with heap := h' } := I.kept (t' := s.toks) fun b o e => hx b o (Nat.ne_of_lt (Heap.lt_size e)) e
  exact h pins _ σ H xs _ Q I1 (by simpa using rv) hw
def gSub (to ti : TE) (t : TSet) : TG := fun v σ H Q => to σ H fun o H1 => ti σ H1 fun i H2 => t o i v H2 fun H3 => Q σ H3
theorem pg_sub {o i : Expr} {to ti : TE} {t : TSet} (ho : PE X o to) (hi : PE X i ti) (hs : PSet X t)
    (ha : ∀ v, assign (.Subscript o i pos) X.env v = (do
      let ov ← holding [v] (eval o X.env)
      let iv ← holding [v, ov] (eval i X.env)
      standAt pos
      holding [v, ov, iv] (setItem ov iv v)
      release [v, ov, iv] []) := by intro _; rfl) : PG X (.Subscript o i pos) (gSub to ti t) := by
  intro pins s σ H v u Q I r h
  rw [ha]
  refine wpAny_bind (wpAny_holding (thn (ho pins s σ H _ I h) fun ov s1 ⟨x, H1, I1, r1, q1⟩ => ?_))
  refine wpAny_bind (wpAny_holding (thn (hi pins s1 σ H1 _ I1 q1) fun iv s2 ⟨y, H2, I2, r2, q2⟩ => ?_))
  refine wpAny_bind (wpAny_standAt (wpAny_bind (wpAny_holding (thn (hs pins s2 σ H2 x y v ov iv u _ I2 r1 r2 r q2) fun _ s3 ⟨H3, I3, q3⟩ => ?_))))
  exact wpAny_release ⟨σ, H3, I3, q3⟩
def tAsg (te : TE) (g : TG) : TS := fun D σ H => te σ H fun x H1 => g x σ H1 D.nx
theorem ps_asg {tg e : Expr} {te : TE} {g : TG} (he : PE X e te) (hg : PG X tg g) (hs : swapsWithSole [tg] e pos.line X.env = pure false := by rfl) (hw : swappedStores [tg] e X.env = pure none := by rfl)
    (h1 : (assignEach [tg] X.env).map (·.2) = [assign tg X.env] := by rfl) : PS X (.Assign [tg] e pos) (tAsg te g) := by
  intro pins s σ H D I h
  refine wpAny_Assign_stores (thn (he pins s σ H _ I h) fun v s1 ⟨x, H1, I1, r1, q1⟩ => ?_) hs hw
  rw [h1]
  exact thn (hg pins s1 σ H1 x v _ I1 r1 q1) fun _ s2 q => q
theorem ps_set {i : Nat} {x : Str} {e : Expr} {te : TE} {pos' : Pos} (hN : X.N.Nodup) (hi : X.N[i]? = some x) (hx : Loc X.env.scope x) (he : PE X e te) (hs : swapsWith e (some (.Name x pos')) pos.line X.env = pure false := by rfl) (hf : X.fn x = true ∨ X.env.scope.names.lookup x = some .local := by first | exact .inl rfl | exact .inr rfl | assumption) :
    PS X (.Assign [.Name x pos'] e pos) (tAsg te (gName i)) := by
  intro pins s σ H D I h
  refine wpAny_Assign_Name (thn (he pins s σ H _ I h) fun v s1 ⟨y, H1, I1, r1, q1⟩ => ?_) hs
  exact store_ok I1 hN hi hx r1 (fun s2 I2 => ⟨_, H1, I2, q1⟩) hf
def tAug (i : Nat) (te : TE) (ti : TIp) : TS := fun D σ H => ∃ x, σ[i]? = some (some x)/\te σ H fun y H1 => ti x y H1 fun z H2 => D.nx (σ.set i (some z)) H2
theorem ps_aug {i : Nat} {x : Str} {e : Expr} {te : TE} {op : Operator} {ti : TIp} {pos' : Pos} (hN : X.N.Nodup) (hi : X.N[i]? = some x) (hx : Loc X.env.scope x) (he : PE X e te) (ho : PIp X op ti) (hf : X.fn x = true ∨ X.env.scope.names.lookup x = some .local := by first | exact .inl rfl | exact .inr rfl | assumption) :
    PS X (.AugAssign (.Name x pos') op e pos) (tAug i te ti) := by
  intro pins s σ H D I h
  obtain ⟨v, e1, h⟩ := h
  obtain ⟨m, hn, hl⟩ := I.loc
  have vis : Vis X.env.scope x := by rcases hx with k | k; exact .inl k; exact .inr (.inl k)
  obtain ⟨u, r, l⟩ := hl i x v hi e1 vis
  refine wpAny_AugAssign_Name ?_
  have go : wpAny (model X.prog X.w) X.A (eval e X.env) (fun w s₂ => wpAny (model X.prog X.w) X.A (inplaceOp op u w) (fun r s₃ => wpAny (model X.prog X.w) X.A (storeName X.env x r) (fun _ => SP X pins D .next) X.xe s₃) X.xe s₂) X.xe s := by
    refine thn (he pins s σ H _ I h) fun w s1 ⟨y, H1, I1, r1, q1⟩ => ?_
    refine thn (ho pins s1 σ H1 v y u w _ I1 r r1 q1) fun z s2 ⟨zv, H2, I2, r2, q2⟩ => ?_
    exact store_ok I2 hN hi hx r2 (fun s3 I3 => ⟨_, H2, I3, q2⟩) hf
  rcases l with ⟨hk, hm⟩ | ⟨hk, c, hc, hcell⟩
  · exact wpAny_loadName_local I.ok.kind hk hn hm go
  · rcases hk with hk | hk
    · exact wpAny_loadName_cell I.ok.kind hk hc hcell go
    · rcases hx with k | k
      · have : X.env.scope.names.lookup x = some .free := hk
        rw [k] at this; cases this
      · have : X.env.scope.names.lookup x = some .free := hk
        rw [k] at this; cases this
def ipI (f : Int->Int->Int) : TIp := fun x y H Q => ∃ i j, x = .int i/\y = .int j/\Q (.int (f i j)) H
theorem ip_add : PIp X .Add (ipI fun i j => i + j) := by
  intro pins s σ H x y v u Q I r1 r2 h
  obtain ⟨i, j, e1, e2, q⟩ := h
  subst e1; subst e2
  obtain ⟨t, rfl⟩ := r1
  obtain ⟨t', rfl⟩ := r2
  exact iadd_int ⟨.int _, H, I.tok _, ⟨_, rfl⟩, q⟩
end
section
variable {X : Cx} {pos : Pos}
def tWhile (c : TT) (tb : TS) : TS := fun D σ H => ∃ W : Nat->St->Hp->Prop, (∃ m, W m σ H)/\∀ m σ H, W m σ H →
  c σ H fun b H1 => if b = true then ∃ N : St->Hp->Prop, (∀ σ' H', N σ' H'->∃ m', m' < m/\W m' σ' H')/\tb { D with nx := N, ct := N, bk := D.nx } σ H1 else D.nx σ H1
theorem ps_while {c : Expr} {body : List Stmt} {tc : TT} {tb : TS} (hp : PassesOwn (model X.prog X.w) X.A X.env X.xe) (hc : PT X c tc) (hb : PSs X body tb) : PS X (.While c body [] pos) (tWhile tc tb) := by
  intro pins s σ H D I h
  obtain ⟨W, ⟨m0, w0⟩, turn⟩ := h
  refine wpAny_While (codeAny_whileLoop (fun n s' => ∃ σ' H', Inv X pins σ' H' s'/\W n σ' H') ?_ m0 ⟨σ, H, I, w0⟩)
  rintro n s1 ⟨σ1, H1, I1, w1⟩
  refine wpAny_passesOwn hp (thn (hc pins s1 σ1 H1 _ I1 (turn n σ1 H1 w1)) fun b s2 ⟨H2, I2, q2⟩ => ?_)
  cases b with
  | true =>
    obtain ⟨N, hN, q2⟩ := q2
    rw [if_pos rfl]
    refine wpAny_passesOwn hp (thn (hb pins s2 σ1 H2 _ I2 q2) fun f s3 q3 => ?_)
    cases f with
    | next =>
      obtain ⟨σ3, H3, I3, n3⟩ := q3
      obtain ⟨m', hm, w3⟩ := hN σ3 H3 n3
      exact ⟨m', hm, σ3, H3, I3, w3⟩
    | cont =>
      obtain ⟨σ3, H3, I3, n3⟩ := q3
      obtain ⟨m', hm, w3⟩ := hN σ3 H3 n3
      exact ⟨m', hm, σ3, H3, I3, w3⟩
    | brk => exact q3
    | ret v => exact q3
  | false =>
    rw [if_neg Bool.false_ne_true]
    exact wpAny_execs_nil ⟨σ1, H2, I2, q2⟩
end
structure It where
  go : Nat->Hp->Prop
  yld : Nat->Hp->V->Hp->Prop
  stop : Nat->Hp->Prop
def FpOk (X : Cx) (pins : List (Addr × Obj)) (H : Hp) (b : Addr) : Prop :=
  H b = none/\b ≠ X.env.locals/\b ∉ X.fs/\(b ∈ X.ex ∨ X.s₀.heap.objs.size ≤ b)/\(∀ x c, X.env.cells.lookup x = some c->c ≠ b)/\∀ p ∈ X.pn ++ pins, p.1 ≠ b
theorem Inv.fpOk {X : Cx} {pins : List (Addr × Obj)} {σ : St} {H H' : Hp} {s : Shared} {b : Addr} (I : Inv X pins σ H s) (hb : s.heap.objs.size ≤ b) (hn : H' b = none) : FpOk X pins H' b := by
  refine ⟨hn, Nat.ne_of_gt (Nat.lt_of_lt_of_le I.lt hb), I.nofs hb, .inr (Nat.le_trans I.sz hb), fun x c e z => ?_, fun p hp z => ?_⟩
  · obtain ⟨v, q⟩ := I.cell x c e
    exact absurd (Nat.lt_of_lt_of_le q.lt (by rw [z]; exact hb)) (Nat.lt_irrefl _)
  · exact absurd (Nat.lt_of_lt_of_le (Heap.lt_size (I.pin p hp).1) (by rw [z]; exact hb)) (Nat.lt_irrefl _)
structure Turn (P : Program) (w : World) (K : PySem.W.Frag) (tg : Expr) (J : It) (fp : List Addr) (it : Addr) (tn : Nat->Heap->Prop) : Prop where
  mem : it ∈ fp
  obj : ∀ i h, tn i h->∀ b ∈ fp, ∃ o, h.get? b = some o/\∀ v, o.data ≠ .cell v
  keep : ∀ i h h', tn i h->(∀ b ∈ fp, ∀ o, h.get? b = some o->h'.get? b = some o)->tn i h'
  item : ∀ (X : Cx), X.prog = P->X.w = w->X.K = K->X.calm = true->∀ (i : Nat) (pins : List (Addr × Obj)) (s : Shared) (σ : St) (H : Hp) (E : Value->Shared->Prop), Inv X pins σ H s->(∀ b ∈ fp, FpOk X pins H b)->tn i s.heap->J.go i H →
    wpAny (model P w) X.A (pyNext (.ref it)) (fun r s1 => ∃ u, r = some u ∧
      wpAny (model P w) X.A (letOwnedTupleGo tg (.ref it) u) (fun _ s2 => ∃ x H', Inv X pins σ H' s2/\RelV x u/\J.yld i H x H'/\tn (i + 1) s2.heap/\∀ b ∈ fp, H' b = none) E s1) E s
  done : ∀ (X : Cx), X.prog = P->X.w = w->X.K = K->X.calm = true->∀ (i : Nat) (pins : List (Addr × Obj)) (s : Shared) (σ : St) (H : Hp) (E : Value->Shared->Prop), Inv X pins σ H s->(∀ b ∈ fp, FpOk X pins H b)->tn i s.heap->J.stop i H →
    wpAny (model P w) X.A (pyNext (.ref it)) (fun r s1 => r = none/\Inv X pins σ H s1) E s
  self : ∀ (A : Around) (i : Nat) (s : Shared) (Q : Value->Shared->Prop) (E : Value->Shared->Prop), tn i s.heap->Q (.ref it) s->wpAny (model P w) A (pyIter (.ref it)) Q E s
abbrev TI := St->Hp->(It->Hp->Prop)->Prop
def PIE (X : Cx) (pins : List (Addr × Obj)) (σ : St) (tg : Expr) (R : It->Hp->Prop) (itv : Value) (s2 : Shared) : Prop :=
  ∃ (it : Addr) (fp : List Addr) (tn : Nat->Heap->Prop) (J : It) (H' : Hp), itv = .ref it/\Inv X pins σ H' s2/\Turn X.prog X.w X.K tg J fp it tn/\tn 0 s2.heap/\(∀ b ∈ fp, FpOk X pins H' b)/\R J H'
def PI (X : Cx) (tg iter : Expr) (wi : TI) : Prop :=
  ∀ (pins : List (Addr × Obj)) (s : Shared) (σ : St) (H : Hp) (R : It->Hp->Prop), Inv X pins σ H s->wi σ H R →
    wpAny (model X.prog X.w) X.A (eval iter X.env) (fun v s1 => wpAny (model X.prog X.w) X.A (pyIter v) (PIE X pins σ tg R) X.xe s1) X.xe s
theorem go_of {M : Model} {A : Around} {E : Value->Shared->Prop} {s : Shared} {tg : Expr} {it : Addr} {u : Value} {o : Obj} {n : String} {vs : Array Value} {Q : Unit->Shared->Prop} (ho : s.heap.get? it = some o) (hc : o.cls = .type n) (hd : o.data = .fields vs) (hn : ["enumerate", "zip", "dict_itemiterator", "dict_reverseitemiterator", "odict_iterator", "itertools.zip_longest", "itertools.pairwise"].contains n = false) (hQ : Q () s) : wpAny M A (letOwnedTupleGo tg (.ref it) u) Q E s := by
  unfold letOwnedTupleGo
  cases tg <;> first
    | exact wpAny_pure hQ
    | (cases u <;> first
        | exact wpAny_pure hQ
        | (refine wpAny_bind (wpAny_load ho ?_)
           rw [hc, hd]
           show wpAny M A (if (["enumerate", "zip", "dict_itemiterator", "dict_reverseitemiterator", "odict_iterator", "itertools.zip_longest", "itertools.pairwise"].contains n && vs[0]? == some (rawInt _)) = true then _ else _) Q E s
           rw [if_neg (by intro h; rw [hn, Bool.false_and] at h; cases h)]
           exact wpAny_pure hQ))
def Itl (K : PySem.W.Frag) (a : Addr) : It :=
  ⟨fun i H => ∃ xs x, SqL K H a xs/\xs[i]? = some x, fun i H x H' => H' = H/\∀ xs, SqL K H a xs->xs[i]? = some x, fun i H => ∃ xs, SqL K H a xs/\xs.length ≤ i⟩
def Itr (lo : Int) (n : Nat) : It := ⟨fun i _ => i < n, fun i H x H' => H' = H/\x = .int (lo + i), fun i _ => n ≤ i⟩
theorem turn_list {P : Program} {w : World} {K : PySem.W.Frag} {tg : Expr} (a it : Addr) : Turn P w K tg (Itl K a) [it] it (fun i h => h.IsListIter it a i) where
  mem := by simp
  obj := fun i h st b hb => by
    have e : b = it := by simpa using hb
    subst e
    obtain ⟨o, e, c, d⟩ := st
    exact ⟨o, e, fun v z => by rw [d] at z; cases z⟩
  keep := fun i h h' st k => st.at fun o e => k it (by simp) o e
  item := by
    intro X hP hw hK hc i pins s σ H E I hf st hg
    subst hP hw hK
    obtain ⟨xs, x, hq, hx⟩ := hg
    obtain ⟨its, rv, p, hz⟩ := I.list hq
    obtain ⟨u, hu, ru⟩ := rv.get hx
    obtain ⟨f0, f1, f2, f3, f4, f5⟩ := hf it (by simp)
    refine wpAny_pyNext_list_item st p.isList (x := u) (by simpa using hu) fun h' st' sb => ?_
    have I1 : Inv X pins σ H { s with heap := h' } := I.turned (t' := s.toks) (fun b o hb e => (sb.2 b hb).trans e) f0 f1 f3 f4 f5
    obtain ⟨o, e, c, d⟩ := id st'
    exact ⟨u, rfl, go_of (s := { s with heap := h' }) e c d (by decide) ⟨x, H, I1, ru, ⟨rfl, fun ys hy => by rw [I.list_inj hy hq]; exact hx⟩, st', fun b hb => (hf b hb).1⟩⟩
  done := by
    intro X hP hw hK hc i pins s σ H E I hf st hg
    subst hP hw hK
    obtain ⟨xs, hq, hx⟩ := hg
    obtain ⟨its, rv, p, hz⟩ := I.list hq
    obtain ⟨f0, f1, f2, f3, f4, f5⟩ := hf it (by simp)
    have hl := rv.length
    exact wpAny_pyNext_list_end (I.ok.hd hc) st p.isList (by simp; omega) fun h' eb => ⟨rfl, I.turned (t' := s.toks) (fun b o hb e => eb b o hb e) f0 f1 f3 f4 f5⟩
  self := fun _ _ _ _ _ st h => wpAny_pyIter_listiter st h
theorem turn_range {P : Program} {w : World} {K : PySem.W.Frag} {tg : Expr} (it : Addr) (lo : Int) (n : Nat) : Turn P w K tg (Itr lo n) [it] it (fun i h => IsRangeIter h it (lo + (i : Nat) * 1) ((n : Int) - (i : Nat)) 1) where
  mem := by simp
  obj := fun i h st b hb => by
    have e : b = it := by simpa using hb
    subst e
    exact ⟨_, st, fun v z => by
      have z' : Data.fields _ = Data.cell v := z
      cases z'⟩
  keep := fun i h h' st k => k it (by simp) _ st
  item := by
    intro X hP hw hK hc i pins s σ H E I hf st hg
    subst hP hw hK
    obtain ⟨f0, f1, f2, f3, f4, f5⟩ := hf it (by simp)
    have W := Walks.range (prog := X.prog) (w := X.w) (I.ok.hd hc) it lo 1 n
    refine W.item i s _ _ hg st fun v h' tk hv st' kk => ?_
    obtain ⟨t, rfl⟩ := hv
    have I1 : Inv X pins σ H { s with heap := h', toks := tk } := I.turned (fun b o hb e => kk b o (by simpa using hb) e) f0 f1 f3 f4 f5
    refine ⟨_, rfl, go_of (s := { s with heap := h', toks := tk }) (n := "range_iterator") st' rfl rfl (by decide) ⟨.int (lo + i), H, I1, ⟨t, ?_⟩, ⟨rfl, rfl⟩, st', fun b hb => (hf b hb).1⟩⟩
    rw [Int.mul_one]
  done := by
    intro X hP hw hK hc i pins s σ H E I hf st hg
    subst hP hw hK
    obtain ⟨f0, f1, f2, f3, f4, f5⟩ := hf it (by simp)
    exact wpAny_pyNext_range_end (I.ok.hd hc) st (by have : n ≤ i := hg; omega) fun h' eb => ⟨rfl, I.turned (t' := s.toks) (fun b o hb e => eb b o hb e) f0 f1 f3 f4 f5⟩
  self := fun _ _ _ _ _ st h => wpAny_pyIter_rangeiter st h
end L2
namespace L2
open PySem PySem.Spec PyProof.Rows
section
variable {X : Cx} {tg : Expr}
def iList (K : PySem.W.Frag) (tl : TE) : TI := fun σ H R => tl σ H fun x H1 => ∃ a, x = .ref a/\(∃ xs, SqL K H1 a xs)/\R (Itl K a) H1
theorem pi_list {l : Expr} {tl : TE} (hl : PE X l tl) : PI X tg l (iList X.K tl) := by
  intro pins s σ H R I h
  refine thn (hl pins s σ H _ I h) fun v s1 ⟨x, H1, I1, r1, q1⟩ => ?_
  obtain ⟨a, e, ⟨xs, hq⟩, q⟩ := q1
  subst e
  cases r1
  obtain ⟨its, rv, p, hz⟩ := I1.list hq
  refine wpAny_pyIter_list p.isList ?_
  refine ⟨s1.heap.objs.size, [s1.heap.objs.size], _, _, H1, rfl, I1.kept (t' := s1.toks) fun b o e => Heap.get?_push_of_some _ e, turn_list a _, ⟨_, Heap.get?_push_size _ rfl, rfl, rfl⟩, fun b hb => ?_, q⟩
  have e : b = s1.heap.objs.size := by simpa using hb
  subst e
  exact I1.fpOk (Nat.le_refl _) (I1.hok.fresh (Nat.le_refl _))
theorem range_it {pins : List (Addr × Obj)} {σ : St} {H : Hp} {s : Shared} {R : It->Hp->Prop} {E : Value->Shared->Prop} {lo hi : Int} {t u v : Tok} {tk : Nat} (I : Inv X pins σ H s) (h1 : -(2 ^ 62) ≤ lo) (h2 : lo < 2 ^ 62) (h3 : -(2 ^ 62) ≤ hi) (h4 : hi < 2 ^ 62) (q : R (Itr lo (hi - lo).toNat) H) : wpAny (model X.prog X.w) X.A (pyIter (.ref s.heap.objs.size)) (PIE X pins σ tg R) E { s with heap := s.heap.push { cls := .type "range", data := .fields #[.int lo t, .int hi u, .int 1 v] }, toks := tk } := by
  refine wpAny_pyIter_range (IsRange.new ..) (small_one h1 h2 h3 h4) ?_
  have I1 : Inv X pins σ H { s with heap := s.heap.push { cls := .type "range", data := .fields #[.int lo t, .int hi u, .int 1 v] }, toks := tk } := I.kept fun b o e => Heap.get?_push_of_some _ e
  refine ⟨(s.heap.push { cls := .type "range", data := .fields #[.int lo t, .int hi u, .int 1 v] }).objs.size, [(s.heap.push { cls := .type "range", data := .fields #[.int lo t, .int hi u, .int 1 v] }).objs.size], _, _, H, rfl,
    I1.kept (t' := tk) fun b o e => Heap.get?_push_of_some _ e, turn_range _ lo (hi - lo).toNat, ?_, fun b hb => ?_, q⟩
  · have e1 : lo + ((0 : Nat) : Int) * 1 = lo := by simp
    have e2 : (((hi - lo).toNat : Nat) : Int) - ((0 : Nat) : Int) = Builtin.Range.rangeSize lo hi 1 := by rw [rangeSize_one]; split <;> omega
    show IsRangeIter _ _ (lo + ((0 : Nat) : Int) * 1) ((((hi - lo).toNat : Nat) : Int) - ((0 : Nat) : Int)) 1
    rw [e1, e2]
    exact Heap.get?_push_size _ rfl
  · have e : b = (s.heap.push { cls := .type "range", data := .fields #[.int lo t, .int hi u, .int 1 v] }).objs.size := by simpa using hb
    subst e
    exact I1.fpOk (Nat.le_refl _) (I1.hok.fresh (Nat.le_refl _))
def iRng1 (ta : TA) : TI := fun σ H R => ta σ H fun vs H1 => ∃ j : Int, vs = [.int j]/\-(2 ^ 62) ≤ j/\j < 2 ^ 62/\R (Itr 0 j.toNat) H1
def iRng2 (ta : TA) : TI := fun σ H R => ta σ H fun vs H1 => ∃ i j : Int, vs = [.int i, .int j]/\(-(2 ^ 62) ≤ i/\i < 2 ^ 62/\-(2 ^ 62) ≤ j/\j < 2 ^ 62)/\R (Itr i (j - i).toNat) H1
theorem pi_range1 {a : Expr} {ta : TA} {p pos : Pos} (hg : Gl X "range") (hm : X.mg "range" = none) (ha : PA X [a] ta) (hs : starEach [a] X.env = [(false, eval a X.env)] := by rfl) : PI X tg (.Call (.Name "range" p) [a] [] pos) (iRng1 ta) := by
  intro pins s σ H R I h
  refine Call_ (ld_blt I hg hm boot_range (PyProof.Rows.callWith_type1 (thn (ha pos pins s σ H _ I h) fun us s1 ⟨vs, H1, I1, r1, q1⟩ => ?_) hs rfl))
  obtain ⟨j, e, q1, q2, q⟩ := q1
  subst e
  cases r1 with
  | cons r rr =>
    cases rr
    obtain ⟨t, rfl⟩ := r
    exact call_range_1 (range_it I1 (by omega) (by omega) q1 q2 (by simpa using q))
theorem pi_range2 {a b : Expr} {ta : TA} {p pos : Pos} (hg : Gl X "range") (hm : X.mg "range" = none) (ha : PA X [a, b] ta) (hs : starEach [a, b] X.env = [(false, eval a X.env), (false, eval b X.env)] := by rfl) (hs2 : starEach [b] X.env = [(false, eval b X.env)] := by rfl) :
    PI X tg (.Call (.Name "range" p) [a, b] [] pos) (iRng2 ta) := by
  intro pins s σ H R I h
  refine Call_ (ld_blt I hg hm boot_range (PyProof.Rows.callWith_type1 (thn (ha pos pins s σ H _ I h) fun us s1 ⟨vs, H1, I1, r1, q1⟩ => ?_) (by rw [hs, hs2]) (by rw [hs2]; rfl)))
  obtain ⟨i, j, e, ⟨q1, q2, q3, q4⟩, q⟩ := q1
  subst e
  cases r1 with
  | cons r rr =>
    cases rr with
    | cons r' rr =>
      cases rr
      obtain ⟨t, rfl⟩ := r
      obtain ⟨t', rfl⟩ := r'
      exact call_range_2 (range_it I1 q1 q2 q3 q4 q)
def tFor (wi : TI) (g : TG) (tb : TS) : TS := fun D σ H => wi σ H fun J H1 => ∃ W : Nat->Nat->St->Hp->Prop, (∃ m, W 0 m σ H1)/\∀ i m σ H, W i m σ H →
  (J.stop i H/\D.nx σ H) ∨ (J.go i H/\∃ N : St->Hp->Prop, (∀ σ' H', N σ' H'->∃ m', m' < m/\W (i + 1) m' σ' H')/\∀ x H', J.yld i H x H'->g x σ H' fun σ2 H2 => tb { D with nx := N, ct := N, bk := D.nx } σ2 H2)
def pinsAt (fp : List Addr) (h : Heap) : List (Addr × Obj) := fp.filterMap fun b => (h.get? b).map fun o => (b, o)
theorem mem_pinsAt {fp : List Addr} {h : Heap} {b : Addr} {o : Obj} (hb : b ∈ fp) (e : h.get? b = some o) : (b, o) ∈ pinsAt fp h := List.mem_filterMap.mpr ⟨b, hb, by rw [e]; rfl⟩
theorem of_pinsAt {fp : List Addr} {h : Heap} {p : Addr × Obj} (hp : p ∈ pinsAt fp h) : p.1 ∈ fp/\h.get? p.1 = some p.2 := by
  obtain ⟨b, hb, e⟩ := List.mem_filterMap.mp hp
  cases q : h.get? b with
  | none => rw [q] at e; cases e
  | some o =>
    rw [q] at e
    have e' : (b, o) = p := Option.some.inj e
    subst e'
    exact ⟨hb, q⟩
theorem Inv.pinned {pins : List (Addr × Obj)} {σ : St} {H : Hp} {s : Shared} {fp : List Addr} (I : Inv X pins σ H s) (hf : ∀ b ∈ fp, FpOk X pins H b) (ho : ∀ b ∈ fp, ∃ o, s.heap.get? b = some o/\∀ v, o.data ≠ .cell v) : Inv X (pins ++ pinsAt fp s.heap) σ H s :=
  I.pins_of fun p hp => (List.mem_append.mp hp).elim (fun z => I.pin p (List.mem_append_right _ z)) fun z => by
    obtain ⟨hb, e⟩ := of_pinsAt z
    obtain ⟨f0, f1, f2, _⟩ := hf p.1 hb
    obtain ⟨o, e', d⟩ := ho p.1 hb
    rw [e] at e'; cases e'
    exact ⟨e, f0, f1, f2, d⟩
theorem Inv.unpinned {pins pl : List (Addr × Obj)} {σ : St} {H : Hp} {s : Shared} (I : Inv X (pins ++ pl) σ H s) : Inv X pins σ H s := I.pins_of fun p hp => I.pin p (List.mem_append_right _ (List.mem_append_left _ hp))
theorem ps_for {iter : Expr} {body : List Stmt} {wi : TI} {g : TG} {tb : TS} {pos : Pos} (hp : PassesOwn (model X.prog X.w) X.A X.env X.xe) (hc : X.calm = true) (hi : PI X tg iter wi) (hg : PG X tg g) (hb : PSs X body tb) (hs : ∀ x, foldedSetIterable iter X.env x = pure x := by intro _; rfl) : PS X (.For tg iter body [] pos) (tFor wi g tb) := by
  intro pins s σ H D I h
  refine wpAny_For (thn (hi pins s σ H _ I h) fun v s1 h1 => thn h1 fun itv s2 h2 => ?_) hs
  obtain ⟨it, fp, tn, J, H2, e, I2, T, st2, f2, W, ⟨m0, w0⟩, turn⟩ := h2
  subst e
  have stat : ∀ {H' : Hp}, (∀ b ∈ fp, H' b = none)->∀ b ∈ fp, FpOk X pins H' b := fun hn b hb => ⟨hn b hb, (f2 b hb).2⟩
  refine codeAny_forLoop_any (fun n s' => ∃ i σ' H', Inv X pins σ' H' s'/\tn i s'.heap/\(∀ b ∈ fp, H' b = none)/\W i n σ' H') ?_ m0 ⟨0, σ, H2, I2, st2, fun b hb => (f2 b hb).1, w0⟩
  rintro n s3 ⟨i, σ3, H3, I3, st3, fr3, w3⟩
  rcases turn i n σ3 H3 w3 with ⟨stop, qn⟩ | ⟨go, N, hN, step⟩
  · refine wpAny_passesOwn hp (thn (T.done X rfl rfl rfl hc i pins s3 σ3 H3 X.xe I3 (stat fr3) st3 stop) fun r s4 ⟨hr, I4⟩ => ?_)
    subst hr
    exact wpAny_execs_nil ⟨σ3, H3, I4, qn⟩
  · refine wpAny_passesOwn hp (thn (T.item X rfl rfl rfl hc i pins s3 σ3 H3 X.xe I3 (stat fr3) st3 go) fun r s4 ⟨u, hr, h4⟩ => ?_)
    subst hr
    refine wpAny_passesOwn hp (thn h4 fun _ s5 ⟨x, H5, I5, r5, y5, st5, fr5⟩ => ?_)
    have I5' := I5.pinned (stat fr5) (T.obj _ _ st5)
    refine wpAny_passesOwn hp (thn (hg _ s5 σ3 H5 x u _ I5' r5 (step x H5 y5)) fun _ s6 ⟨σ6, H6, I6, q6⟩ => ?_)
    refine wpAny_passesOwn hp (thn (hb _ s6 σ6 H6 _ I6 q6) fun f s7 q7 => ?_)
    have again : ∀ {σ7 : St} {H7 : Hp}, Inv X (pins ++ pinsAt fp s5.heap) σ7 H7 s7->N σ7 H7->∃ m, m < n/\∃ i σ' H', Inv X pins σ' H' s7/\tn i s7.heap/\(∀ b ∈ fp, H' b = none)/\W i m σ' H' := fun {σ7 H7} I7 n7 => by
      obtain ⟨m', hm, w7⟩ := hN σ7 H7 n7
      refine ⟨m', hm, i + 1, σ7, H7, I7.unpinned, T.keep _ _ _ st5 fun b hb o e => (I7.pin (b, o) (List.mem_append_right _ (List.mem_append_right _ (mem_pinsAt hb e)))).1, fun b hb => ?_, w7⟩
      obtain ⟨o, e, d⟩ := T.obj _ _ st5 b hb
      exact (I7.pin (b, o) (List.mem_append_right _ (List.mem_append_right _ (mem_pinsAt hb e)))).2.1
    cases f with
    | next => obtain ⟨σ7, H7, I7, n7⟩ := q7; exact again I7 n7
    | cont => obtain ⟨σ7, H7, I7, n7⟩ := q7; exact again I7 n7
    | brk => obtain ⟨σ7, H7, I7, q7⟩ := q7; exact ⟨σ7, H7, I7.unpinned, q7⟩
    | ret v => obtain ⟨x7, σ7, H7, I7, r7, q7⟩ := q7; exact ⟨x7, σ7, H7, I7.unpinned, r7, q7⟩
end
theorem for_list {K : PySem.W.Frag} {a : Addr} {xs : List V} {g : TG} {tb : TS} {D : Ends} {σ : St} {H : Hp} (Pv : Nat->St->Hp->Prop) (h0 : Pv 0 σ H) (hl : ∀ i σ H, i ≤ xs.length->Pv i σ H->SqL K H a xs) (hs : ∀ i x σ H, xs[i]? = some x->Pv i σ H->g x σ H fun σ2 H2 => tb { D with nx := Pv (i + 1), ct := Pv (i + 1), bk := D.nx } σ2 H2) (hd : ∀ σ H, Pv xs.length σ H->D.nx σ H) :
    ∃ W : Nat->Nat->St->Hp->Prop, (∃ m, W 0 m σ H)/\∀ i m σ H, W i m σ H →
      ((Itl K a).stop i H/\D.nx σ H) ∨ ((Itl K a).go i H/\∃ N : St->Hp->Prop, (∀ σ' H', N σ' H'->∃ m', m' < m/\W (i + 1) m' σ' H')/\∀ x H', (Itl K a).yld i H x H'->g x σ H' fun σ2 H2 => tb { D with nx := N, ct := N, bk := D.nx } σ2 H2) := by
  refine ⟨fun i m σ H => m = xs.length - i/\i ≤ xs.length/\Pv i σ H, ⟨xs.length, by simp, Nat.zero_le _, h0⟩, ?_⟩
  rintro i m σ H ⟨rfl, hi, p⟩
  have q := hl i σ H hi p
  by_cases hlt : i < xs.length
  · refine .inr ⟨⟨xs, xs[i], q, by simp [hlt]⟩, Pv (i + 1), fun σ' H' p' => ⟨xs.length - (i + 1), by omega, rfl, hlt, p'⟩, fun x H' y => ?_⟩
    obtain ⟨e, y⟩ := y
    subst e
    exact hs i x σ _ (y xs q) p
  · have e : i = xs.length := by omega
    subst e
    exact .inl ⟨⟨xs, q, Nat.le_refl _⟩, hd σ H p⟩
theorem for_range {lo : Int} {n : Nat} {g : TG} {tb : TS} {D : Ends} {σ : St} {H : Hp} (Pv : Nat->St->Hp->Prop) (h0 : Pv 0 σ H) (hs : ∀ i σ H, i < n->Pv i σ H->g (.int (lo + i)) σ H fun σ2 H2 => tb { D with nx := Pv (i + 1), ct := Pv (i + 1), bk := D.nx } σ2 H2) (hd : ∀ σ H, Pv n σ H->D.nx σ H) :
    ∃ W : Nat->Nat->St->Hp->Prop, (∃ m, W 0 m σ H)/\∀ i m σ H, W i m σ H →
      ((Itr lo n).stop i H/\D.nx σ H) ∨ ((Itr lo n).go i H/\∃ N : St->Hp->Prop, (∀ σ' H', N σ' H'->∃ m', m' < m/\W (i + 1) m' σ' H')/\∀ x H', (Itr lo n).yld i H x H'->g x σ H' fun σ2 H2 => tb { D with nx := N, ct := N, bk := D.nx } σ2 H2) := by
  refine ⟨fun i m σ H => m = n - i/\i ≤ n/\Pv i σ H, ⟨n, by simp, Nat.zero_le _, h0⟩, ?_⟩
  rintro i m σ H ⟨rfl, hi, p⟩
  by_cases hlt : i < n
  · refine .inr ⟨hlt, Pv (i + 1), fun σ' H' p' => ⟨n - (i + 1), by omega, rfl, hlt, p'⟩, fun x H' y => ?_⟩
    obtain ⟨e, y⟩ := y
    subst e y
    exact hs i σ _ hlt p
  · have e : i = n := by omega
    subst e
    exact .inl ⟨Nat.le_refl _, hd σ H p⟩
end L2
namespace L2
open PySem PySem.Spec PyProof.Rows
abbrev R2 := V->V->Hp->VK->Prop
def OpR (X : Cx) (f : Value->Value->Sem Value) (r : R2) : Prop :=
  ∀ (pins : List (Addr × Obj)) (s : Shared) (σ : St) (H : Hp) (x y : V) (v u : Value) (Q : VK), Inv X pins σ H s->RelV x v->RelV y u->r x y H Q →
    wpAny (model X.prog X.w) X.A (f v u) (EP X pins σ Q) X.xe s
def UnR (X : Cx) (f : Value->Sem Value) (r : V->Hp->VK->Prop) : Prop :=
  ∀ (pins : List (Addr × Obj)) (s : Shared) (σ : St) (H : Hp) (x : V) (v : Value) (Q : VK), Inv X pins σ H s->RelV x v->r x H Q →
    wpAny (model X.prog X.w) X.A (f v) (EP X pins σ Q) X.xe s
def CallR (X : Cx) (f : Value) (r : List V->Hp->VK->Prop) : Prop :=
  ∀ (pins : List (Addr × Obj)) (s : Shared) (σ : St) (H : Hp) (xs : List V) (us : List Value) (Q : VK), Inv X pins σ H s->Vals xs us->r xs H Q →
    wpAny (model X.prog X.w) X.A (call f us) (EP X pins σ Q) X.xe s
def tOp (r : R2) (ta tb : TE) : TE := fun σ H Q => ta σ H fun x H1 => tb σ H1 fun y H2 => r x y H2 Q
def tUn (r : V->Hp->VK->Prop) (ta : TE) : TE := fun σ H Q => ta σ H fun x H1 => r x H1 Q
def rI (C : Int->Int->Prop) (g : Int->Int->V) : R2 := fun x y H Q => ∃ i j, x = .int i/\y = .int j/\C i j/\Q (g i j) H
def rI0 (g : Int->Int->V) : R2 := fun x y H Q => ∃ i j, x = .int i/\y = .int j/\Q (g i j) H
def rU (g : Int->V) : V->Hp->VK->Prop := fun x H Q => ∃ i, x = .int i/\Q (g i) H
section
variable {X : Cx} {a b c : Expr} {ta tb tc : TE} {pos : Pos}
theorem binT (ha : PE X a ta) (hb : PE X b tb) {pins : List (Addr × Obj)} {s : Shared} {σ : St} {H : Hp} {R : V->V->Hp->Prop} (I : Inv X pins σ H s) (h : ta σ H fun x H1 => tb σ H1 fun y H2 => R x y H2) {Q : Value->Shared->Prop} {f : Value->Value->Sem Value} (hf : ∀ v u s2 x y H2, Inv X pins σ H2 s2->RelV x v->RelV y u->R x y H2->wpAny (model X.prog X.w) X.A (f v u) Q X.xe s2) : wpAny (model X.prog X.w) X.A (eval a X.env) (fun v s₁ => wpAny (model X.prog X.w) X.A (eval b X.env) (fun u s₂ => wpAny (model X.prog X.w) X.A (f v u) Q X.xe s₂) X.xe s₁) X.xe s := by
  refine thn (ha pins s σ H _ I h) fun v s1 ⟨x, H1, I1, r1, q1⟩ => ?_
  refine thn (hb pins s1 σ H1 _ I1 q1) fun u s2 ⟨y, H2, I2, r2, q2⟩ => ?_
  exact hf v u s2 x y H2 I2 r1 r2 q2
theorem pe_op {op : Operator} {r : R2} (ho : OpR X (binaryOp op) r) (ha : PE X a ta) (hb : PE X b tb) : PE X (.BinOp a op b pos) (tOp r ta tb) := by
  intro pins s σ H Q I h
  exact wpAny_BinOp (binT ha hb I h fun v u s2 x y H2 I2 rx ry q => ho pins s2 σ H2 x y v u Q I2 rx ry q)
theorem pe_un {op : UnaryOp} {r : V->Hp->VK->Prop} (ho : UnR X (unaryOp op) r) (ha : PE X a ta) : PE X (.UnaryOp op a pos) (tUn r ta) := by
  intro pins s σ H Q I h
  exact UnaryOp_ (thn (ha pins s σ H _ I h) fun v s1 ⟨x, H1, I1, r1, q1⟩ => ho pins s1 σ H1 x v Q I1 r1 q1)
theorem opI {f : Value->Value->Sem Value} {C : Int->Int->Prop} {g : Int->Int->Int} (rule : ∀ (i j : Int) (t u : Tok) (s : Shared) (Q : Value->Shared->Prop) (E : Value->Shared->Prop), C i j->Q (.int (g i j) s.toks) { s with toks := s.toks + 1 }->wpAny (model X.prog X.w) X.A (f (.int i t) (.int j u)) Q E s) :
    OpR X f (rI C fun i j => .int (g i j)) := by
  intro pins s σ H x y v u Q I rx ry h
  obtain ⟨i, j, rfl, rfl, hc, q⟩ := h
  obtain ⟨t, rfl⟩ := rx
  obtain ⟨t', rfl⟩ := ry
  exact rule i j t t' s _ _ hc ⟨.int (g i j), H, I.tok _, ⟨_, rfl⟩, q⟩
theorem opI0 {f : Value->Value->Sem Value} {g : Int->Int->Int} (rule : ∀ (i j : Int) (t u : Tok) (s : Shared) (Q : Value->Shared->Prop) (E : Value->Shared->Prop), Q (.int (g i j) s.toks) { s with toks := s.toks + 1 }->wpAny (model X.prog X.w) X.A (f (.int i t) (.int j u)) Q E s) :
    OpR X f (rI0 fun i j => .int (g i j)) := by
  intro pins s σ H x y v u Q I rx ry h
  obtain ⟨i, j, rfl, rfl, q⟩ := h
  obtain ⟨t, rfl⟩ := rx
  obtain ⟨t', rfl⟩ := ry
  exact rule i j t t' s _ _ ⟨.int (g i j), H, I.tok _, ⟨_, rfl⟩, q⟩
theorem opB0 {f : Value->Value->Sem Value} {g : Int->Int->Bool} (rule : ∀ (i j : Int) (t u : Tok) (s : Shared) (Q : Value->Shared->Prop) (E : Value->Shared->Prop), Q (.bool (g i j)) s->wpAny (model X.prog X.w) X.A (f (.int i t) (.int j u)) Q E s) : OpR X f (rI0 fun i j => .bl (g i j)) := by
  intro pins s σ H x y v u Q I rx ry h
  obtain ⟨i, j, rfl, rfl, q⟩ := h
  obtain ⟨t, rfl⟩ := rx
  obtain ⟨t', rfl⟩ := ry
  exact rule i j t t' s _ _ ⟨.bl (g i j), H, I, rfl, q⟩
def CDiv (i j : Int) : Prop := 0 < j/\j < 1073741824
def CPow (i j : Int) : Prop := 0 ≤ j/\j ≤ 1000000/\i.natAbs < 2 ^ 64
def CMul (i j : Int) : Prop := (-(2 ^ 64) < i/\i < 2 ^ 64) ∨ (-(2 ^ 64) < j/\j < 2 ^ 64)
theorem CMul.ok {i j : Int} (h : CMul i j) : IntMulOk i j := by
  rcases h with ⟨h1, h2⟩ | ⟨h1, h2⟩
  · exact .of_left (intBits_le_64 h1 h2)
  · exact .of_right (intBits_le_64 h1 h2)
theorem op_add : OpR X (binaryOp .Add) (rI0 fun i j => .int (i + j)) := opI0 fun _ _ _ _ _ _ _ q => add_int q
theorem op_sub : OpR X (binaryOp .Sub) (rI0 fun i j => .int (i - j)) := opI0 fun _ _ _ _ _ _ _ q => sub_int q
theorem op_mul : OpR X (binaryOp .Mult) (rI CMul fun i j => .int (i * j)) := opI fun _ _ _ _ _ _ _ hc q => mul_int q hc.ok
theorem op_fdiv : OpR X (binaryOp .FloorDiv) (rI CDiv fun i j => .int (i / j)) := opI fun i j _ _ _ _ _ hc q => by
  have h1 : (0 : Int) < j := hc.1
  have h2 : j < 1073741824 := hc.2
  exact floordiv_int (by omega) (by rw [Int.fdiv_eq_ediv_of_nonneg i (by omega)]; exact q) (.inl (PyProof.noPylong_small (by omega)))
theorem op_mod : OpR X (binaryOp .Mod) (rI (fun _ j => 0 < j) fun i j => .int (i % j)) := opI fun i j _ _ _ _ _ hc q => by
  have h1 : (0 : Int) < j := hc
  exact mod_int' (by omega) (by rw [Int.fmod_eq_emod_of_nonneg i (by omega)]; exact q)
theorem op_pow : OpR X (binaryOp .Pow) (rI CPow fun i j => .int (i ^ j.toNat)) := opI fun _ _ _ _ _ _ _ hc q => pow_int_small hc.1 hc.2.1 hc.2.2 q
theorem unI {f : Value->Sem Value} {g : Int->Int} (rule : ∀ (i : Int) (t : Tok) (s : Shared) (Q : Value->Shared->Prop) (E : Value->Shared->Prop), Q (.int (g i) s.toks) { s with toks := s.toks + 1 }->wpAny (model X.prog X.w) X.A (f (.int i t)) Q E s) :
    UnR X f (rU fun i => .int (g i)) := by
  intro pins s σ H x v Q I rx h
  obtain ⟨i, rfl, q⟩ := h
  obtain ⟨t, rfl⟩ := rx
  exact rule i t s _ _ ⟨.int (g i), H, I.tok _, ⟨_, rfl⟩, q⟩
theorem un_neg : UnR X (unaryOp .USub) (rU fun i => .int (-i)) := unI fun _ _ _ _ _ q => neg_int q
end
def scal : V->V->Bool
  | .non, .non => true | .non, .int _ => true | .int _, .non => true | .non, .bl _ => true | .bl _, .non => true | .non, .str _ => true | .str _, .non => true
  | .int _, .int _ => true | .bl _, .bl _ => true | .str _, .str _ => true | .byt _, .byt _ => true
  | .int _, .str _ => true | .str _, .int _ => true | .bl _, .str _ => true | .str _, .bl _ => true
  | _, _ => false
def rEq : R2 := fun x y H Q => scal x y = true/\Q (.bl (decide (x = y))) H
def rNe : R2 := fun x y H Q => scal x y = true/\Q (.bl (!decide (x = y))) H
theorem dec_int {i j : Int} : decide (V.int i = V.int j) = (i == j) := by
  rw [Bool.eq_iff_iff]
  simp
theorem dec_bl {i j : Bool} : decide (V.bl i = V.bl j) = (i == j) := by
  rw [Bool.eq_iff_iff]
  simp
theorem dec_str {i j : Str} : decide (V.str i = V.str j) = (i == j) := by
  rw [Bool.eq_iff_iff]
  simp
theorem dec_byt {i j : Array UInt8} : decide (V.byt i = V.byt j) = (i.toList == j.toList) := by
  rw [Bool.eq_iff_iff]
  cases i
  cases j
  simp
section
variable {X : Cx} {a b c : Expr} {ta tb tc : TE} {pos : Pos}
theorem fin_bl {pins : List (Addr × Obj)} {σ : St} {H : Hp} {s : Shared} {Q : VK} {k k' : Bool} (I : Inv X pins σ H s) (q : Q (.bl k) H) (e : k = k') : EP X pins σ Q (.bool k') s := by
  subst e
  exact ⟨.bl k, H, I, rfl, q⟩
theorem op_eq : OpR X (compareOp .Eq) rEq := by
  intro pins s σ H x y v u Q I rx ry h
  obtain ⟨hs, q⟩ := h
  cases x with
  | non =>
    cases rx
    cases y with
    | non => cases ry; exact PySem.EqNone.eq_none_none (fin_bl I q (by simp))
    | bl j => cases ry; exact PySem.EqNone.eq_none_bool (fin_bl I q (by simp))
    | int j => obtain ⟨t', rfl⟩ := ry; exact PySem.EqNone.eq_none_int (fin_bl I q (by simp))
    | str j => obtain ⟨t', rfl⟩ := ry; exact PySem.EqNone.eq_none_str (fin_bl I q (by simp))
    | _ => exact absurd (show false = true from hs) Bool.false_ne_true
  | bl i =>
    cases rx
    cases y with
    | non => cases ry; exact PySem.EqNone.eq_bool_none (fin_bl I q (by simp))
    | bl j => cases ry; exact eq_bool (fin_bl I q dec_bl)
    | str j => obtain ⟨t', rfl⟩ := ry; exact PySem.EqMixed.eq_bool_str (fin_bl I q (by simp))
    | _ => exact absurd (show false = true from hs) Bool.false_ne_true
  | int i =>
    obtain ⟨t, rfl⟩ := rx
    cases y with
    | non => cases ry; exact PySem.EqNone.eq_int_none (fin_bl I q (by simp))
    | int j => obtain ⟨t', rfl⟩ := ry; exact eq_int (fin_bl I q dec_int)
    | str j => obtain ⟨t', rfl⟩ := ry; exact PySem.EqMixed.eq_int_str (fin_bl I q (by simp))
    | _ => exact absurd (show false = true from hs) Bool.false_ne_true
  | str i =>
    obtain ⟨t, rfl⟩ := rx
    cases y with
    | non => cases ry; exact PySem.EqNone.eq_str_none (fin_bl I q (by simp))
    | bl j => cases ry; exact PySem.EqMixed.eq_str_bool (fin_bl I q (by simp))
    | int j => obtain ⟨t', rfl⟩ := ry; exact PySem.EqMixed.eq_str_int (fin_bl I q (by simp))
    | str j => obtain ⟨t', rfl⟩ := ry; exact eq_str (fin_bl I q dec_str)
    | _ => exact absurd (show false = true from hs) Bool.false_ne_true
  | byt i =>
    obtain ⟨t, rfl⟩ := rx
    cases y with
    | byt j => obtain ⟨t', rfl⟩ := ry; exact PySem.W.eq_bytes (fin_bl I q dec_byt)
    | _ => exact absurd (show false = true from hs) Bool.false_ne_true
  | _ => cases y <;> exact absurd (show false = true from hs) Bool.false_ne_true
theorem op_ne : OpR X (compareOp .NotEq) rNe := by
  intro pins s σ H x y v u Q I rx ry h
  obtain ⟨hs, q⟩ := h
  cases x with
  | non =>
    cases rx
    cases y with
    | non => cases ry; exact PySem.EqNone.ne_none_none (fin_bl I q (by simp))
    | bl j => cases ry; exact PySem.EqNone.ne_none_bool (fin_bl I q (by simp))
    | int j => obtain ⟨t', rfl⟩ := ry; exact PySem.EqNone.ne_none_int (fin_bl I q (by simp))
    | str j => obtain ⟨t', rfl⟩ := ry; exact PySem.EqNone.ne_none_str (fin_bl I q (by simp))
    | _ => exact absurd (show false = true from hs) Bool.false_ne_true
  | bl i =>
    cases rx
    cases y with
    | non => cases ry; exact PySem.EqNone.ne_bool_none (fin_bl I q (by simp))
    | bl j => cases ry; exact ne_bool (fin_bl I q (congrArg not dec_bl))
    | str j => obtain ⟨t', rfl⟩ := ry; exact PySem.EqMixed.ne_bool_str (fin_bl I q (by simp))
    | _ => exact absurd (show false = true from hs) Bool.false_ne_true
  | int i =>
    obtain ⟨t, rfl⟩ := rx
    cases y with
    | non => cases ry; exact PySem.EqNone.ne_int_none (fin_bl I q (by simp))
    | int j => obtain ⟨t', rfl⟩ := ry; exact ne_int (fin_bl I q (congrArg not dec_int))
    | str j => obtain ⟨t', rfl⟩ := ry; exact PySem.EqMixed.ne_int_str (fin_bl I q (by simp))
    | _ => exact absurd (show false = true from hs) Bool.false_ne_true
  | str i =>
    obtain ⟨t, rfl⟩ := rx
    cases y with
    | non => cases ry; exact PySem.EqNone.ne_str_none (fin_bl I q (by simp))
    | bl j => cases ry; exact PySem.EqMixed.ne_str_bool (fin_bl I q (by simp))
    | int j => obtain ⟨t', rfl⟩ := ry; exact PySem.EqMixed.ne_str_int (fin_bl I q (by simp))
    | str j => obtain ⟨t', rfl⟩ := ry; exact ne_str (fin_bl I q (congrArg not dec_str))
    | _ => exact absurd (show false = true from hs) Bool.false_ne_true
  | byt i =>
    obtain ⟨t, rfl⟩ := rx
    cases y with
    | byt j => obtain ⟨t', rfl⟩ := ry; exact PySem.W.ne_bytes (fin_bl I q (congrArg not dec_byt))
    | _ => exact absurd (show false = true from hs) Bool.false_ne_true
  | _ => cases y <;> exact absurd (show false = true from hs) Bool.false_ne_true
theorem op_lt : OpR X (compareOp .Lt) (rI0 fun i j => .bl (decide (i < j))) := opB0 fun _ _ _ _ _ _ _ q => lt_int q
theorem op_le : OpR X (compareOp .LtE) (rI0 fun i j => .bl (decide (i ≤ j))) := opB0 fun _ _ _ _ _ _ _ q => le_int q
theorem op_gt : OpR X (compareOp .Gt) (rI0 fun i j => .bl (decide (j < i))) := opB0 fun _ _ _ _ _ _ _ q => gt_int q
theorem op_ge : OpR X (compareOp .GtE) (rI0 fun i j => .bl (decide (j ≤ i))) := opB0 fun _ _ _ _ _ _ _ q => ge_int q
theorem op_in_str : OpR X (compareOp .In) (fun x y H Q => ∃ i j, x = .str i/\y = .str j/\Q (.bl (!(Builtin.Str.occurrences j i 0 j.length 1).isEmpty)) H) := by
  intro pins s σ H x y v u Q I rx ry h
  obtain ⟨i, j, rfl, rfl, q⟩ := h
  obtain ⟨t, rfl⟩ := rx
  obtain ⟨t', rfl⟩ := ry
  exact in_str (fin_bl I q rfl)
theorem nomark (b : Expr) {op : CmpOp} (h : op ≠ .In := by decide) (h2 : op ≠ .NotIn := by decide) : behindInMarks op b = false := by
  have e1 : (op == CmpOp.In) = false := by cases op <;> first | rfl | exact absurd rfl h
  have e2 : (op == CmpOp.NotIn) = false := by cases op <;> first | rfl | exact absurd rfl h2
  cases b <;> simp [behindInMarks, e1, e2]
theorem pe_cmpR {op : CmpOp} {r : R2} (ho : OpR X (compareOp op) r) (ha : PE X a ta) (hb : PE X b tb) (hm : behindInMarks op b = false) : PE X (.Compare a [op] [b] pos) (tOp r ta tb) := by
  intro pins s σ H Q I h
  exact wpAny_Compare1 (binT ha hb I h fun v u s2 x y H2 I2 rx ry q => ho pins s2 σ H2 x y v u Q I2 rx ry q) hm
def tTest (t : TE) : TT := fun σ H Q => t σ H fun x H' => ∃ k, x = .bl k/\Q k H'
theorem pt_cmpR {op : CmpOp} {r : R2} (ho : OpR X (compareOp op) r) (ha : PE X a ta) (hb : PE X b tb) (hm : behindInMarks op b = false) : PT X (.Compare a [op] [b] pos) (tTest (tOp r ta tb)) := by
  intro pins s σ H Q I h
  refine wpAny_isTrue_Compare1 (thn (ha pins s σ H _ I h) fun v s1 ⟨x, H1, I1, r1, q1⟩ => thn (hb pins s1 σ H1 _ I1 q1) fun u s2 ⟨y, H2, I2, r2, q2⟩ =>
    thn (ho pins s2 σ H2 x y v u _ I2 r1 r2 q2) fun c s3 ⟨z, H3, I3, r3, k, e, q3⟩ => ?_) hm
  subst e
  cases r3
  exact wpAny_truthy_bool ⟨H3, I3, q3⟩
def tChain (r r' : R2) (ta tb tc : TE) : TE := fun σ H Q => ta σ H fun x H1 => tb σ H1 fun y H2 => r x y H2 fun z H3 => ∃ k, z = .bl k ∧
  (if k = true then tc σ H3 fun w' H4 => r' y w' H4 Q else Q (.bl false) H3)
theorem pe_chain {op op' : CmpOp} {r r' : R2} (ho : OpR X (compareOp op) r) (ho' : OpR X (compareOp op') r') (ha : PE X a ta) (hb : PE X b tb) (hc : PE X c tc) (hm : lastMarks [op, op'] [b, c] = false := by with_unfolding_all rfl) : PE X (.Compare a [op, op'] [b, c] pos) (tChain r r' ta tb tc) := by
  intro pins s σ H Q I h
  refine Compare_chain (thn (ha pins s σ H _ I h) fun v s1 ⟨x, H1, I1, r1, q1⟩ => chain_link (thn (hb pins s1 σ H1 _ I1 q1) fun u s2 ⟨y, H2, I2, r2, q2⟩ =>
    thn (ho pins s2 σ H2 x y v u _ I2 r1 r2 q2) fun d s3 ⟨z, H3, I3, r3, k, e, q3⟩ => ?_)) hm
  subst e
  cases r3
  refine wpAny_truthy_bool ?_
  cases k with
  | false => exact ite_ff ⟨.bl false, H3, I3, rfl, q3⟩
  | true => exact ite_tt (chain_last (thn (hc pins s3 σ H3 _ I3 q3) fun w' s4 ⟨z', H4, I4, r4, q4⟩ => ho' pins s4 σ H4 y z' u w' Q I4 r2 r4 q4))
theorem line63 : (sizeLine : Nat) < 2 ^ 63 := by rw [sizeLine_eq]; decide
theorem op_add_str : OpR X (binaryOp .Add) (fun x y H Q => ∃ i j, x = .str i/\y = .str j/\i.length + j.length ≤ sizeLine/\Q (.str (i ++ j)) H) := by
  intro pins s σ H x y v u Q I rx ry h
  obtain ⟨i, j, rfl, rfl, hz, q⟩ := h
  obtain ⟨t, rfl⟩ := rx
  obtain ⟨t', rfl⟩ := ry
  exact add_str (fun t' tk => ⟨.str (i ++ j), H, I.tok _, ⟨_, rfl⟩, q⟩) hz
theorem vals1 {x : V} {us : List Value} (r : Vals [x] us) : ∃ u, us = [u]/\RelV x u := by
  cases r with
  | cons r1 r2 => cases r2; exact ⟨_, rfl, r1⟩
theorem vals2 {x y : V} {us : List Value} (r : Vals [x, y] us) : ∃ u w', us = [u, w']/\RelV x u/\RelV y w' := by
  cases r with
  | cons r1 r2 =>
    cases r2 with
    | cons r3 r4 => cases r4; exact ⟨_, _, rfl, r1, r3⟩
theorem call_max2 (hc : X.calm = true) : CallR X (.builtin "max") (fun xs H Q => ∃ i j, xs = [.int i, .int j]/\Q (.int (if j > i then j else i)) H) := by
  intro pins s σ H xs us Q I r h
  obtain ⟨i, j, rfl, q⟩ := h
  obtain ⟨u, w', rfl, ⟨t, rfl⟩, ⟨t', rfl⟩⟩ := vals2 r
  refine max_two_ints (I.ok.hd hc) fun h' tk k => ⟨_, H, I.kept k, ?_, q⟩
  by_cases hj : j > i
  · rw [if_pos hj, if_pos hj]; exact ⟨_, rfl⟩
  · rw [if_neg hj, if_neg hj]; exact ⟨_, rfl⟩
theorem call_int1 : CallR X (.type "int") (fun xs H Q => (∃ i, xs = [.int i]/\Q (.int i) H) ∨ ∃ k, xs = [.bl k]/\Q (.int (if k then 1 else 0)) H) := by
  intro pins s σ H xs us Q I r h
  rcases h with ⟨i, rfl, q⟩ | ⟨k, rfl, q⟩
  · obtain ⟨u, rfl, t, rfl⟩ := vals1 r
    exact call_int_int ⟨.int i, H, I, ⟨_, rfl⟩, q⟩
  · obtain ⟨u, rfl, r1⟩ := vals1 r
    cases r1
    exact call_int_bool ⟨.int (if k then 1 else 0), H, I.tok _, ⟨_, rfl⟩, q⟩
theorem call_str_int : CallR X (.type "str") (fun xs H Q => ∃ i, xs = [.int i]/\i.natAbs.log2 < 1920/\Q (.str (toString i)) H) := by
  intro pins s σ H xs us Q I r h
  obtain ⟨i, rfl, hz, q⟩ := h
  obtain ⟨u, rfl, t, rfl⟩ := vals1 r
  exact PySem.P.str_of_int hz ⟨.str _, H, I.tok _, ⟨_, rfl⟩, q⟩
end
end L2
namespace L2
open PySem PySem.Spec PyProof.Rows
structure ObjM (h : Heap) (x dx C : Addr) (mA : Str->Option Value) : Prop where
  obj : h.get? x = some (PySem.W.instObj C dx)
  ns : h.Ns1 dx mA
  ne : dx ≠ x
theorem lookIn_ns {h : Heap} {dx : Addr} {mA : Str->Option Value} (n : h.Ns1 dx mA) : ∃ od, h.get? dx = some od/\∀ name, PySem.W.lookIn name od = some (mA name) := by
  obtain ⟨o, es, ep, ho, hd, hk, _, hm⟩ := n
  refine ⟨o, ho, fun name => ?_⟩
  have e := hm name
  unfold nsFind findBy at e
  rw [← Array.find?_toList] at e
  unfold PySem.W.lookIn
  rw [hd]
  dsimp only
  split
  · rename_i y q
    rw [q] at e
    exact congrArg some e
  · rename_i q
    rw [q] at e
    have a : es.toList.any (·.refKey) = false := by
      rw [List.any_eq_false]
      intro y hy
      obtain ⟨z, t, hkey⟩ := hk y (Array.mem_toList_iff.mp hy)
      simp [DictEntry.refKey, hkey]
    have a' : ¬ es.toList.any (·.refKey) = true := by rw [a]; exact Bool.false_ne_true
    rw [if_neg a']
    exact congrArg some e
theorem ObjM.look {h : Heap} {x dx C : Addr} {mA : Str->Option Value} (I : ObjM h x dx C mA) : ∃ od, PySem.W.InstAt h x (PySem.W.instObj C dx) C (some od)/\∀ name, PySem.W.lookIn name od = some (mA name) :=
  let ⟨od, ho, hl⟩ := lookIn_ns I.ns
  ⟨od, ⟨I.obj, rfl, rfl, ho⟩, hl⟩
section
variable {prog : Program} {w : World} {A : Around} {E : Value->Shared->Prop} {s : Shared} {K : PySem.W.Frag} {x dx C f : Addr} {mA : Str->Option Value} {name : Str} {v : Value}
end
section
variable {P : Program} {w : World} {H H' : Hp} {h h' : Heap} {a C dx : Addr} {fs fs' : List (Str × V)}
theorem ins_get (hok : HOk P w H h) (e : H a = some (.ins C dx fs)) : ∃ mA, ObjM h a dx C mA/\(∀ f, RelO (fs.lookup f) (mA f))/\PySem.Within mA (fs.map (·.1))/\fs.length ≤ 1000/\H dx = some (.own a) := by
  obtain ⟨d, z, ne, ob, mA, n, r, q⟩ := (show ObjOk P w H h a (.ins C dx fs) from hok a _ e)
  exact ⟨mA, ⟨ob, n, ne⟩, r, q, z, d⟩
end
structure Cls (K : PySem.W.Frag) (C : Addr) : Prop where
  pg : PySem.W.plainGet K C Str.empty = true
  hd : PySem.W.hasDictIn K C = true
  po : PySem.W.plainOver K C = true
  sa : PySem.W.findIn K (.ref C) "__setattr__" = some (some (.builtin "object.__setattr__"))
theorem Cls.get {K : PySem.W.Frag} {C : Addr} (c : Cls K C) (f : Str) : PySem.W.plainGet K C f = true := c.pg
section
variable {X : Cx} {pins : List (Addr × Obj)} {σ : St} {H : Hp} {s : Shared} {a C dx : Addr} {fs : List (Str × V)} {f : Str} {v : V} {A : Around} {E : Value->Shared->Prop}
end
section
variable {X : Cx} {o e value : Expr} {f : Str} {pos pos' tpos : Pos} {ta tv : TE}
end
section
variable {X : Cx} {pins : List (Addr × Obj)} {σ : St} {H : Hp} {s : Shared} {A : Around} {E : Value->Shared->Prop} {Q : Value->Shared->Prop} {c : Value} {b : Bool}
inductive TyOf (K : PySem.W.Frag) (H : Hp) : V->Value->Prop where
  | non : TyOf K H .non (.type "NoneType")
  | bl (x : Bool) : TyOf K H (.bl x) (.type "bool")
  | int (i : Int) : TyOf K H (.int i) (.type "int")
  | str (x : Str) : TyOf K H (.str x) (.type "str")
  | flt (x : UInt64) : TyOf K H (.flt x) (.type "float")
  | lst {a : Addr} {xs : List V} (e : H a = some (.lst xs)) : TyOf K H (.ref a) (.type "list")
  | frz {a : Addr} {o : Obj} {xs : List V} (e : H a = some (.frz o (.lst xs))) : TyOf K H (.ref a) (.type "list")
  | tup {a : Addr} {xs : List V} (e : H a = some (.tup xs)) : TyOf K H (.ref a) (.type "tuple")
  | dK {a : Addr} {kvs : List (Key × V)} (e : H a = some (.dK kvs)) : TyOf K H (.ref a) (.type "dict")
  | dT {a : Addr} {kvs : List (List Key × V)} (e : H a = some (.dT kvs)) : TyOf K H (.ref a) (.type "dict")
  | ins {a C dx : Addr} {fs : List (Str × V)} (e : H a = some (.ins C dx fs)) (cl : Cls K C) (ha : PySem.W.findIn K (.ref C) "__class__" = some (some (.builtin "object.__class__")))
      (hn : PySem.W.specialIn K (.builtin "object.__class__") "__get__" = some (some (.builtin "getset_descriptor.__get__"))) (htk : PySem.W.takesIn K (.builtin "object.__class__") = some true)
      (hm : PySem.W.mroIn K C (.type "object") = some true) : TyOf K H (.ref a) (.ref C)
theorem isinst_ok {x : V} {u t : Value} (I : Inv X pins σ H s) (rx : RelV x u) (ty : TyOf X.K H x t) (e : PySem.W.kitOne X.K t c = some b) (h : ∀ tk, Q (.bool b) { s with toks := tk }) :
    wpAny (model X.prog X.w) A (call (.builtin "isinstance") [u, c]) Q E s := by
  cases ty with
  | non => cases (show u = Value.none from rx); exact PySem.W.kia_one PySem.W.kitx_none I.kIn True.intro e (fun z => nomatch z) h
  | bl y => cases (show u = Value.bool y from rx); exact PySem.W.kia_one PySem.W.kitx_bool I.kIn True.intro e (fun z => nomatch z) h
  | int i => obtain ⟨t, q⟩ := (show ∃ t, u = Value.int i t from rx); cases q; exact PySem.W.kia_one PySem.W.kitx_int I.kIn True.intro e (fun z => nomatch z) h
  | str y => obtain ⟨t, q⟩ := (show ∃ t, u = Value.str y t from rx); cases q; exact PySem.W.kia_one PySem.W.kitx_str I.kIn True.intro e (fun z => nomatch z) h
  | flt y => obtain ⟨t, q⟩ := (show ∃ t, u = Value.float y t from rx); cases q; exact PySem.W.kia_one PySem.W.kitx_float I.kIn True.intro e (fun z => nomatch z) h
  | @lst a xs ea =>
    cases (show u = Value.ref a from rx)
    obtain ⟨_, _, n, _, h1⟩ := (show ObjOk X.prog X.w H s.heap a (.lst xs) from I.hok a _ ea)
    exact PySem.W.kia_one PySem.W.kitx_list I.kIn ⟨_, h1, rfl⟩ e (fun z => nomatch z) h
  | @frz a ob xs ea =>
    cases (show u = Value.ref a from rx)
    obtain ⟨_, _, _, n, _, h1⟩ := (show ObjOk X.prog X.w H s.heap a (.frz ob (.lst xs)) from I.hok a _ ea)
    exact PySem.W.kia_one PySem.W.kitx_list I.kIn ⟨_, h1, rfl⟩ e (fun z => nomatch z) h
  | @tup a xs ea =>
    cases (show u = Value.ref a from rx)
    obtain ⟨_, _, _, p⟩ := (show ObjOk X.prog X.w H s.heap a (.tup xs) from I.hok a _ ea)
    obtain ⟨o, h1, h2, _⟩ := p
    exact PySem.W.kia_one PySem.W.kitx_tuple I.kIn ⟨o, h1, h2⟩ e (fun z => nomatch z) h
  | @dK a kvs ea =>
    cases (show u = Value.ref a from rx)
    obtain ⟨_, _, vs, _, p⟩ := (show ObjOk X.prog X.w H s.heap a (.dK kvs) from I.hok a _ ea)
    obtain ⟨o, es, ep, h1, h2, _⟩ := p
    exact PySem.W.kia_one PySem.W.kitx_dict I.kIn ⟨o, h1, h2.1⟩ e (fun z => nomatch z) h
  | @dT a kvs ea =>
    cases (show u = Value.ref a from rx)
    obtain ⟨_, _, xs, _, o, es, ep, h1, h2, _⟩ := (show ObjOk X.prog X.w H s.heap a (.dT kvs) from I.hok a _ ea)
    exact PySem.W.kia_one PySem.W.kitx_dict I.kIn ⟨o, h1, h2.1⟩ e (fun z => nomatch z) h
  | @ins a C dx fs ea cl ha hn htk hm =>
    cases (show u = Value.ref a from rx)
    obtain ⟨mA, O, _⟩ := ins_get I.hok ea
    obtain ⟨od, J, _⟩ := O.look
    exact PySem.W.kia_one (PySem.W.kitx_own (cl.get _) cl.hd ha hn htk hm) I.kIn J e (fun z => nomatch z) h
end
end L2
namespace L2
open PySem PySem.Spec PyProof.Rows
structure Room (k : Nat) (A : Around) : Prop where
  hd : A.handled = none
  dp : A.depth + 3 * k + 5 < recursionLimit
  un : A.units + 16 * k + 200 < cLine
theorem Room.mono {j k : Nat} {A : Around} (r : Room k A) (h : j ≤ k) : Room j A := ⟨r.hd, by have := r.dp; omega, by have := r.un; omega⟩
theorem Room.deeper {k : Nat} {A : Around} (r : Room (k + 1) A) (env : Env) : Room k (A.deeper env) :=
  ⟨r.hd, by have := r.dp; show A.depth + 1 + 3 * k + 5 < _; omega, by have := r.un; show A.units + 3 + 16 * k + 200 < _; omega⟩
theorem Room.depth {k : Nat} {A : Around} (r : Room k A) : A.depth < recursionLimit := by have := r.dp; omega
theorem Room.units {k : Nat} {A : Around} (r : Room k A) : A.units + 64 < cLine := by have := r.un; omega
def tNil : TA := fun _ H Q => Q [] H
def tCons (ta : TE) (tr : TA) : TA := fun σ H Q => ta σ H fun x H1 => tr σ H1 fun xs H2 => Q (x :: xs) H2
section
variable {X : Cx} {e : Expr} {es : List Expr} {te : TE} {t : TA} {pos : Pos}
theorem pa_nil : PA X [] tNil := fun _ _ _ _ H Q I h => Calls.spliced_nil ⟨[], H, I, .nil, h⟩
theorem pa_cons (ha : PE X e te) (hr : PA X es t) (hs : starEach (e :: es) X.env = (false, eval e X.env) :: starEach es X.env := by rfl) : PA X (e :: es) (tCons te t) := by
  intro pos pins s σ H Q I h
  rw [hs]
  show wpAny _ _ (spliced ((false, eval e X.env) :: backTo pos (starEach es X.env))) _ _ s
  refine Calls.spliced_cons (thn (ha pins s σ H _ I h) fun u s1 ⟨x, H1, I1, r1, q1⟩ => ?_)
  exact thn (hr pos pins s1 σ H1 _ I1 q1) fun us s2 ⟨xs, H2, I2, r2, q2⟩ => ⟨x :: xs, H2, I2, .cons r1 r2, q2⟩
def tTup (t : TA) : TE := fun σ H Q => t σ H fun xs H1 => xs.length ≤ sizeLine/\∀ p, H1 p = none->Q (.ref p) (upd H1 p (.tup xs))
def tLst (t : TA) : TE := fun σ H Q => t σ H fun xs H1 => xs.length ≤ sizeLine/\∀ p, H1 p = none->Q (.ref p) (upd H1 p (.lst xs))
theorem pe_tup {x1} (h : PA X es t) : PE X (.Tuple es x1 pos) (tTup t) := by
  intro pins s σ H Q I hq
  refine wpAny_Tuple_spliced (thn (h pos pins s σ H _ I hq) fun us s1 ⟨xs, H1, I1, r, z, q⟩ => ⟨by rw [← r.length]; exact z, ?_⟩)
  have hf : H1 s1.heap.objs.size = none := I1.hok.fresh (Nat.le_refl _)
  refine ⟨.ref s1.heap.objs.size, upd H1 s1.heap.objs.size (.tup xs), I1.laid (t' := s1.toks) (fun b u e => Heap.get?_push_of_some _ e) (Nat.le_refl _) ?_, rfl, q _ hf⟩
  exact ⟨z, us, r, ⟨_, Heap.get?_push_size _ rfl, rfl, _, rfl⟩⟩
theorem pe_lst (h : PA X es t) : PE X (.List es pos) (tLst t) := by
  intro pins s σ H Q I hq
  refine wpAny_List_spliced (thn (h pos pins s σ H _ I hq) fun us s1 ⟨xs, H1, I1, r, z, q⟩ => ⟨by rw [← r.length]; exact z, ?_⟩)
  have hf : H1 s1.heap.objs.size = none := I1.hok.fresh (Nat.le_refl _)
  refine ⟨.ref s1.heap.objs.size, upd H1 s1.heap.objs.size (.lst xs), I1.laid (t' := s1.toks) (fun b u e => Heap.get?_push_of_some _ e) (Nat.le_refl _) ?_, rfl, q _ hf⟩
  exact ⟨z, us, 0, r, Heap.get?_push_size _ rfl⟩
end
abbrev Sp := List V->Hp->VK->XK->Prop
abbrev CXT := List Env->Hp->Shared->XK->Value->Shared->Prop
structure Env0 (P : Program) (w : World) (K : PySem.W.Frag) (mg : Str->Option Value) (base : Heap) (A : Around) (outer : List Env) (s : Shared) (H : Hp) : Prop where
  frames : A.frames = some outer
  mod : Mod K mg base
  bs : ∀ b o, base.get? b = some o->s.heap.get? b = some o/\H b = none
  bsz : base.objs.size ≤ s.heap.objs.size
  funs : s.heap.FunFrames base outer
  frf : ∀ b ∈ frs outer, H b = none
  hok : HOk P w H s.heap
  bare : AllBare s.gens
def CE (outer : List Env) (P : Program) (w : World) (H : Hp) (s : Shared) (Q : VK) (u : Value) (s' : Shared) : Prop :=
  ∃ v H', s'.os = s.os/\AllBare s'.gens/\Un (frs outer) [] H H' s.heap s'.heap/\HOk P w H' s'.heap/\RelV v u/\Q v H'
def CR (CX : CXT) (outer : List Env) (P : Program) (w : World) (H : Hp) (s : Shared) (Q : VK) (E : XK) (r : Result) (s' : Shared) : Prop :=
  match r with
  | .ok (.ret u) => CE outer P w H s Q u s'
  | .ok _ => False
  | .error e => CX outer H s E e s'
structure FnOk (P : Program) (w : World) (K : PySem.W.Frag) (mg : Str->Option Value) (base : Heap) (CX : CXT) (k : Nat) (f : Addr) (fd : FuncData) (ps : List Str) (sp : Sp) : Prop where
  len : ∀ vs H Q E, sp vs H Q E->vs.length = ps.length
  run : ∀ (A : Around) (outer : List Env) (s : Shared) (H : Hp) (args : Args) (us : List Value) (vs : List V) (Q : VK) (E : XK), Room k A->Env0 P w K mg base A outer s H->BindsTo s fd args (ps.zip us)->Vals vs us->sp vs H Q E →
    codeAny (model P w) A (.call (.ref f) args) (CR CX outer P w H s Q E) s
section
variable {X : Cx} {pins : List (Addr × Obj)} {σ : St} {H : Hp} {s s' : Shared}
theorem Inv.env0 (I : Inv X pins σ H s) : Env0 X.prog X.w X.K X.mg X.base X.A X.stack s H :=
  ⟨I.ok.frames, I.ok.mod, I.bs, Nat.le_trans I.ok.bsz I.sz, I.stack, I.stkFree, I.hok, I.bare⟩
theorem Inv.after {Q : VK} {u : Value} (I : Inv X pins σ H s) (h : CE X.stack X.prog X.w H s Q u s') : EP X pins σ Q u s' := by
  obtain ⟨v, H', os, bare, un, hok, r, q⟩ := h
  obtain ⟨hh, g, d, t, os'⟩ := s'
  obtain rfl : os' = s.os := os
  exact ⟨v, H', I.call (h' := hh) (g' := g) (d' := d) (t' := t) (ch := []) un hok bare (fun b z => absurd z (by simp)), r, q⟩
end
def tCall (sp : Sp) (dvs : List V) (E : XK) (t : TA) : TE := fun σ H Q => t σ H fun vs H1 => sp (vs ++ dvs) H1 Q E
def Binds (K : PySem.W.Frag) (fd : FuncData) (ps : List Str) (ds : List Value) : Prop :=
  ∀ (s : Shared) (us : List Value), K.In s.heap->(us ++ ds).length = ps.length->BindsTo s fd ⟨us, []⟩ (ps.zip (us ++ ds))
theorem Binds.all {K : PySem.W.Frag} {fd : FuncData} {ps : List Str} (h : ∀ us : List Value, us.length = ps.length->bindArgs fd ⟨us, []⟩ = pure (ps.zip us)) : Binds K fd ps [] := fun s us _ hl => by
  rw [List.append_nil] at hl ⊢
  exact .of_eq (h us hl)
def Passes (CX : CXT) (X : Cx) (E : XK) : Prop := ∀ (pins : List (Addr × Obj)) (σ : St) (H : Hp) (s : Shared) (e : Value) (s' : Shared), Inv X pins σ H s->CX X.stack H s E e s'->X.xe e s'
section
variable {X : Cx} {CX : CXT} {k : Nat} {f C : Addr} {fd : FuncData} {ps : List Str} {sp : Sp} {dvs : List V} {ds : List Value} {E : XK} {x m : Str} {p pos apos : Pos} {e o : Expr} {es : List Expr} {ta : TE} {t : TA}
theorem run_fn {pins : List (Addr × Obj)} {σ : St} {H : Hp} {s : Shared} {Q : VK} {us : List Value} {vs : List V} (F : FnOk X.prog X.w X.K X.mg X.base CX k f fd ps sp) (hr : Room k X.A) (hb : Binds X.K fd ps ds) (hd : Vals dvs ds) (hx : Passes CX X E) (I : Inv X pins σ H s) (r : Vals vs us) (h : sp (vs ++ dvs) H Q E) : wpAny (model X.prog X.w) X.A (call (.ref f) us) (EP X pins σ Q) X.xe s := by
  have r2 : Vals (vs ++ dvs) (us ++ ds) := r.append hd
  have hl : (us ++ ds).length = ps.length := by rw [← r2.length]; exact F.len _ _ _ _ h
  refine wpAny_call (codeAny_mono (F.run X.A X.stack s H ⟨us, []⟩ (us ++ ds) (vs ++ dvs) Q E hr I.env0 (hb s us I.kIn hl) r2 h) fun r s' hq => ?_)
  cases r with
  | error e => exact hx pins σ H s e s' I hq
  | ok fl =>
    cases fl with
    | ret u => exact I.after hq
    | next => exact False.elim hq
    | brk => exact False.elim hq
    | cont => exact False.elim hq
theorem pe_call (F : FnOk X.prog X.w X.K X.mg X.base CX k f fd ps sp) (hr : Room k X.A) (hg : Gl X x) (hm : X.mg x = some (.ref f)) (hk : PySem.W.keepIn X.K (.ref f) = true) (hb : Binds X.K fd ps ds) (hd : Vals dvs ds) (hx : Passes CX X E) (ha : PA X (e :: es) t) (hdb : (x == ("__debug__" : Str)) = false := by decide) (he : starEach (e :: es) X.env = (false, eval e X.env) :: starEach es X.env := by rfl) (hpl : (backTo pos (starEach es X.env)).any (·.1) = false := by rfl) :
    PE X (.Call (.Name x p) (e :: es) [] pos) (tCall sp dvs E t) := by
  intro pins s σ H Q I h
  refine wpAny_Call_Name_kw (ld_glob I hg hm ?_ hdb)
  refine PySem.W.callWith_K (h₀ := X.base) I.ok.mod.kin hk (thn (ha pos pins s σ H _ I h) fun us s1 ⟨vs, H1, I1, r, q⟩ => ⟨I1.kIn, ?_⟩) he hpl
  exact run_fn F hr hb hd hx I1 r q
end
section
variable {X : Cx} {CX : CXT} {k : Nat} {f C : Addr} {fd : FuncData} {ps ks : List Str} {sp : Sp} {E : XK} {x m : Str} {p pos apos kpos : Pos} {e o : Expr} {es : List Expr} {kws : List Keyword} {te ta : TE} {t tk : TA} {nm : Option Str}
variable {g : List Value->List Value->List Value} {gV : List V->List V->List V}
end
structure FnScope (N P : List Str) (sc : Scope) : Prop where
  kind : sc.kind = .function
  co : sc.isCoroutine = false
  gen : sc.isGenerator = false
  nd : N.Nodup
  pre : N.take P.length = P
  par : ∀ x ∈ P, sc.names.lookup x = some .local ∨ sc.names.lookup x = some .cell
  nofree : ∀ y ∈ sc.names, y.2 ≠ .free
theorem bindL_out {kindOf : Str->Option NameKind} {x : Str} : ∀ {binds : List (Str × Value)} {m : Str->Option Value}, (∀ v, (x, v) ∉ binds)->bindL kindOf binds m x = m x
  | [], _, _ => rfl
  | (n, v) :: r, m, h => by
    unfold bindL
    rw [bindL_out fun w hw => h w (List.mem_cons_of_mem _ hw)]
    split
    · have : x ≠ n := by rintro rfl; exact h v List.mem_cons_self
      simp [this]
    · rfl
theorem bindC_out {kindOf : Str->Option NameKind} {x : Str} : ∀ {binds : List (Str × Value)} {m : Str->Option Value}, (∀ v, (x, v) ∉ binds)->bindC kindOf binds m x = m x
  | [], _, _ => rfl
  | (n, v) :: r, m, h => by
    unfold bindC
    rw [bindC_out fun w hw => h w (List.mem_cons_of_mem _ hw)]
    split
    · rfl
    · have : x ≠ n := by rintro rfl; exact h v List.mem_cons_self
      simp [this]
theorem bindL_get {kindOf : Str->Option NameKind} {x : Str} {v : Value} : ∀ {P : List Str} {vs : List Value} {i : Nat} {m : Str->Option Value}, P.Nodup->P[i]? = some x->vs[i]? = some v->kindOf x = some .local →
    bindL kindOf (P.zip vs) m x = some v
  | [], _, _, _, _, h, _, _ => by simp at h
  | _ :: _, [], _, _, _, _, h, _ => by simp at h
  | p :: P, w :: vs, 0, m, nd, h1, h2, hk => by
    simp at h1 h2; subst h1; subst h2
    show bindL kindOf ((p, w) :: P.zip vs) m p = _
    unfold bindL
    rw [bindL_out fun v hv => (List.nodup_cons.mp nd).1 (List.of_mem_zip hv).1, if_pos hk]
    simp
  | p :: P, w :: vs, i + 1, m, nd, h1, h2, hk => by
    show bindL kindOf ((p, w) :: P.zip vs) m x = _
    unfold bindL
    exact bindL_get (i := i) (List.nodup_cons.mp nd).2 (by simpa using h1) (by simpa using h2) hk
theorem bindC_get {kindOf : Str->Option NameKind} {x : Str} {v : Value} : ∀ {P : List Str} {vs : List Value} {i : Nat} {m : Str->Option Value}, P.Nodup->P[i]? = some x->vs[i]? = some v->kindOf x ≠ some .local →
    bindC kindOf (P.zip vs) m x = some v
  | [], _, _, _, _, h, _, _ => by simp at h
  | _ :: _, [], _, _, _, _, h, _ => by simp at h
  | p :: P, w :: vs, 0, m, nd, h1, h2, hk => by
    simp at h1 h2; subst h1; subst h2
    show bindC kindOf ((p, w) :: P.zip vs) m p = _
    unfold bindC
    rw [bindC_out fun v hv => (List.nodup_cons.mp nd).1 (List.of_mem_zip hv).1, if_neg hk]
    simp
  | p :: P, w :: vs, i + 1, m, nd, h1, h2, hk => by
    show bindC kindOf ((p, w) :: P.zip vs) m x = _
    unfold bindC
    exact bindC_get (i := i) (List.nodup_cons.mp nd).2 (by simpa using h1) (by simpa using h2) hk
def start (N : List Str) (vs : List V) : St := vs.map some ++ List.replicate (N.length - vs.length) none
def cxOf (CX : CXT) (P : Program) (w : World) (K : PySem.W.Frag) (mg : Str->Option Value) (base : Heap) (N : List Str) (qual : Str) (scope : Scope) (f : Addr) (cd : Value) (A : Around) (outer : List Env) (s : Shared) (H : Hp) (E : XK) : Cx where
  prog := P
  w := w
  K := K
  mg := mg
  base := base
  A := A.deeper (envOfC qual scope s.heap.objs.size f cd)
  N := N
  s₀ := s
  H₀ := H
  env := envOfC qual scope s.heap.objs.size f cd
  outer := outer
  stack := envOfC qual scope s.heap.objs.size f cd :: outer
  ex := []
  calm := true
  fn := fun _ => true
  pn := []
  xe := fun e s' => wpAny (model P w) (A.deeper (envOfC qual scope s.heap.objs.size f cd)) (leaving (envOfC qual scope s.heap.objs.size f cd) e) (fun _ s'' => CX outer H s E e s'') (fun e' s'' => CX outer H s E e' s'') s'
theorem cell_has {sc : Scope} {n : Nat} {x : Str} (h : sc.names.lookup x = some .cell) : ∃ c, (cellsFrom n sc.names []).lookup x = some c := by
  have q := PySem.W.cellsFrom_some sc.names n [] (.inl h)
  exact Option.isSome_iff_exists.mp q
theorem inv_start {CX : CXT} {P : Program} {w : World} {K : PySem.W.Frag} {mg : Str->Option Value} {base : Heap} {N ps : List Str} {qual : Str} {scope : Scope} {f : Addr} {cd : Value} {A : Around} {outer : List Env} {s s1 : Shared} {H : Hp} {E : XK} {us : List Value} {vs : List V} (S : FnScope N ps scope) (hd : A.handled = none) (e0 : Env0 P w K mg base A outer s H) (hl : vs.length = ps.length) (r : Vals vs us) (x : InCallC s s.heap.objs.size (bindL (envOfC qual scope s.heap.objs.size f cd).kindOf (ps.zip us) fun _ => none) (cellsFrom (s.heap.objs.size + 1) scope.names []) (bindC (envOfC qual scope s.heap.objs.size f cd).kindOf (ps.zip us) fun _ => none) s1) : Inv (cxOf CX P w K mg base N qual scope f cd A outer s H E) [] (start N vs) H s1 := by
  have hpl : ps.length ≤ N.length := by have := congrArg List.length S.pre; rw [List.length_take] at this; omega
  obtain ⟨h1, tk, rfl, hk⟩ := x.done
  have noA : ∀ b : Addr, b ∉ (cxOf CX P w K mg base N qual scope f cd A outer s H E).ex := fun b z => absurd (show b ∈ ([] : List Addr) from z) (by simp)
  refine ⟨⟨e0.mod, S.kind, rfl, rfl, Nat.le_refl _, fun y z c h1 h2 => ?_, fun y hy => ?_, fun y c _ h => ?_, fun _ => hd, Around.frames_deeper e0.frames, .inr ⟨rfl, rfl⟩, fun b z => absurd z (noA b), e0.bs, e0.bsz, fun b _ _ => noA b, fun b z => absurd z (noA b), e0.funs, e0.frf⟩,
    rfl, e0.bare, Un.kept hk, ⟨_, x.toInCall.ns, fun i y v h1 h2 h3 => ?_⟩, fun y c h => ⟨_, x.cell y c h⟩, e0.hok.fresh (Nat.le_refl _), fun y c h => ?_, fun p hp => absurd (show p ∈ ([] : List (Addr × Obj)) from hp) (by simp), e0.hok.kept hk, ?_⟩
  · exact name_of_addr x.apart (PySem.mem_of_lookup h1) (PySem.mem_of_lookup h2)
  · have hy : scope.names.lookup y = some .cell ∨ scope.names.lookup y = some .free := hy
    rcases hy with hy | hy
    · exact cell_has hy
    · exact absurd rfl (S.nofree _ (PySem.mem_of_lookup hy))
  · exact Nat.le_of_lt (x.above y c (PySem.mem_of_lookup h))
  · have hi : i < vs.length := by
      unfold start at h2
      by_cases hi : i < vs.length
      · exact hi
      · rw [List.getElem?_append_right (by simpa using hi)] at h2
        rw [List.getElem?_replicate] at h2
        split at h2 <;> cases h2
    have ha : vs[i]? = some v := by
      unfold start at h2
      rw [List.getElem?_append_left (by simpa using hi), List.getElem?_map] at h2
      cases e : vs[i]? with
      | none => rw [e] at h2; cases h2
      | some a => rw [e] at h2; cases h2; rfl
    obtain ⟨u, hu, rv⟩ := r.get ha
    have hp : ps[i]? = some y := by
      rw [← S.pre, List.getElem?_take_of_lt (by omega)]; exact h1
    have ndP : ps.Nodup := by rw [← S.pre]; exact S.nd.sublist (List.take_sublist _ _)
    refine ⟨u, rv, ?_⟩
    rcases S.par y (List.mem_of_getElem? hp) with k | k
    · exact .inl ⟨k, bindL_get ndP hp hu k⟩
    · obtain ⟨c, e⟩ := cell_has (n := s.heap.objs.size + 1) k
      refine .inr ⟨.inl k, c, e, ?_⟩
      have q := x.cell y c e
      rw [bindC_get ndP hp hu (by show scope.names.lookup y ≠ _; rw [k]; decide)] at q
      exact q
  · exact e0.hok.fresh (Nat.le_of_lt (x.above y c (PySem.mem_of_lookup h)))
  · unfold start
    show _ = N.length
    rw [List.length_append, List.length_map, List.length_replicate]
    omega
theorem fn_of {CX : CXT} {P : Program} {w : World} {K : PySem.W.Frag} {mg : Str->Option Value} {base : Heap} {k : Nat} {f : Addr} {name qual : Str} {params : Arguments} {body : List Stmt} {scope : Scope} {dV kV doc pm cdv ct oc : Value} {an od : Option Addr} {osl : Array (Option Value)} {N ps : List Str} {sp : Sp} (lk : K.lookup f = some ⟨oc, od, .func (PySem.W.fnOf name qual params body scope dV kV doc pm an cdv ct), osl⟩) (hcd : PySem.W.codeIn K cdv qual = true) (S : FnScope N ps scope) (len : ∀ vs H Q E, sp vs H Q E->vs.length = ps.length) (hbody : ∀ (A : Around) (outer : List Env) (s : Shared) (H : Hp) (vs : List V) (Q : VK) (E : XK), Room k (A.deeper (envOfC qual scope s.heap.objs.size f cdv))->sp vs H Q E->∃ t, PSs (cxOf CX P w K mg base N qual scope f cdv A outer s H E) body t/\t { nx := fun _ H' => Q .non H', rt := Q } (start N vs) H) :
    FnOk P w K mg base CX (k + 1) f (PySem.W.fnOf name qual params body scope dV kV doc pm an cdv ct) ps sp := by
  refine ⟨len, fun A outer s H args us vs Q E hr e0 hb r hsp => ?_⟩
  have hl := len _ _ _ _ hsp
  have KX : K.In s.heap := e0.mod.kin.keeps fun b o e => (e0.bs b o e).1
  have lim : s.heap.NoLimit := e0.mod.nolimit.keeps fun b o e => (e0.bs b o e).1
  have hkind : ∀ y ∈ ps.zip us, scope.names.lookup y.1 = some .local ∨ (scope.names.lookup y.1 = some .cell/\((cellsFrom (s.heap.objs.size + 1) scope.names []).lookup y.1).isSome = true) := fun ⟨n, v⟩ hy => by
    rcases S.par n (List.of_mem_zip hy).1 with q | q
    · exact .inl q
    · exact .inr ⟨q, PySem.W.cellsFrom_some _ _ _ (.inl q)⟩
  refine codeAny_call_function hr.depth (KX _ _ lk) rfl S.co S.gen rfl (PySem.W.codeRec_of KX hcd) (hb _ _ _ _ ?_)
  refine wpAny_newFunctionEnv_cells S.kind hkind fun env he s1 x => ?_
  subst he
  refine ⟨lim.keeps x.toInCall.keep, codeAny_func ?_⟩
  obtain ⟨t, ht, hq⟩ := hbody A outer s H vs Q E (hr.deeper _) hsp
  have I : Inv (cxOf CX P w K mg base N qual scope f cdv A outer s H E) [] (start N vs) H s1 := inv_start S hr.hd e0 hl r x
  refine wpAny_mono (ht [] s1 (start N vs) H _ I hq) (fun fl s' hs => ?_) fun e s' hs => hs
  have fin : ∀ {σ' : St} {H' : Hp} {v : V} {u : Value}, Inv (cxOf CX P w K mg base N qual scope f cdv A outer s H E) [] σ' H' s'->RelV v u->Q v H'->CE outer P w H s Q u s' :=
    fun {σ' H' v u} J rv q => ⟨v, H', J.os, J.bare, J.base, J.hok, rv, q⟩
  cases fl with
  | ret u =>
    obtain ⟨v, σ', H', J, rv, q⟩ := hs
    exact fin J rv q
  | next =>
    obtain ⟨σ', H', J, q⟩ := hs
    exact fin (v := V.non) (u := Value.none) J rfl q
  | brk =>
    obtain ⟨_, _, _, q⟩ := hs
    exact False.elim q
  | cont =>
    obtain ⟨_, _, _, q⟩ := hs
    exact False.elim q
end L2
namespace L2
open PySem PySem.Spec PyProof.Rows
section
variable {X : Cx} {x : Str} {p pos : Pos} {e : Expr} {es : List Expr} {t : TA} {id T : String} {r : List V->Hp->VK->Prop}
def tCB (r : List V->Hp->VK->Prop) (t : TA) : TE := fun σ H Q => t σ H fun vs H1 => r vs H1 Q
theorem pe_callB (hc : CallR X (.builtin id) r) (hg : Gl X x) (hm : X.mg x = none) (hv : bootBuiltins x = some (.builtin id)) (ha : PA X (e :: es) t) (hn : x ≠ "__name__" := by decide) (hdb : (x == ("__debug__" : Str)) = false := by decide)
    (he : starEach (e :: es) X.env = (false, eval e X.env) :: starEach es X.env := by rfl) (hpl : (backTo pos (starEach es X.env)).any (·.1) = false := by rfl) : PE X (.Call (.Name x p) (e :: es) [] pos) (tCB r t) := by
  intro pins s σ H Q I h
  refine wpAny_Call_Name_kw (ld_blt I hg hm hv ?_ hn hdb)
  exact PyProof.Rows.callWith_builtin1 (thn (ha pos pins s σ H _ I h) fun us s1 ⟨vs, H1, I1, r1, q1⟩ => hc pins s1 σ H1 vs us Q I1 r1 q1) he hpl
theorem pe_callTy (hc : CallR X (.type T) r) (hg : Gl X x) (hm : X.mg x = none) (hv : bootBuiltins x = some (.type T)) (ha : PA X (e :: es) t) (hn : x ≠ "__name__" := by decide) (hdb : (x == ("__debug__" : Str)) = false := by decide)
    (he : starEach (e :: es) X.env = (false, eval e X.env) :: starEach es X.env := by rfl) (hpl : (backTo pos (starEach es X.env)).any (·.1) = false := by rfl) : PE X (.Call (.Name x p) (e :: es) [] pos) (tCB r t) := by
  intro pins s σ H Q I h
  refine wpAny_Call_Name_kw (ld_blt I hg hm hv ?_ hn hdb)
  exact PyProof.Rows.callWith_type1 (thn (ha pos pins s σ H _ I h) fun us s1 ⟨vs, H1, I1, r1, q1⟩ => hc pins s1 σ H1 vs us Q I1 r1 q1) he hpl
end
end L2
namespace HT
open PySem PyProof.Rows
section
open PySem.SeqAt
open PySem.AutoSeq1 (wpAny_loadPart')
open PySem.MeetsSeq PySem.MeetsSeq2 PySem.MeetsSeq3
end
section
variable {prog : Program} {w : World} {A : Around} {E : Value->Shared->Prop} {s : Shared}
def sIx (n d : Nat) : Option Int->Nat
  | none => d
  | some v => if v < 0 then (v + (n : Int)).toNat else min v.toNat n
theorem sIx_none (n d : Nat) : sIx n d none = d := rfl
theorem sIx_nat (n d k : Nat) : sIx n d (some (k : Int)) = min k n := by
  show (if (k : Int) < 0 then ((k : Int) + (n : Int)).toNat else min (k : Int).toNat n) = min k n
  rw [if_neg (by omega), Int.toNat_natCast]
end
end HT
namespace L2
open PySem PySem.Spec PyProof.Rows
abbrev TO := St->Hp->(Option Int->Hp->Prop)->Prop
def PO (X : Cx) (e : Option Expr) (t : TO) : Prop :=
  ∀ (pins : List (Addr × Obj)) (s : Shared) (σ : St) (H : Hp) (Q : Option Int->Hp->Prop), Inv X pins σ H s->t σ H Q →
    wpAny (model X.prog X.w) X.A (evalPart e X.env) (fun u s' => ∃ o H', Inv X pins σ H' s'/\IsPart u o/\Q o H') X.xe s
def tNoPart : TO := fun _ H Q => Q none H
def tPart (t : TE) : TO := fun σ H Q => t σ H fun x H1 => ∃ i, x = .int i/\Q (some i) H1
theorem intsAre_of {ns : List Int} : ∀ {us : List Value}, Vals (ns.map V.int) us->IntsAre us ns := by
  induction ns with
  | nil => intro us r; rw [List.map_nil] at r; cases r; exact .nil
  | cons n ns ih =>
    intro us r
    rw [List.map_cons] at r
    cases r with
    | cons r1 r2 =>
      obtain ⟨t, e⟩ := r1
      subst e
      exact .cons n t (ih r2)
section
variable {X : Cx} {e : Expr} {te : TE} {lo hi : Option Expr} {tl th : TO} {pos p2 : Pos}
theorem po_none : PO X none tNoPart := by
  intro pins s σ H Q I h
  rw [evalPart_none]
  exact wpAny_pure ⟨none, H, I, .none, h⟩
theorem po_some (h : PE X e te) : PO X (some e) (tPart te) := by
  intro pins s σ H Q I hw
  rw [evalPart_some]
  refine thn (h pins s σ H _ I hw) fun u s1 ⟨x, H1, I1, r1, q1⟩ => ?_
  obtain ⟨i, rfl, q⟩ := q1
  obtain ⟨t, rfl⟩ := r1
  exact ⟨some i, H1, I1, .int i t, q⟩
def SlR (X : Cx) (r : V->Option Int->Option Int->Hp->VK->Prop) : Prop :=
  ∀ (pins : List (Addr × Obj)) (s : Shared) (σ : St) (H : Hp) (x : V) (v vl vu : Value) (lo hi : Option Int) (sl : Addr) (Q : VK), Inv X pins σ H s->RelV x v->s.heap.IsSliceOf sl vl vu .none->IsPart vl lo->IsPart vu hi->r x lo hi H Q →
    ∃ T id, typeLookup (.type T) "__getitem__" = pure (some (.builtin id))/\s.TypeIs v T/\wpAny (model X.prog X.w) X.A (getItem v (.ref sl)) (EP X pins σ Q) X.xe s
def tSl (r : V->Option Int->Option Int->Hp->VK->Prop) (te : TE) (tl th : TO) : TE := fun σ H Q => te σ H fun x H1 => tl σ H1 fun l H2 => th σ H2 fun u H3 => r x l u H3 Q
theorem pe_slice {r : V->Option Int->Option Int->Hp->VK->Prop} (hr : SlR X r) (he : PE X e te) (hl : PO X lo tl) (hu : PO X hi th) : PE X (.Subscript e (.Slice lo hi none p2) pos) (tSl r te tl th) := by
  intro pins s σ H Q I h
  refine Subscript_ (thn (he pins s σ H _ I h) fun v s1 ⟨x, H1, I1, r1, q1⟩ => ?_)
  refine wpAny_Slice (thn (hl pins s1 σ H1 _ I1 q1) fun vl s2 ⟨l, H2, I2, pl, q2⟩ => thn (hu pins s2 σ H2 _ I2 q2) fun vu s3 ⟨u, H3, I3, pu, q3⟩ => ?_)
  rw [evalPart_none]
  refine wpAny_pure ?_
  have I4 : Inv X pins σ H3 { s3 with heap := s3.heap.push { cls := .type "slice", data := .fields #[vl, vu, .none] } } := I3.kept (t' := s3.toks) fun b ob q => Heap.get?_push_of_some _ q
  obtain ⟨T, id, hT, ht, hg⟩ := hr pins { s3 with heap := s3.heap.push { cls := .type "slice", data := .fields #[vl, vu, .none] } } σ H3 x v vl vu l u s3.heap.objs.size Q I4 r1 (Heap.IsSliceOf.new ..) pl pu q3
  show wpAny (model X.prog X.w) X.A (subscriptTail e (.Slice lo hi none p2) v (.ref s3.heap.objs.size)) (EP X pins σ Q) X.xe { s3 with heap := s3.heap.push { cls := .type "slice", data := .fields #[vl, vu, .none] } }
  exact tail_any (ops := [.ref s3.heap.objs.size, v]) ht hT hg (by with_unfolding_all rfl)
def cutV (xs : List V) (lo hi : Option Int) : List V := (xs.drop (HT.sIx xs.length 0 lo)).take (HT.sIx xs.length xs.length hi - HT.sIx xs.length 0 lo)
theorem cutV_length (xs : List V) (lo hi : Option Int) : (cutV xs lo hi).length ≤ xs.length := by
  unfold cutV
  rw [List.length_take, List.length_drop]
  omega
end
end L2
namespace L2
open PySem PySem.Spec PyProof.Rows
def ixN (n : Nat) (i : Int) : Option Nat := if 0 ≤ i then (if i < n then some i.toNat else none) else if -(n : Int) ≤ i then some (i + n).toNat else none
def atI {α : Type} (xs : List α) (i : Int) : Option α := (ixN xs.length i).bind fun j => xs[j]?
theorem ixN_seq {n : Nat} {i : Int} {j : Nat} (h : ixN n i = some j) : seqIndex? i n = some j/\j < n/\-(n : Int) ≤ i/\i < n := by
  unfold ixN at h
  by_cases h0 : 0 ≤ i
  · rw [if_pos h0] at h
    by_cases h1 : i < n
    · rw [if_pos h1] at h
      have e : i.toNat = j := Option.some.inj h
      exact ⟨by rw [seqIndex_of h0 h1, e], by omega, by omega, h1⟩
    · rw [if_neg h1] at h; cases h
  · rw [if_neg h0] at h
    by_cases h1 : -(n : Int) ≤ i
    · rw [if_pos h1] at h
      have e : (i + n).toNat = j := Option.some.inj h
      exact ⟨by rw [seqIndex_neg (by omega) h1, e], by omega, h1, by omega⟩
    · rw [if_neg h1] at h; cases h
theorem atI_get {α : Type} {xs : List α} {i : Int} {v : α} (h : atI xs i = some v) : ∃ j, seqIndex? i xs.length = some j/\xs[j]? = some v/\j < xs.length/\-(xs.length : Int) ≤ i/\i < xs.length := by
  unfold atI at h
  cases e : ixN xs.length i with
  | none => rw [e] at h; cases h
  | some j =>
    rw [e] at h
    obtain ⟨h1, h2, h3, h4⟩ := ixN_seq e
    exact ⟨j, h1, h, h2, h3, h4⟩
theorem atI_nat {α : Type} {xs : List α} {j : Nat} {v : α} (h : xs[j]? = some v) : atI xs (j : Int) = some v := by
  have hj : j < xs.length := (List.getElem?_eq_some_iff.mp h).1
  have e : ixN xs.length (j : Int) = some j := by
    unfold ixN
    rw [if_pos (by omega), if_pos (by omega)]; simp
  unfold atI; rw [e]; exact h
def PlainIx (b : Expr) : Prop := ∀ o i, subscripted b false o i = operate [o, i] (getItem o i)
def IxR (X : Cx) (r : R2) : Prop :=
  ∀ (value slice : Expr) (pins : List (Addr × Obj)) (s : Shared) (σ : St) (H : Hp) (x y : V) (v u : Value) (Q : VK), Inv X pins σ H s->RelV x v->RelV y u->r x y H Q →
    subscripted slice false v u = operate [v, u] (getItem v u)->wpAny (model X.prog X.w) X.A (subscriptTail value slice v u) (EP X pins σ Q) X.xe s
def MtR (X : Cx) (id : String) (r : V->List V->Hp->VK->Prop) : Prop :=
  ∀ (pins : List (Addr × Obj)) (s : Shared) (σ : St) (H : Hp) (x : V) (xs : List V) (v : Value) (us : List Value) (Q : VK), Inv X pins σ H s->RelV x v->Vals xs us->r x xs H Q →
    wpAny (model X.prog X.w) X.A (call (.builtin id) (v :: us)) (EP X pins σ Q) X.xe s
section
variable {X : Cx} {a b : Expr} {ta tb : TE} {pos : Pos}
theorem pe_ix {r : R2} (hr : IxR X r) (ha : PE X a ta) (hb : PE X b tb) (hs : PlainIx b) : PE X (.Subscript a b pos) (tOp r ta tb) := by
  intro pins s σ H Q I h
  exact Subscript_ (binT ha hb I h fun v u s2 x y H2 I2 rx ry q => hr a b pins s2 σ H2 x y v u Q I2 rx ry q (hs _ _))
def rIxL (K : PySem.W.Frag) : R2 := fun x y H Q => ∃ p xs i v, x = .ref p/\y = .int i/\SqL K H p xs/\atI xs i = some v/\Q v H
theorem ix_list : IxR X (rIxL X.K) := by
  intro value slice pins s σ H x y v u Q I rx ry h hs
  obtain ⟨p, xs, i, z, rfl, rfl, hq, he, q⟩ := h
  cases rx
  obtain ⟨t, rfl⟩ := ry
  obtain ⟨its, r, pl, hz⟩ := I.list hq
  obtain ⟨j, h1, h2, h3, h4, h5⟩ := atI_get he
  obtain ⟨w, ew, rw'⟩ := r.get h2
  have hl := r.length
  have hn := line63
  have fin : EP X pins σ Q w s := ⟨z, H, I, rw', q⟩
  by_cases h0 : 0 ≤ i
  · have hj : i.toNat = j := by
      rw [seqIndex_of h0 h5] at h1
      exact Option.some.inj h1
    exact item_listR pl.isList h0 (by omega) (by rw [hj]; simpa using ew) fin hs
  · have hj : (i + (its.toArray.size : Int)).toNat = j := by
      rw [seqIndex_neg (by omega) h4] at h1
      rw [List.size_toArray, ← hl]
      exact Option.some.inj h1
    exact subscriptTail_builtinR (x := w) pl.isList.typeIs slot_list_getitem.lookup
      (wpAny_getItem_list_neg (Q := fun r s' => r = w/\EP X pins σ Q r s') pl.isList (by omega) (by rw [List.size_toArray] <;> omega) (by omega) (by rw [hj]; simpa using ew) ⟨rfl, fin⟩) hs
theorem mapSeq_set (its : List Value) (n j : Nat) (u : Value) : Obj.mapSeq (·.setIfInBounds j u) { cls := .type "list", data := .seq its.toArray n } = { cls := .type "list", data := .seq (its.set j u).toArray n } := by
  simp [Obj.mapSeq]
theorem Inv.lst {pins : List (Addr × Obj)} {σ : St} {H : Hp} {s : Shared} {p : Addr} {xs : List V} (I : Inv X pins σ H s) (h : H p = some (.lst xs)) : ∃ (its : List Value) (n : Nat), Vals xs its/\s.heap.get? p = some { cls := .type "list", data := .seq its.toArray n }/\xs.length ≤ sizeLine := by
  obtain ⟨z, its, n, r, e⟩ := I.hok p _ h
  exact ⟨its, n, r, e, z⟩
theorem Inv.lstUpd {pins : List (Addr × Obj)} {σ : St} {H : Hp} {s : Shared} {p : Addr} {xs ys : List V} {its its' : List Value} {n n' : Nat} {f : Obj->Obj} (I : Inv X pins σ H s) (h : H p = some (.lst xs)) (ho : s.heap.get? p = some { cls := .type "list", data := .seq its.toArray n }) (hf : f { cls := .type "list", data := .seq its.toArray n } = { cls := .type "list", data := .seq its'.toArray n' }) (r : Vals ys its') (hz : ys.length ≤ sizeLine) (t : Nat) :
    Inv X pins σ (upd H p (.lst ys)) { s with heap := s.heap.update p f, toks := t } := by
  have e : (s.heap.update p f).get? p = some { cls := .type "list", data := .seq its'.toArray n' } := by
    rw [Heap.get?_update_self f ho (by rw [hf] <;> rfl), hf]
  refine I.write (x := p) (e := p) (by rw [h]; trivial) (.inl rfl) (fun b u hb q => (Heap.get?_update_other _ _ (Ne.symm hb)).trans q) ⟨_, e⟩ ?_
  exact ⟨hz, its', n', r, e⟩
def rSetL : V->V->V->Hp->(Hp->Prop)->Prop := fun o i v H Q => ∃ p xs k j, o = .ref p/\i = .int k/\H p = some (.lst xs)/\ixN xs.length k = some j/\Q (upd H p (.lst (xs.set j v)))
theorem set_list : PSet X rSetL := by
  intro pins s σ H o i v ov iv u Q I ro ri rv h
  obtain ⟨p, xs, k, j, rfl, rfl, hp, hj, q⟩ := h
  cases ro
  obtain ⟨t, rfl⟩ := ri
  obtain ⟨its, n, r, ho, hz⟩ := I.lst hp
  obtain ⟨h1, h2, h3, h4⟩ := ixN_seq hj
  have hl := r.length
  have hn := line63
  have I' : Inv X pins σ (upd H p (.lst (xs.set j v))) { s with heap := s.heap.update p (Obj.mapSeq (·.setIfInBounds j u)) } :=
    I.lstUpd hp ho (mapSeq_set its n j u) (r.set rv j) (by rw [List.length_set]; exact hz) s.toks
  by_cases h0 : 0 ≤ k
  · have hk : k.toNat = j := by
      rw [seqIndex_of h0 h4] at h1
      exact Option.some.inj h1
    exact PySem.W.ki_setAt ho h0 (by omega) (by rw [List.size_toArray, ← hl]; exact h4) (by rw [hk]; exact ⟨_, I', q⟩)
  · have hk : (k + (its.toArray.size : Int)).toNat = j := by
      rw [seqIndex_neg (by omega) h3] at h1
      rw [List.size_toArray, ← hl]
      exact Option.some.inj h1
    exact PySem.W.ki_setBack ho (by omega) (by rw [List.size_toArray, ← hl]; exact h3) (by omega) (by rw [hk]; exact ⟨_, I', q⟩)
theorem slice_bounds (lo hi : Option Int) (n : Nat) : (sliceBounds lo hi none n).1 = ((HT.sIx n 0 lo : Nat) : Int)/\(sliceBounds lo hi none n).2.1 = ((HT.sIx n n hi : Nat) : Int)/\(sliceBounds lo hi none n).2.2 = 1 := by
  refine ⟨?_, ?_, rfl⟩
  · cases lo with
    | none => simp [sliceBounds, HT.sIx]
    | some i =>
      simp only [sliceBounds, HT.sIx, Option.getD_none, show (1 : Int) > 0 by decide, if_true]
      by_cases h : i < 0
      · simp only [h, if_true] <;> omega
      · simp only [h, if_false] <;> omega
  · cases hi with
    | none => simp [sliceBounds, HT.sIx]
    | some i =>
      simp only [sliceBounds, HT.sIx, Option.getD_none, show (1 : Int) > 0 by decide, if_true]
      by_cases h : i < 0
      · simp only [h, if_true] <;> omega
      · simp only [h, if_false] <;> omega
theorem slicePick_cut (its : List Value) (lo hi : Option Int) : slicePick its.toArray lo hi none = ((its.drop (HT.sIx its.length 0 lo)).take (HT.sIx its.length its.length hi - HT.sIx its.length 0 lo)).toArray := by
  obtain ⟨h1, h2, h3⟩ := slice_bounds lo hi its.toArray.size
  unfold slicePick
  rw [h1, h2, h3]
  simp only [sliceRange_one, pick_run, List.size_toArray] <;> rfl
def rSlL (K : PySem.W.Frag) : V->Option Int->Option Int->Hp->VK->Prop := fun x lo hi H Q => ∃ a xs, x = .ref a/\SqL K H a xs/\∀ p, H p = none->Q (.ref p) (upd H p (.lst (cutV xs lo hi)))
theorem sl_list : SlR X (rSlL X.K) := by
  intro pins s σ H x v vl vu lo hi sl Q I rx hs pl pu h
  obtain ⟨a, xs, rfl, hx, q⟩ := h
  cases rx
  obtain ⟨its, r, ht, hz⟩ := I.list hx
  have hlen := r.length
  refine ⟨"list", _, slot_list_getitem.lookup, ht.isList.typeIs, ?_⟩
  refine wpAny_getItem_list_slice ht.isList hs pl pu .none (by simp) ?_ (by rw [List.size_toArray] <;> omega)
  rw [slicePick_cut, ← hlen]
  refine ⟨.ref s.heap.objs.size, _, I.laid (t' := s.toks) (o := .lst (cutV xs lo hi)) (fun b ob q => Heap.get?_push_of_some _ q) (Nat.le_refl _) ?_, rfl, q _ (I.hok.fresh (Nat.le_refl _))⟩
  exact ⟨Nat.le_trans (cutV_length xs lo hi) hz, _, 0, (r.drop (HT.sIx xs.length 0 lo)).take (HT.sIx xs.length xs.length hi - HT.sIx xs.length 0 lo), Heap.get?_push_size _ rfl⟩
def flatV : V->Bool
  | .non => true
  | .bl _ => true
  | .int _ => true
  | .str _ => true
  | _ => false
def eqV : V->V->Bool
  | .non, .non => true
  | .bl a, .bl b => a == b
  | .bl a, .int b => (if a then 1 else 0) == b
  | .int a, .bl b => a == (if b then 1 else 0)
  | .int a, .int b => a == b
  | .str a, .str b => a == b
  | _, _ => false
theorem eqAt_V {A : Around} {s : Shared} {y x : V} {u v : Value} (ry : RelV y u) (rx : RelV x v) (fy : flatV y = true) (fx : flatV x = true) : SeqAt.EqAt A s u v (eqV y x) := by
  cases y with
  | non =>
    cases ry
    cases x with
    | non => cases rx; exact SeqAt.EqAt.same _
    | bl b => cases rx; exact SeqAt.EqAt.none_bool b
    | int b => obtain ⟨t, rfl⟩ := rx; exact SeqAt.EqAt.none_int b t
    | str b => obtain ⟨t, rfl⟩ := rx; exact SeqAt.EqAt.none_str b t
    | _ => exact absurd (show false = true from fx) Bool.false_ne_true
  | bl a =>
    cases ry
    cases x with
    | non => cases rx; exact SeqAt.EqAt.bool_none a
    | bl b => cases rx; exact SeqAt.EqAt.bool_bool a b
    | int b => obtain ⟨t, rfl⟩ := rx; exact SeqAt.EqAt.bool_int a b t
    | str b => obtain ⟨t, rfl⟩ := rx; exact SeqAt.EqAt.bool_str a b t
    | _ => exact absurd (show false = true from fx) Bool.false_ne_true
  | int a =>
    obtain ⟨t', rfl⟩ := ry
    cases x with
    | non => cases rx; exact SeqAt.EqAt.int_none a t'
    | bl b => cases rx; exact SeqAt.EqAt.int_bool a t' b
    | int b => obtain ⟨t, rfl⟩ := rx; exact SeqAt.EqAt.int_int a t' b t
    | str b => obtain ⟨t, rfl⟩ := rx; exact SeqAt.EqAt.int_str a t' b t
    | _ => exact absurd (show false = true from fx) Bool.false_ne_true
  | str a =>
    obtain ⟨t', rfl⟩ := ry
    cases x with
    | non => cases rx; exact SeqAt.EqAt.str_none a t'
    | bl b => cases rx; exact SeqAt.EqAt.str_bool a t' b
    | int b => obtain ⟨t, rfl⟩ := rx; exact SeqAt.EqAt.str_int a t' b t
    | str b => obtain ⟨t, rfl⟩ := rx; exact SeqAt.EqAt.str_str a t' b t
    | _ => exact absurd (show false = true from fx) Bool.false_ne_true
  | _ => exact absurd (show false = true from fy) Bool.false_ne_true
def eqU (x : V) (u : Value) : Bool := match u with
  | .none => eqV .non x
  | .bool b => eqV (.bl b) x
  | .int i _ => eqV (.int i) x
  | .str z _ => eqV (.str z) x
  | _ => false
theorem eqU_of {x y : V} {u : Value} (r : RelV y u) (f : flatV y = true) : eqU x u = eqV y x := by
  cases y with
  | non => cases r; rfl
  | bl b => cases r; rfl
  | int i => obtain ⟨t, rfl⟩ := r; rfl
  | str z => obtain ⟨t, rfl⟩ := r; rfl
  | _ => exact absurd (show false = true from f) Bool.false_ne_true
theorem any_eqU {x : V} : ∀ {xs : List V} {us : List Value}, Vals xs us->xs.all flatV = true->us.any (eqU x) = xs.any fun y => eqV y x
  | _, _, .nil, _ => rfl
  | y :: xs, u :: us, .cons r t, f => by
    rw [List.all_cons, Bool.and_eq_true] at f
    rw [List.any_cons, List.any_cons, eqU_of r f.1, any_eqU t f.2]
theorem mem_eqAt {A : Around} {s : Shared} {x : V} {v : Value} (rx : RelV x v) (fx : flatV x = true) : ∀ {xs : List V} {us : List Value}, Vals xs us->xs.all flatV = true->∀ u ∈ us, SeqAt.EqAt A s u v (eqU x u)
  | _, _, .nil, _ => fun u hu => by cases hu
  | y :: xs, u :: us, .cons r t, f => fun u' hu => by
    rw [List.all_cons, Bool.and_eq_true] at f
    rcases List.mem_cons.mp hu with rfl | hu
    · rw [eqU_of r f.1]; exact eqAt_V r rx f.1 fx
    · exact mem_eqAt rx fx t f.2 u' hu
def inV (x : V) (xs : List V) : Bool := xs.any fun y => eqV y x
def rIn (K : PySem.W.Frag) (neg : Bool) : R2 := fun x y H Q => ∃ p xs, y = .ref p/\(SqL K H p xs ∨ SqT K H p xs)/\flatV x = true/\xs.all flatV = true/\Q (.bl (if neg then !inV x xs else inV x xs)) H
theorem op_in_seq : OpR X (compareOp .In) (rIn X.K false) := by
  intro pins s σ H x y v u Q I rx ry h
  obtain ⟨p, xs, rfl, hq, fx, fs, q⟩ := h
  cases ry
  rcases hq with hq | hq
  · obtain ⟨its, r, pl, hz⟩ := I.list hq
    refine SeqAt.in_listAt (eqU x) pl.isList (fun w hw => mem_eqAt rx fx r fs w (by simpa using hw)) ⟨.bl _, H, I, rfl, ?_⟩
    rw [show its.toArray.any (eqU x) = its.any (eqU x) by simp, any_eqU r fs]
    exact q
  · obtain ⟨its, r, pl, hz⟩ := I.tuple hq
    refine SeqAt.in_tupleAt (eqU x) pl (fun w hw => mem_eqAt rx fx r fs w (by simpa using hw)) ⟨.bl _, H, I, rfl, ?_⟩
    rw [show its.toArray.any (eqU x) = its.any (eqU x) by simp, any_eqU r fs]
    exact q
theorem call_len_seq : CallR X (.builtin "len") (fun xs H Q => ∃ p ys, xs = [.ref p]/\(SqL X.K H p ys ∨ SqT X.K H p ys)/\Q (.int ys.length) H) := by
  intro pins s σ H xs us Q I r h
  obtain ⟨p, ys, rfl, hq, q⟩ := h
  obtain ⟨u, rfl, rx⟩ := vals1 r
  cases rx
  have hn := line63
  rcases hq with hq | hq
  · obtain ⟨its, r', pl, hz⟩ := I.list hq
    have hlen := r'.length
    exact Calls.call_len_list pl.isList (by simp only [List.size_toArray] <;> omega) ⟨.int ys.length, H, I.tok _, ⟨s.toks + 1, by rw [List.size_toArray, hlen]⟩, q⟩
  · obtain ⟨its, r', pl, hz⟩ := I.tuple hq
    have hlen := r'.length
    exact len_tuple pl (by simp only [List.size_toArray] <;> omega) ⟨.int ys.length, H, I.tok _, ⟨s.toks + 1, by rw [List.size_toArray, hlen]⟩, q⟩
theorem call_len_str : CallR X (.builtin "len") (fun xs H Q => ∃ z, xs = [.str z]/\z.length ≤ sizeLine/\Q (.int z.length) H) := by
  intro pins s σ H xs us Q I r h
  obtain ⟨z, rfl, hz, q⟩ := h
  obtain ⟨u, rfl, t, rfl⟩ := vals1 r
  have hn := line63
  exact len_str (by omega) ⟨.int z.length, H, I.tok _, ⟨_, rfl⟩, q⟩
theorem call_list_of : CallR X (.type "list") (fun xs H Q => ∃ p ys, xs = [.ref p]/\(SqL X.K H p ys ∨ SqT X.K H p ys)/\∀ l, H l = none->Q (.ref l) (upd H l (.lst ys))) := by
  intro pins s σ H xs us Q I r h
  obtain ⟨p, ys, rfl, hq, q⟩ := h
  obtain ⟨u, rfl, rx⟩ := vals1 r
  cases rx
  have fin : ∀ (its : List Value), Vals ys its->ys.length ≤ sizeLine->∀ (h' : Heap) (c' : Nat), (∀ b o', s.heap.get? b = some o'->h'.get? b = some o') →
      h'.get? s.heap.objs.size = some { cls := .type "list", dict := none, data := .seq its.toArray c', slots := #[] }->EP X pins σ Q (.ref s.heap.objs.size) { s with heap := h' } := fun its r' hz h' c' kp e =>
    ⟨.ref s.heap.objs.size, _, I.laid (t' := s.toks) kp (Nat.le_refl _) (show ObjOk X.prog X.w _ h' _ (.lst ys) from ⟨hz, its, c', r', e⟩), rfl, q _ (I.hok.fresh (Nat.le_refl _))⟩
  rcases hq with hq | hq
  · obtain ⟨its, r', pl, hz⟩ := I.list hq
    have hlen := r'.length
    obtain ⟨o, ho, hc, n, hd⟩ := pl.isList
    exact call_list_seq p (.inl rfl) ho hc hd (fun h' c' kp e => fin its r' hz h' c' kp e) (by simp only [List.size_toArray] <;> omega)
  · obtain ⟨its, r', pl, hz⟩ := I.tuple hq
    have hlen := r'.length
    obtain ⟨o, ho, hc, n, hd⟩ := pl
    exact call_list_seq p (.inr rfl) ho hc hd (fun h' c' kp e => fin its r' hz h' c' kp e) (by simp only [List.size_toArray] <;> omega)
def tyV (K : PySem.W.Frag) (T : String) (x : V) (H : Hp) : Prop := match x with
  | .str _ => T = "str"
  | .int _ => T = "int"
  | .ref p => (T = "list"/\∃ xs, SqL K H p xs) ∨ (T = "tuple"/\∃ o, K.lookup p = some o/\o.cls = .type "tuple"/\o.dict = none) ∨
      (T = "dict"/\((∃ kvs, H p = some (.dK kvs)) ∨ ∃ kvs, H p = some (.dT kvs))) ∨ (T = "set"/\∃ S n, H p = some (.set S n))
  | _ => False
theorem tyV_is {pins : List (Addr × Obj)} {σ : St} {H : Hp} {s : Shared} {T : String} {x : V} {v : Value} (I : Inv X pins σ H s) (r : RelV x v) (ty : tyV X.K T x H) : s.TypeIs v T/\∀ a, v = .ref a->∃ ob, s.heap.get? a = some ob/\ob.dict = none := by
  cases x with
  | str z =>
    obtain ⟨t, rfl⟩ := r
    cases (show T = "str" from ty)
    exact ⟨typeIs_str s z t, fun _ e => nomatch e⟩
  | int i =>
    obtain ⟨t, rfl⟩ := r
    cases (show T = "int" from ty)
    exact ⟨typeIs_int s i t, fun _ e => nomatch e⟩
  | ref p =>
    cases r
    rcases ty with ⟨rfl, xs, hq⟩ | ⟨rfl, o, hk, hc, hd⟩ | ⟨rfl, hk⟩ | ⟨rfl, S, n, hk⟩
    · obtain ⟨its, _, pl, _⟩ := I.list hq
      refine ⟨pl.isList.typeIs, fun a e => ?_⟩
      cases e
      obtain ⟨o, n, e, c, hd, _⟩ := pl
      exact ⟨o, e, hd⟩
    · refine ⟨⟨o, I.kIn p o hk, hc⟩, fun a e => ?_⟩
      cases e
      exact ⟨o, I.kIn _ o hk, hd⟩
    · have z : ∃ o, s.heap.get? p = some o/\o.ExactDict := by
        rcases hk with ⟨kvs, hk⟩ | ⟨kvs, hk⟩
        · obtain ⟨_, _, _, _, o, _, _, e, ex, _⟩ := I.hok p _ hk
          exact ⟨o, e, ex⟩
        · obtain ⟨_, _, _, _, o, _, _, e, ex, _⟩ := I.hok p _ hk
          exact ⟨o, e, ex⟩
      obtain ⟨o, e, ex⟩ := z
      refine ⟨⟨o, e, ex.1⟩, fun a e2 => ?_⟩
      cases e2
      exact ⟨o, e, ex.2.1⟩
    · obtain ⟨o, _, _, _, e, ex, _⟩ := I.hok p _ hk
      refine ⟨⟨o, e, ex.1⟩, fun a e2 => ?_⟩
      cases e2
      exact ⟨o, e, ex.2.1⟩
  | _ => exact False.elim ty
def tBM (K : PySem.W.Frag) (T : String) (r : V->List V->Hp->VK->Prop) (to : TE) (t : TA) : TE := fun σ H Q => to σ H fun x H1 => tyV K T x H1/\t σ H1 fun xs H2 => r x xs H2 Q
variable {o e : Expr} {es : List Expr} {to : TE} {t : TA} {name : Str} {apos cpos : Pos} {T id : String} {r : V->List V->Hp->VK->Prop}
theorem pe_bm (pa : PlainAttrs T) (slot : Slot T name id) (hty : typeOf (.builtin id) = pure (.type "method_descriptor")) (hm : MtR X id r) (ho : PE X o to) (ha : PA X (e :: es) t) (hbase : attributeBase o name X.env (eval o X.env) = eval o X.env := by rfl)
    (hfew : ((backTo cpos (starEach (e :: es) X.env)).all (fun x => !x.1) && (backToKw cpos (keywordEach [] X.env)).all (fun x => x.1.isSome)
      && decide ((e :: es).length + ([] : List Keyword).length + (if ([] : List Keyword).isEmpty then 0 else 1) < 30)) = true := by rfl)
    (hline : (apos.endLine == cpos.line) = true := by rfl) (hs : starEach (e :: es) X.env = (false, eval e X.env) :: starEach es X.env := by rfl) (hplain : (backTo cpos (starEach es X.env)).any (·.1) = false := by rfl) :
    PE X (.Call (.Attribute o name apos) (e :: es) [] cpos) (tBM X.K T r to t) := by
  intro pins s σ H Q I h
  refine wpAny_Call_method_late hbase hfew hline rfl (thn (ho pins s σ H _ I h) fun v s1 ⟨x, H1, I1, r1, ty, q1⟩ => ?_)
  obtain ⟨h1, h2⟩ := tyV_is I1 r1 ty
  refine ⟨T, id, pa, slot, hty, h1, h2, ?_⟩
  have hA := ha cpos pins s1 σ H1 _ I1 q1
  rw [hs] at hA ⊢
  refine Calls.callWith_builtin (by show (false || (backTo cpos (starEach es X.env)).any (·.1)) = false; rw [hplain] <;> rfl) (Calls.evalArgs_plain ?_)
  exact thn hA fun us s2 ⟨vs, H2, I2, r2, q2⟩ => hm pins s2 σ H2 x vs v us Q I2 r1 r2 q2
end
end L2
namespace L2
open PySem PySem.Spec PyProof.Rows
def MtM (X : Cx) (id : String) (r : V->List V->Hp->VK->Prop) : Prop :=
  ∀ (pins : List (Addr × Obj)) (s : Shared) (σ : St) (H : Hp) (x : V) (xs : List V) (v : Value) (us : List Value) (Q : VK), Inv X pins σ H s->RelV x v->Vals xs us->r x xs H Q →
    wpAny (model X.prog X.w) X.A (call (.builtin id) (v :: us)) (EP X pins σ Q) X.xe s
theorem Vals.one : ∀ {x : V} {us : List Value}, Vals [x] us->∃ u, us = [u]/\RelV x u
  | _, _, .cons r .nil => ⟨_, rfl, r⟩
theorem Vals.two : ∀ {x y : V} {us : List Value}, Vals [x, y] us->∃ u v, us = [u, v]/\RelV x u/\RelV y v
  | _, _, _, .cons r (.cons q .nil) => ⟨_, _, rfl, r, q⟩
theorem Vals.reverse {xs : List V} {us : List Value} (h : Vals xs us) : Vals xs.reverse us.reverse := by
  induction h with
  | nil => exact .nil
  | cons r t ih => rw [List.reverse_cons, List.reverse_cons]; exact Vals.append ih (.cons r .nil)
section
variable {X : Cx} {pins : List (Addr × Obj)} {σ : St} {H : Hp} {s : Shared} {l b : Addr} {xs ys zs : List V}
theorem Inv.lset {its its' : List Value} {n : Nat} {f : Array Value->Array Value} {t' : Nat} (I : Inv X pins σ H s) (hH : H l = some (.lst xs)) (e : s.heap.get? l = some { cls := .type "list", data := .seq its.toArray n }) (hf : f its.toArray = its'.toArray) (hv : Vals ys its') (hz : ys.length ≤ sizeLine) :
    Inv X pins σ (upd H l (.lst ys)) { s with heap := s.heap.update l (Obj.mapSeq f), toks := t' } := by
  have q := PySem.IsL.update e f
  rw [hf] at q
  refine I.write (x := l) (e := l) (by rw [hH]; exact trivial) (.inl rfl) (fun b' u hb hu => (Heap.get?_update_other s.heap (Obj.mapSeq f) (Ne.symm hb)).trans hu) ⟨_, q⟩ ?_
  exact ⟨hz, its', _, hv, q⟩
theorem Inv.lnew {its : List Value} {t' : Nat} (I : Inv X pins σ H s) (hv : Vals ys its) (hz : ys.length ≤ sizeLine) : Inv X pins σ (upd H s.heap.objs.size (.lst ys)) { s with heap := s.heap.push { cls := .type "list", data := .seq its.toArray }, toks := t' } :=
  I.laid (fun _ _ q => Heap.get?_push_of_some _ q) (Nat.le_refl _) ⟨hz, its, 0, hv, Heap.get?_push_size _ rfl⟩
theorem Inv.fresh (I : Inv X pins σ H s) : H s.heap.objs.size = none := I.hok.fresh (Nat.le_refl _)
theorem Inv.lstM (I : Inv X pins σ H s) (hH : H l = some (.lst xs)) : xs.length ≤ sizeLine/\∃ (its : List Value) (n : Nat), Vals xs its/\xs.length = its.length/\s.heap.get? l = some { cls := .type "list", data := .seq its.toArray n } := by
  obtain ⟨z, its, n, r, e⟩ := I.hok l _ hH
  exact ⟨z, its, n, r, r.length, e⟩
end
section
variable {X : Cx}
def rAppend : V->List V->Hp->VK->Prop := fun x vs H Q => ∃ l xs y, x = .ref l/\vs = [y]/\H l = some (.lst xs)/\xs.length < sizeLine/\Q .non (upd H l (.lst (xs ++ [y])))
theorem mt_append : MtM X "list.append" rAppend := by
  intro pins s σ H x vs v us Q I rx rv h
  obtain ⟨l, xs, y, rfl, rfl, hH, hz, q⟩ := h
  cases rx
  obtain ⟨u, rfl, ru⟩ := rv.one
  obtain ⟨z, its, n, r, hl, e⟩ := I.lstM hH
  refine call_meets F.slot_list_append ⟨_, e, rfl⟩ F.entry_list_append (F.args_list_append_2 _ _) (PySem.list_append l its.toArray n u (by rw [List.size_toArray]; omega)) ⟨e, ?_⟩
  refine ⟨.non, _, I.lset (its' := its ++ [u]) hH e (by simp) (r.append (.cons ru .nil)) ?_, rfl, q⟩
  rw [List.length_append, List.length_singleton]
  omega
def rCat : R2 := fun x y H Q => ∃ l b xs zs, x = .ref l/\y = .ref b/\H l = some (.lst xs)/\H b = some (.lst zs)/\xs.length + zs.length ≤ sizeLine/\∀ p, H p = none->Q (.ref p) (upd H p (.lst (xs ++ zs)))
theorem op_cat : OpR X (binaryOp .Add) rCat := by
  intro pins s σ H x y v u Q I rx ry h
  obtain ⟨l, b, xs, zs, rfl, rfl, hH, hB, hz, q⟩ := h
  cases rx
  cases ry
  obtain ⟨z, its, n, r, hl, e⟩ := I.lstM hH
  obtain ⟨z2, its2, n2, r2, hl2, e2⟩ := I.lstM hB
  refine PySem.P.add_list e e2 ?_ (by rw [List.size_toArray, List.size_toArray]; omega)
  have ea : its.toArray ++ its2.toArray = (its ++ its2).toArray := by simp
  rw [ea]
  exact ⟨.ref _, _, I.lnew (t' := s.toks) (r.append r2) (by rw [List.length_append]; omega), rfl, q _ I.fresh⟩
end
section
variable {prog : Program} {w : World} {A : Around} {E : Value->Shared->Prop} {s : Shared}
end
section
variable {X : Cx}
end
end L2
namespace L2
open PySem PySem.Spec PyProof.Rows
section
variable {κ : Type} [DecidableEq κ]
def valV (kvs : List (κ × V)) (k : κ) : Option V := (kvs.find? fun kv => decide (kv.1 = k)).map (·.2)
def putK (kvs : List (κ × V)) (k : κ) (v : V) : List (κ × V) :=
  if (kvs.any fun kv => decide (kv.1 = k)) = true then kvs.map (fun kv => if kv.1 = k then (kv.1, v) else kv) else kvs ++ [(k, v)]
theorem valV_pos {p : κ × V} {r : List (κ × V)} {k : κ} (e : p.1 = k) : valV (p :: r) k = some p.2 := by simp [valV, List.find?_cons, e]
theorem valV_neg {p : κ × V} {r : List (κ × V)} {k : κ} (e : ¬ p.1 = k) : valV (p :: r) k = valV r k := by simp [valV, List.find?_cons, e]
theorem valV_any (k : κ) : ∀ kvs : List (κ × V), (kvs.any fun kv => decide (kv.1 = k)) = (valV kvs k).isSome
  | [] => rfl
  | p :: r => by
    rw [List.any_cons]
    by_cases e : p.1 = k
    · simp only [valV_pos e, decide_eq_true e, Bool.true_or, Option.isSome_some]
    · rw [valV_neg e, decide_eq_false e, Bool.false_or]; exact valV_any k r
theorem length_putK (kvs : List (κ × V)) (k : κ) (v : V) : (putK kvs k v).length ≤ kvs.length + 1 := by
  unfold putK
  split
  · rw [List.length_map]; omega
  · rw [List.length_append, List.length_cons, List.length_nil]; omega
theorem RelO.isSome_eq {o : Option V} {u : Option Value} (r : RelO o u) : o.isSome = u.isSome := by
  cases o with
  | none => cases u with
    | none => rfl
    | some _ => exact (show False from r).elim
  | some _ => cases u with
    | none => exact (show False from r).elim
    | some _ => rfl
theorem KV.val {kvs : List (κ × V)} {vs : List (κ × Value)} (r : KV kvs vs) (k : κ) : RelO (valV kvs k) (valueAt vs k) := by
  unfold KV at r
  induction r with
  | nil => exact True.intro
  | @cons p q ps qs h t ih =>
    obtain ⟨h1, h2⟩ := h
    by_cases e : p.1 = k
    · have e' : q.1 = k := h1.symm.trans e
      have b : valueAt (q :: qs) k = some q.2 := by simp [valueAt, List.find?_cons, e']
      rw [valV_pos e, b]; exact h2
    · have e' : ¬ q.1 = k := fun z => e (h1.trans z)
      have b : valueAt (q :: qs) k = valueAt qs k := by simp [valueAt, List.find?_cons, e']
      rw [valV_neg e, b]; exact ih
theorem KV.any {kvs : List (κ × V)} {vs : List (κ × Value)} (r : KV kvs vs) (k : κ) : (kvs.any fun kv => decide (kv.1 = k)) = vs.any fun kv => decide (kv.1 = k) := by
  unfold KV at r
  induction r with
  | nil => rfl
  | cons h t ih => rw [List.any_cons, List.any_cons, ih, h.1]
theorem KV.repl {kvs : List (κ × V)} {vs : List (κ × Value)} (r : KV kvs vs) (k : κ) {y : V} {u : Value} (ry : RelV y u) : KV (kvs.map fun kv => if kv.1 = k then (kv.1, y) else kv) (vs.map fun kv => if kv.1 = k then (kv.1, u) else kv) := by
  unfold KV at r ⊢
  induction r with
  | nil => exact .nil
  | @cons p q ps qs h t ih =>
    rw [List.map_cons, List.map_cons]
    refine .cons ?_ ih
    obtain ⟨h1, h2⟩ := h
    by_cases e : p.1 = k
    · rw [if_pos e, if_pos (h1.symm.trans e)]; exact ⟨h1, ry⟩
    · rw [if_neg e, if_neg (fun z => e (h1.trans z))]; exact ⟨h1, h2⟩
theorem KV.put {kvs : List (κ × V)} {vs : List (κ × Value)} (r : KV kvs vs) (k : κ) {y : V} {u : Value} (ry : RelV y u) : KV (putK kvs k y) (stored vs k u) := by
  unfold putK stored
  rw [r.any k]
  by_cases e : (vs.any fun kv => decide (kv.1 = k)) = true
  · rw [if_pos e, if_pos e]; exact r.repl k ry
  · rw [if_neg e, if_neg e]; exact Paired.snoc r ⟨rfl, ry⟩
theorem KV.length {kvs : List (κ × V)} {vs : List (κ × Value)} (r : KV kvs vs) : kvs.length = vs.length := Paired.length r
end
theorem kV_is {P : Program} {w : World} {k : Key} {u : Value} (r : RelV (kV k) u) : (mixKind P w).is k u = true := by
  cases k with
  | inl i => obtain ⟨t, e⟩ := (show ∃ t, u = Value.int i t from r); subst e; exact mixKind_int P w i t
  | inr x => obtain ⟨t, e⟩ := (show ∃ t, u = Value.str x t from r); subst e; exact mixKind_str P w x t
theorem items_are {P : Program} {w : World} : ∀ {ks : List Key} {us : List Value}, Vals (ks.map kV) us->ItemsAre (mixKind P w) ks us
  | [], _, r => by rw [List.map_nil] at r; cases r; exact .nil
  | k :: ks, _, r => by
    rw [List.map_cons] at r
    cases r with
    | cons h t => exact .cons (kV_is h) (items_are t)
abbrev KT (H : Hp) : List (List Key × V)->List (List Key × Addr × Value)->Prop := Paired fun p q => p.1 = q.1/\H q.2.1 = some (.tup (p.1.map kV))/\RelV p.2 q.2.2
theorem KT.val {H : Hp} {kvs : List (List Key × V)} {xs : List (List Key × Addr × Value)} (r : KT H kvs xs) (k : List Key) : RelO (valV kvs k) ((atKey xs k).map (·.2)) := by
  induction r with
  | nil => exact True.intro
  | @cons p q ps qs h t ih =>
    obtain ⟨h1, _, h2⟩ := h
    by_cases e : p.1 = k
    · have e' : q.1 = k := h1.symm.trans e
      have b : atKey (q :: qs) k = some q.2 := by simp [atKey, List.find?_cons, e']
      rw [valV_pos e, b]; exact h2
    · have e' : ¬ q.1 = k := fun z => e (h1.trans z)
      have b : atKey (q :: qs) k = atKey qs k := by simp [atKey, List.find?_cons, e']
      rw [valV_neg e, b]; exact ih
theorem KT.repl {H : Hp} {kvs : List (List Key × V)} {xs : List (List Key × Addr × Value)} (r : KT H kvs xs) (k : List Key) {y : V} {u : Value} (ry : RelV y u) : KT H (kvs.map fun kv => if kv.1 = k then (kv.1, y) else kv) (xs.map (putAt k u)) := by
  induction r with
  | nil => exact .nil
  | @cons p q ps qs h t ih =>
    rw [List.map_cons, List.map_cons]
    refine .cons ?_ ih
    obtain ⟨h1, h2, h3⟩ := h
    unfold putAt
    by_cases e : p.1 = k
    · rw [if_pos e, if_pos (h1.symm.trans e)]; exact ⟨h1, h2, ry⟩
    · rw [if_neg e, if_neg (fun z => e (h1.trans z))]; exact ⟨h1, h2, h3⟩
theorem KT.put {H : Hp} {kvs : List (List Key × V)} {xs : List (List Key × Addr × Value)} (r : KT H kvs xs) (k : List Key) {b : Addr} {y : V} {u : Value} (hb : H b = some (.tup (k.map kV))) (ry : RelV y u) : KT H (putK kvs k y) (storedH xs k b u) := by
  have e : (kvs.any fun kv => decide (kv.1 = k)) = (atKey xs k).isSome := by
    rw [valV_any, (r.val k).isSome_eq, Option.isSome_map]
  unfold putK storedH
  rw [e]
  by_cases q : (atKey xs k).isSome = true
  · rw [if_pos q, if_pos q]; exact r.repl k ry
  · rw [if_neg q, if_neg q]; exact Paired.snoc r ⟨rfl, hb, ry⟩
theorem KT.keeps {H H' : Hp} {kvs : List (List Key × V)} {xs : List (List Key × Addr × Value)} (r : KT H kvs xs) (ht : ∀ b ys, H b = some (.tup ys)->H' b = some (.tup ys)) : KT H' kvs xs :=
  Paired.mapP r fun _ _ z => ⟨z.1, ht _ _ z.2.1, z.2.2⟩
section
variable {P : Program} {w : World} {H : Hp} {h : Heap} {a : Addr}
theorem rd_of {u : HO} (ok : HOk P w H h) (e : Rd H a u) : ObjOk P w H h a u := e.ok ok
theorem dk_rd {kvs : List (Key × V)} (ok : HOk P w H h) (e : Rd H a (.dK kvs)) : kvs.length ≤ sizeLine/\(a == sysModules) = false/\∃ vs, KV kvs vs/\h.DictOf (mixKind P w) a vs :=
  show ObjOk P w H h a (.dK kvs) from rd_of ok e
theorem dk_of {kvs : List (Key × V)} (ok : HOk P w H h) (e : H a = some (.dK kvs)) : kvs.length ≤ sizeLine/\(a == sysModules) = false/\∃ vs, KV kvs vs/\h.DictOf (mixKind P w) a vs := dk_rd ok (.inl e)
theorem key_of {ks : List Key} (ok : HOk P w H h) (e : H a = some (.tup (ks.map kV))) : (tupleKind (mixKind P w)).is h ks a := by
  obtain ⟨_, its, r, o, h1, h2, n, h3⟩ := (show ObjOk P w H h a (.tup (ks.map kV)) from ok a _ e)
  exact ⟨o, its.toArray, n, h1, h2, h3, by simpa using items_are r⟩
theorem dt_rd {kvs : List (List Key × V)} (ok : HOk P w H h) (e : Rd H a (.dT kvs)) : kvs.length ≤ sizeLine/\(a == sysModules) = false/\∃ xs, KT H kvs xs/\h.DictOfH (tupleKind (mixKind P w)) a xs := by
  obtain ⟨z, y, xs, r, o, es, ep, h1, h2, h3, h4, h5⟩ := (show ObjOk P w H h a (.dT kvs) from rd_of ok e)
  refine ⟨z, y, xs, r, o, es, ep, h1, h2, h3, h4, fun x hx => ?_, h5⟩
  have all : ∀ {l : List (List Key × V)} {m : List (List Key × Addr × Value)}, KT H l m->∀ x ∈ m, (tupleKind (mixKind P w)).is h x.1 x.2.1 := by
    intro l m q
    induction q with
    | nil => intro x hx; exact nomatch hx
    | @cons p q ps qs hq t ih =>
      intro x hx
      rcases List.mem_cons.mp hx with e | hx
      · subst e
        exact key_of ok (by rw [← hq.1]; exact hq.2.1)
      · exact ih x hx
  exact all r x hx
theorem dt_of {kvs : List (List Key × V)} (ok : HOk P w H h) (e : H a = some (.dT kvs)) : kvs.length ≤ sizeLine/\(a == sysModules) = false/\∃ xs, KT H kvs xs/\h.DictOfH (tupleKind (mixKind P w)) a xs := dt_rd ok (.inl e)
end
def DGet (H : Hp) (a : Addr) (y : V) (r : Option V) : Prop :=
  (∃ kvs k, Rd H a (.dK kvs)/\y = kV k/\r = valV kvs k) ∨ ∃ kvs k b, Rd H a (.dT kvs)/\y = .ref b/\H b = some (.tup (k.map kV))/\r = valV kvs k
def DPut (H : Hp) (a : Addr) (y v : V) (H' : Hp) : Prop :=
  (∃ kvs k, H a = some (.dK kvs)/\y = kV k/\kvs.length < sizeLine/\H' = upd H a (.dK (putK kvs k v))) ∨
  ∃ kvs k b, H a = some (.dT kvs)/\y = .ref b/\H b = some (.tup (k.map kV))/\kvs.length < sizeLine/\H' = upd H a (.dT (putK kvs k v))
theorem DGet.k {H : Hp} {a : Addr} {kvs : List (Key × V)} {k : Key} (e : H a = some (.dK kvs)) : DGet H a (kV k) (valV kvs k) := .inl ⟨kvs, k, .inl e, rfl, rfl⟩
theorem DPut.k {H : Hp} {a : Addr} {kvs : List (Key × V)} {k : Key} {v : V} (e : H a = some (.dK kvs)) (hl : kvs.length < sizeLine) : DPut H a (kV k) v (upd H a (.dK (putK kvs k v))) := .inl ⟨kvs, k, e, rfl, hl, rfl⟩
section
variable {X : Cx} {pins : List (Addr × Obj)} {σ : St} {H : Hp} {s : Shared} {a : Addr} {y v : V} {u r : Value} {o : Option V} {A : Around} {E : Value->Shared->Prop}
theorem Inv.big (I : Inv X pins σ H s) : sysModules < s.heap.objs.size := by
  have h : mainGlobals < s.heap.objs.size := (I.mod.glob.keeps I.bk).lt
  exact Nat.lt_trans (by decide) h
theorem d_notIn {Q : Value->Shared->Prop} (hu : A.units + 1 < cLine) (I : Inv X pins σ H s) (g : DGet H a y o) (ry : RelV y u) (h : ∀ s', Inv X pins σ H s'->Q (.bool (!o.isSome)) s') : wpAny (model X.prog X.w) A (compareOp .NotIn u (.ref a)) Q E s := by
  rcases g with ⟨kvs, k, e, ey, l⟩ | ⟨kvs, k, b, e, ey, eb, l⟩
  · subst ey
    obtain ⟨z, hd, vs, rel, dd⟩ := dk_rd I.hok e
    refine wpAny_notIn_of (kV_is ry) hd dd.mapOf ?_
    rw [← (rel.val k).isSome_eq, ← l]
    exact h _ (I.tok _)
  · subst ey
    cases (show u = Value.ref b from ry)
    obtain ⟨z, hd, xs, rel, dd⟩ := dt_rd I.hok e
    refine wpAny_notIn_heap (tupleKind_room_in1 hu) (key_of I.hok eb) hd dd ?_
    have q := (rel.val k).isSome_eq
    rw [Option.isSome_map] at q
    rw [← q, ← l]
    exact h _ (I.tok _)
theorem d_write {h' : Heap} {t' : Nat} {ob : HO} (I : Inv X pins σ H s) (mu : Mut (H a)) (hs : Heap.SameBut a s.heap h') (he : ∃ q, h'.get? a = some q) (new : ObjOk X.prog X.w (upd H a ob) h' a ob) : Inv X pins σ (upd H a ob) { s with heap := h', toks := t' } :=
  I.write (x := a) (e := a) mu (.inl rfl) (fun b q hb z => (hs.2 b hb).trans z) he new
theorem dk_new {P : Program} {w : World} {H' : Hp} {h' : Heap} {kvs : List (Key × V)} {vs : List (Key × Value)} (z : kvs.length ≤ sizeLine) (hd : (a == sysModules) = false) (rel : KV kvs vs) (dd : h'.DictOf (mixKind P w) a vs) : ObjOk P w H' h' a (.dK kvs) := ⟨z, hd, vs, rel, dd⟩
theorem d_setItem {H' : Hp} {Q : Unit->Shared->Prop} (hu : A.units + 1 < cLine) (I : Inv X pins σ H s) (g : DPut H a y v H') (ry : RelV y u) (rv : RelV v r) (h : ∀ s', Inv X pins σ H' s'->Q () s') : wpAny (model X.prog X.w) A (setItem (.ref a) u r) Q E s := by
  rcases g with ⟨kvs, k, e, ey, l, eH⟩ | ⟨kvs, k, b, e, ey, eb, l, eH⟩
  · subst ey eH
    obtain ⟨z, hd, vs, rel, dd⟩ := dk_of I.hok e
    have hz : vs.length ≤ sizeLine := by rw [← rel.length]; exact z
    have hl : (putK kvs k v).length ≤ sizeLine := by have := length_putK kvs k v; omega
    refine wpAny_setItem_pairs (hsz := hz) (kV_is ry) dd fun h' dd' hs => h _ ?_
    have he : ∃ q, h'.get? a = some q := let ⟨q, _, _, hq, _⟩ := dd'; ⟨q, hq⟩
    exact d_write I (by rw [e]; exact True.intro) hs he (dk_new hl hd (rel.put k rv) dd')
  · subst ey eH
    cases (show u = Value.ref b from ry)
    obtain ⟨z, hd, xs, rel, dd⟩ := dt_of I.hok e
    have hz : xs.length ≤ sizeLine := by rw [← Paired.length rel]; exact z
    have hl : (putK kvs k v).length ≤ sizeLine := by have := length_putK kvs k v; omega
    refine wpAny_setItem_heap (hsz := hz) (tupleKind_room_in1 hu) (key_of I.hok eb) dd fun h' dd' hs => h _ ?_
    obtain ⟨q, es, ep, hq, h2, h3, h4, _, h5⟩ := dd'
    refine d_write I (by rw [e]; exact True.intro) hs ⟨q, hq⟩ ⟨hl, hd, _, (rel.put k eb rv).keeps fun c ys ec => ?_, q, es, ep, hq, h2, h3, h4, h5⟩
    rw [upd_ne (ne_of ec e (fun z => nomatch z))]
    exact ec
end
section
variable {X : Cx} {pins : List (Addr × Obj)} {σ : St} {H : Hp} {s : Shared} {a : Addr} {kvs : List (Key × V)} {k : Key} {u : Value} {A : Around} {E : Value->Shared->Prop}
theorem d_len {Q : Value->Shared->Prop} (I : Inv X pins σ H s) (e : Rd H a (.dK kvs)) (h : ∀ t s', Inv X pins σ H s'->Q (.int kvs.length t) s') : wpAny (model X.prog X.w) A (call (.builtin "len") [.ref a]) Q E s := by
  obtain ⟨z, hd, vs, rel, dd⟩ := dk_rd I.hok e
  refine call_len_dict hd dd (by rw [← rel.length]; rw [sizeLine_eq] at z; omega) ?_
  rw [← rel.length]
  exact h _ _ (I.tok _)
end
def tDNotIn (ty td : TE) : TE := fun σ H Q => ty σ H fun y H1 => td σ H1 fun x H2 => ∃ a o, x = .ref a/\DGet H2 a y o/\Q (.bl (!o.isSome)) H2
def sDPut (td ty tv : TE) : TS := fun D σ H => tv σ H fun v H1 => td σ H1 fun x H2 => ty σ H2 fun y H3 => ∃ a H4, x = .ref a/\DPut H3 a y v H4/\D.nx σ H4
section
variable {X : Cx} {o i e value : Expr} {pos pos' tpos : Pos} {td ty tv : TE}
theorem pc_dnotin (hu : X.A.units + 1 < cLine) (hi : PE X i ty) (ho : PE X o td) : PC X .NotIn i o (tDNotIn ty td) := by
  intro pins s σ H Q I h
  refine thn (hi pins s σ H _ I h) fun iv s1 ⟨y, H1, I1, ry, q1⟩ => thn (ho pins s1 σ H1 _ I1 q1) fun u s2 ⟨x, H2, I2, rx, a, ov, ex, g, q2⟩ => ?_
  subst ex
  obtain rfl : u = Value.ref a := rx
  exact d_notIn hu I2 g ry fun s3 I3 => ⟨.bl (!ov.isSome), H2, I3, rfl, q2⟩
theorem ps_dput (hu : X.A.units + 1 < cLine) (ho : PE X o td) (hi : PE X i ty) (hv : PE X value tv) (hs : swapsWith value (some (.Subscript o i pos')) pos.line X.env = pure false) : PS X (.Assign [.Subscript o i pos'] value pos) (sDPut td ty tv) := by
  intro pins s σ H D I h
  refine wpAny_Assign_Subscript (thn (hv pins s σ H _ I h) fun r s1 ⟨v, H1, I1, rv, q1⟩ => thn (ho pins s1 σ H1 _ I1 q1) fun u s2 ⟨x, H2, I2, rx, q2⟩ => thn (hi pins s2 σ H2 _ I2 q2) fun iv s3 ⟨y, H3, I3, ry, a, H4, ex, g, q3⟩ => ?_) hs
  subst ex
  obtain rfl : u = Value.ref a := rx
  exact d_setItem hu I3 g ry rv fun s4 I4 => ⟨σ, H4, I4, q3⟩
end
theorem dk_empty {P : Program} {w : World} {H : Hp} (h : Heap) (hb : sysModules < h.objs.size) : ObjOk P w H (h.push { cls := .type "dict", data := .dict #[] }) h.objs.size (.dK []) :=
  ⟨Nat.zero_le _, beq_eq_false_iff_ne.mpr (Ne.symm (Nat.ne_of_lt hb)), [], .nil, Heap.DictOf.new h⟩
def tDNewK : TE := fun _ H Q => ∀ p, H p = none->Q (.ref p) (upd H p (.dK []))
section
variable {X : Cx} {pos : Pos}
theorem pe_dnewK : PE X (.Dict [] [] pos) tDNewK := fun pins s σ H Q I h =>
  wpAny_Dict_empty ⟨.ref s.heap.objs.size, _, I.laid (a := s.heap.objs.size) (o := .dK []) (t' := s.toks) (fun _ _ q => Heap.get?_push_of_some _ q) (Nat.le_refl _) (dk_empty s.heap I.big), rfl, h _ (I.hok.fresh (Nat.le_refl _))⟩
end
def tPairs : List (TE × TE)->St->Hp->(List (V × V)->Hp->Prop)->Prop
  | [], _, H, Q => Q [] H
  | (tk, tv) :: r, σ, H, Q => tk σ H fun x H1 => tv σ H1 fun y H2 => tPairs r σ H2 fun ps H3 => Q ((x, y) :: ps) H3
abbrev VV : List (V × V)->List (Value × Value)->Prop := Paired fun p q => RelV p.1 q.1/\RelV p.2 q.2
def PPs (X : Cx) (pos : Pos) (keys : List (Option Expr)) (values : List Expr) (trs : List (TE × TE)) : Prop :=
  ∀ (pins : List (Addr × Obj)) (s : Shared) (σ : St) (H : Hp) (Q : List (V × V)->Hp->Prop), Inv X pins σ H s->tPairs trs σ H Q →
    wpAny (model X.prog X.w) X.A (evalPairs (pairTrees keys values X.env pos)) (fun vs s' => ∃ ps H', Inv X pins σ H' s'/\VV ps vs/\Q ps H') X.xe s
theorem pps_nil {X : Cx} {pos : Pos} : PPs X pos [] [] [] := fun pins s σ H Q I h => pairTrees_nil_walk ⟨[], H, I, .nil, h⟩
theorem pps_cons {X : Cx} {pos : Pos} {k v : Expr} {ks : List (Option Expr)} {vs : List Expr} {tk tv : TE} {trs : List (TE × TE)} (hk : PE X k tk) (hv : PE X v tv) (hr : PPs X pos ks vs trs) : PPs X pos (some k :: ks) (v :: vs) ((tk, tv) :: trs) := fun pins s σ H Q I h =>
  pairTrees_cons_walk (thn (hk pins s σ H _ I h) fun u s1 ⟨x, H1, I1, rx, q1⟩ => thn (hv pins s1 σ H1 _ I1 q1) fun w2 s2 ⟨y, H2, I2, ry, q2⟩ =>
    thn (hr pins s2 σ H2 _ I2 q2) fun ws s3 ⟨ps, H3, I3, rel, q3⟩ => ⟨(x, y) :: ps, H3, I3, .cons ⟨rx, ry⟩ rel, q3⟩)
def mergeK (kvs more : List (Key × V)) : List (Key × V) := more.foldl (fun acc kv => putK acc kv.1 kv.2) kvs
theorem KV.merge : ∀ {more : List (Key × V)} {rs : List (Key × Value)} {kvs : List (Key × V)} {vs : List (Key × Value)}, KV more rs->KV kvs vs->KV (mergeK kvs more) (merged vs rs) := by
  intro more rs kvs vs r
  unfold KV at r
  induction r generalizing kvs vs with
  | nil => intro q; exact q
  | @cons p q ps qs h t ih =>
    intro r0
    have e : KV (putK kvs p.1 p.2) (stored vs q.1 q.2) := by
      have := r0.put p.1 h.2
      rw [← h.1]; exact this
    exact ih e
theorem length_mergeK : ∀ (more kvs : List (Key × V)), (mergeK kvs more).length ≤ kvs.length + more.length
  | [], kvs => by show kvs.length ≤ kvs.length + 0; omega
  | p :: r, kvs => by
    have h1 := length_mergeK r (putK kvs p.1 p.2)
    have h2 := length_putK kvs p.1 p.2
    show (mergeK (putK kvs p.1 p.2) r).length ≤ _
    rw [List.length_cons]; omega
theorem carries_of {P : Program} {w : World} : ∀ {kvs : List (Key × V)} {ws : List (Value × Value)}, VV (kvs.map fun kv => (kV kv.1, kv.2)) ws->∃ rs, Carries (mixKind P w) ws rs/\KV kvs rs
  | [], _, r => by rw [List.map_nil] at r; cases r; exact ⟨[], True.intro, .nil⟩
  | p :: kvs, _, r => by
    rw [List.map_cons] at r
    cases r with
    | @cons a b as bs h t =>
      obtain ⟨rs, c, q⟩ := carries_of (P := P) (w := w) t
      obtain ⟨b1, b2⟩ := b
      exact ⟨(p.1, b2) :: rs, ⟨kV_is h.1, rfl, c⟩, .cons ⟨rfl, h.2⟩ q⟩
def tDisp (trs : List (TE × TE)) : TE := fun σ H Q => ∀ p, H p = none->tPairs trs σ (upd H p (.dK [])) fun ps H2 => H2 p = some (.dK [])/\∃ kvs : List (Key × V), ps = kvs.map (fun kv => (kV kv.1, kv.2))/\kvs.length ≤ 15/\Q (.ref p) (upd H2 p (.dK (mergeK [] kvs)))
theorem pe_disp {X : Cx} {pos : Pos} {keys : List (Option Expr)} {values : List Expr} {trs : List (TE × TE)} (h : PPs X pos keys values trs) (hall : keys.all (·.isSome) = true) (hl : keys.length = values.length) (h0 : keys ≠ []) (h15 : keys.length ≤ 15) : PE X (.Dict keys values pos) (tDisp trs) := by
  intro pins s σ H Q I q
  have hn := I.hok.fresh (Nat.le_refl s.heap.objs.size)
  have I1 := I.laid (a := s.heap.objs.size) (o := .dK []) (h' := s.heap.push { cls := .type "dict", data := .dict #[] }) (t' := s.toks) (fun _ _ q => Heap.get?_push_of_some _ q) (Nat.le_refl _) (dk_empty s.heap I.big)
  refine wpAny_Dict_walk (knd := mixKind X.prog X.w) hall hl h0 h15 (thn (h pins _ σ _ _ I1 (q _ hn)) fun ws s2 ⟨ps, H2, I2, rel, e, kvs, ep, lk, q2⟩ => ?_)
  subst ep
  obtain ⟨rs, c, rk⟩ := carries_of (P := X.prog) (w := X.w) rel
  obtain ⟨z, hd, vs0, r0, dd⟩ := dk_of I2.hok e
  cases r0
  refine ⟨rs, c, dd, fun h' dd' hs => ⟨.ref s.heap.objs.size, _, ?_, rfl, q2⟩⟩
  have hz : (mergeK [] kvs).length ≤ sizeLine := by
    have h1 := length_mergeK kvs []
    rw [List.length_nil] at h1
    rw [sizeLine_eq]; omega
  have he : ∃ q, h'.get? s.heap.objs.size = some q := let ⟨q, _, _, hq, _⟩ := dd'; ⟨q, hq⟩
  exact d_write I2 (by rw [e]; exact True.intro) hs he (dk_new hz hd (rk.merge .nil) dd')
section
variable {X : Cx} {pins : List (Addr × Obj)} {σ : St} {H : Hp} {s : Shared} {a : Addr} {y d : V} {u r : Value} {o : Option V} {A : Around} {E : Value->Shared->Prop}
end
section
variable {X : Cx} {o e f : Expr} {apos cpos : Pos} {td ty tx : TE}
end
section
variable {X : Cx} {pins : List (Addr × Obj)} {σ : St} {H : Hp} {s : Shared} {a : Addr} {kvs : List (Key × V)} {A : Around} {E : Value->Shared->Prop}
end
section
variable {X : Cx} {pins : List (Addr × Obj)} {σ : St} {H : Hp} {s : Shared} {a : Addr} {y : V} {u : Value} {A : Around} {E : Value->Shared->Prop}
end
end L2
namespace Att
open PySem PySem.W PySem.Calls PyProof.Rows
theorem ints_of_wellAll {P : Params} {h : Heap} : ∀ (ns : List Int) (vs : List Value), WellAll P h vs (ns.map WData.int)->IntsAre vs ns := by
  intro ns
  induction ns with
  | nil =>
    intro vs w
    rw [List.map_nil] at w
    cases w
    exact .nil
  | cons n ns ih =>
    intro vs w
    rw [List.map_cons] at w
    cases w with
    | cons a b =>
      cases a
      exact .cons _ _ (ih _ b)
theorem script_of {l : OpenLaw} {n : Nat} (hn : l.most = some n) {P : Params} {h : Heap} {args : List WData} {vals : List Value} (hpre : l.row.toRowW.claim.pre args = true) (hwl : WellAll P h vals args) : ∃ a vs ns, vals = [Value.ref a]/\args = [WData.list (ns.map WData.int)]/\h.get? a = some { cls := .type "list", data := .seq vs.toArray }/\IntsAre vs ns/\ns.length ≤ n := by
  have hsh : WShape.hasAll [] args [.list .int] = true := (pre_splitW hpre).1
  have hc : l.pre.holds [] { args := args } = true := (pre_splitW hpre).2
  obtain ⟨d, r, rfl, h1, h2⟩ := hasAllW_cons hsh
  obtain rfl := hasAllW_nil h2
  obtain ⟨xs, rfl, h3⟩ := hasW_list h1
  obtain ⟨ns, rfl⟩ := items_int h3
  have hlen : ns.length ≤ n := by
    unfold OpenLaw.pre at hc
    have h4 : (WTm.not (.lt (.lit (.int (n : Int))) (.len (.arg 0)))).holds [] { args := [.list (ns.map .int)] } = true := by
      have h4 := (holds_andW hc).1
      rw [hn] at h4
      exact h4
    have h5 := condW_of h4 (w_not (w_lt w_lit (w_len_list (w_arg rfl))))
    rw [List.length_map] at h5
    refine Nat.le_of_not_lt fun q => ?_
    have q' : (n : Int) < ((ns.length : Nat) : Int) := by omega
    first
      | (rw [decide_eq_true q'] at h5; exact absurd h5 (by decide))
      | (simp at h5; omega)
  cases hwl with
  | cons w1 w2 =>
    cases w2
    cases w1 with
    | list ho hall => exact ⟨_, _, ns, rfl, rfl, ho, ints_of_wellAll ns _ hall, hlen⟩
theorem post_true (l : OpenLaw) (args : List WData) : l.row.toRowW.claim.post args (.bool true) args = true :=
  postW_of (r := l.row.toRowW) (X := (true == true))
    (show WShape.has [] (.bool true) .bool = true by first | rfl | decide | simp [WShape.has, WShape.arms, WShape.armsAll])
    (show (WTm.eq .res (.lit (.bool true))).value [] { args := args, res := some (.bool true), after := args } = some (.bool (true == true)) from w_eq_bool (w_res rfl) w_lit) rfl
section
variable {prog : Program} {w : World} {A : Around} {E : Value->Shared->Prop} {s : Shared} {K : Frag}
end
end Att
namespace L2
open PySem PySem.Spec PyProof.Rows
theorem vals_ints : ∀ {vs : List Value} {ns : List Int}, IntsAre vs ns->Vals (ns.map V.int) vs
  | _, _, .nil => .nil
  | _, _, .cons n t h => .cons ⟨t, rfl⟩ (vals_ints h)
def Only (H : Hp) : Prop := ∀ b, H b = none ∨ ∃ o xs, H b = some (.frz o (.lst xs))
theorem law_call {P : Program} {w : World} {K : PySem.W.Frag} {mg mb : Str->Option Value} {CX : CXT} {k : Nat} {fa a : Addr} {fd : FuncData} {x : Str} {sp : Sp} {s₁ : Shared} {vs : List Value} {ns : List Int} (KX : K.In s₁.heap) (hns : s₁.heap.Ns mainGlobals mg) (hb : s₁.heap.Ns builtinsNs mb) (hbb : ∀ x : Str, x ≠ "__name__"->mb x = bootBuiltins x) (hlim : s₁.heap.NoLimit) (hbm : ∃ bm ob, mg "__builtins__" = some (.ref bm)/\bm ≠ builtinsNs/\s₁.heap.get? bm = some ob/\ob.cls = .type "module"/\ob.dict = some builtinsNs/\ob.data = .plain) (hg : s₁.gens = #[]) (ha : s₁.heap.get? a = some { cls := .type "list", data := .seq vs.toArray }) (hi : IntsAre vs ns) (hl : ns.length ≤ sizeLine) (hr : Room k callerA)
    (F : ∀ base : Heap, K.In base->base.Ns mainGlobals mg->FnOk P w K mg base CX k fa fd [x] sp) (hbind : ∀ (s : Shared) (u : Value), BindsTo s fd ⟨[u], []⟩ [(x, u)])
    (hsp : ∀ H : Hp, Only H->SqL K H a (ns.map V.int)->sp [.ref a] H (fun v _ => v = .bl true) fun _ _ _ => False)
    (hCX : ∀ H e s', CX [] H s₁ (fun _ _ _ => False) e s'->False) :
    codeAny (model P w) callerA (.call (.ref fa) ⟨[.ref a], []⟩) (fun r s' => r = .ok (.ret (.bool true))/\OldK s₁.heap s'.heap/\s'.os = s₁.os/\AllBare s'.gens) s₁ := by
  have rv := vals_ints hi
  have lenV := hi.length
  have core : ∀ H : Hp, Only H->SqL K H a (ns.map V.int)->HOk P w H s₁.heap->(∀ b, H b ≠ none->b = a)->(H a ≠ none->K.lookup a = none) →
      codeAny (model P w) callerA (.call (.ref fa) ⟨[.ref a], []⟩) (fun r s' => r = .ok (.ret (.bool true))/\OldK s₁.heap s'.heap/\s'.os = s₁.os/\AllBare s'.gens) s₁ := by
    intro H hO hS hok hA hK
    have base_of : ∀ {b : Addr} {o : Obj}, s₁.heap.get? b = some o->H b = none->(hidT s₁.heap H).get? b = some o := fun e n => hidT_get e n
    have noA : ∀ {b : Addr} {o : Obj} {es : Array DictEntry} {ep : Nat}, s₁.heap.get? b = some o->o.data = .dict es ep->H b = none := fun {b o es ep} e d => by
      cases q : H b with
      | none => rfl
      | some u =>
        have e' : b = a := hA b (by rw [q]; simp)
        subst e'
        rw [ha] at e; cases e
        have d' : Data.seq vs.toArray _ = Data.dict es ep := d
        cases d'
    have nsK : ∀ {b : Addr} {m : Str->Option Value}, s₁.heap.Ns b m->(hidT s₁.heap H).Ns b m := fun {b m} ⟨o, es, ep, e, d, r⟩ => ⟨o, es, ep, base_of e (noA e d), d, r⟩
    have hKb : K.In (hidT s₁.heap H) := fun b o e => base_of (KX b o e) (by
      cases q : H b with
      | none => rfl
      | some u =>
        have e' : b = a := hA b (by rw [q]; simp)
        subst e'
        rw [hK (by rw [q]; simp)] at e; cases e)
    have hM : Mod K mg (hidT s₁.heap H) := ⟨hKb, nsK hns, ⟨mb, nsK hb, hbb⟩, let ⟨mc, h1, h2⟩ := hlim; ⟨mc, nsK h1, h2⟩, by
      obtain ⟨bm, ob, b1, b2, b3, b4⟩ := hbm
      refine ⟨bm, ob, b1, b2, base_of b3 ?_, b4⟩
      cases q : H bm with
      | none => rfl
      | some u =>
        have e' : bm = a := hA bm (by rw [q]; simp)
        subst e'
        rw [ha] at b3; cases b3
        exact absurd b4.1 (by show ¬ Value.type "list" = .type "module"; decide +kernel)⟩
    have e0 : Env0 P w K mg (hidT s₁.heap H) callerA [] s₁ H := ⟨rfl, hM, fun b o e => of_hidT e, Nat.le_of_eq (hidT_size _ _), trivial, fun b hb => absurd (show b ∈ ([] : List Addr) from hb) (by simp), hok, .of_eq hg⟩
    refine codeAny_mono ((F _ hKb (nsK hns)).run callerA [] s₁ H ⟨[.ref a], []⟩ [.ref a] [.ref a] _ _ hr e0 (hbind s₁ (.ref a)) (.cons rfl .nil) (hsp H hO hS)) fun r s' h => ?_
    cases r with
    | error e => exact (hCX H e s' h).elim
    | ok fl =>
      cases fl with
      | next => exact False.elim h
      | brk => exact False.elim h
      | cont => exact False.elim h
      | ret u =>
        obtain ⟨v, H', os, bare, un, hok', r', q⟩ := h
        have q' : v = .bl true := q
        subst q'
        obtain rfl : u = Value.bool true := r'
        refine ⟨rfl, OldK.of_keep fun b o e => ?_, os, bare⟩
        cases q : H b with
        | none => exact un.keep b o e q (by intro z; exact absurd (show b ∈ ([] : List Addr) from z) (by simp)) (by simp)
        | some u =>
          rcases hO b with z | ⟨ob, xs, z⟩
          · rw [q] at z; cases z
          · have z2 := un.frzs b ob _ z
            obtain ⟨e1, _⟩ := hok b _ z
            obtain ⟨e2, _⟩ := hok' b _ z2
            rw [e] at e1; cases e1
            exact e2
  cases hk : K.lookup a with
  | some o =>
    have e := KX a o hk
    rw [ha] at e
    cases e
    refine core (fun _ => none) (fun _ => .inl rfl) (.inr ⟨_, vs.toArray, _, hk, rfl, rfl, rfl, by rw [List.size_toArray, lenV]; exact hl, by simpa using rv⟩) (fun b u z => by have z' : (none : Option HO) = some u := z; cases z') (fun b z => absurd rfl z) fun z => absurd rfl z
  | none =>
    refine core (fun b => if b = a then some (.frz { cls := .type "list", data := .seq vs.toArray } (.lst (ns.map V.int))) else none) (fun b => ?_) (.inl (.inr ⟨{ cls := .type "list", data := .seq vs.toArray }, if_pos rfl⟩)) (fun b u z => ?_) (fun b z => ?_) fun _ => hk
    · by_cases hb : b = a
      · exact .inr ⟨_, _, if_pos hb⟩
      · exact .inl (if_neg hb)
    · by_cases hb : b = a
      · have z' := (if_pos hb).symm.trans z
        cases z'
        subst hb
        exact ⟨ha, by rw [List.length_map]; exact hl, vs, _, rv, ha⟩
      · have z' := (if_neg hb).symm.trans z
        cases z'
    · by_cases hb : b = a
      · exact hb
      · exact absurd (if_neg hb) z
end L2
namespace L2
open PySem PySem.Spec PyProof.Rows
end L2
namespace L2
open PySem PySem.Spec PyProof.Rows
def defArgs (s : Stmt) : Arguments := match s with
  | .FunctionDef _ a _ _ _ _ _ _ _ _ => a
  | _ => { posonlyargs := [], args := [], vararg := none, kwonlyargs := [], kw_defaults := [], kwarg := none, defaults := [] }
def defBody (s : Stmt) : List Stmt := match s with
  | .FunctionDef _ _ b _ _ _ _ _ _ _ => b
  | _ => []
def defScope (s : Stmt) : Scope := match s with
  | .FunctionDef _ _ _ _ _ _ sc _ _ _ => sc
  | _ => { kind := .function, names := [], isGenerator := false, isCoroutine := false }
abbrev CX0 : CXT := fun _ _ _ _ _ _ => False
abbrev E0 : XK := fun _ _ _ => False
theorem pass0 {X : Cx} : Passes CX0 X E0 := fun _ _ _ _ _ _ _ h => h.elim
structure Fun (K : PySem.W.Frag) (x qual : Str) (st : Stmt) (f : Addr) (fd : FuncData) : Prop where
  ex : ∃ (oc : Value) (od : Option Addr) (kV doc pm : Value) (an : Option Addr) (cdv ct : Value) (osl : Array (Option Value)),
    fd = PySem.W.fnOf x qual (defArgs st) (defBody st) (defScope st) .none kV doc pm an cdv ct/\K.lookup f = some ⟨oc, od, .func fd, osl⟩/\PySem.W.codeIn K cdv qual = true
  kp : PySem.W.keepIn K (.ref f) = true
section
variable {P : Program} {w : World} {K : PySem.W.Frag} {mg : Str->Option Value} {base : Heap}
theorem Fun.ok {x qual : Str} {st : Stmt} {f : Addr} {fd : FuncData} {N ps : List Str} {k : Nat} {sp : Sp} (F : Fun K x qual st f fd) (S : FnScope N ps (defScope st)) (len : ∀ vs H Q E, sp vs H Q E->vs.length = ps.length) (hbody : ∀ (cdv : Value) (A : Around) (outer : List Env) (s : Shared) (H : Hp) (vs : List V) (Q : VK) (E : XK), Room k (A.deeper (envOfC qual (defScope st) s.heap.objs.size f cdv))->sp vs H Q E->∃ t, PSs (cxOf CX0 P w K mg base N qual (defScope st) f cdv A outer s H E).nox (defBody st) t/\t { nx := fun _ H' => Q .non H', rt := Q } (start N vs) H) : FnOk P w K mg base CX0 (k + 1) f fd ps sp := by
  obtain ⟨oc, od, kV, doc, pm, an, cdv, ct, osl, rfl, lk, hcd⟩ := F.ex
  refine fn_of lk hcd S len fun A outer s H vs Q E hr hsp => ?_
  obtain ⟨t, h, q⟩ := hbody cdv A outer s H vs Q E hr hsp
  exact ⟨t, h.nox, q⟩
theorem Fun.binds {x qual : Str} {st : Stmt} {f : Addr} {fd : FuncData} {ps : List Str} (F : Fun K x qual st f fd) (h : ∀ (kV doc pm : Value) (an : Option Addr) (cdv ct : Value) (us : List Value), us.length = ps.length->bindArgs (PySem.W.fnOf x qual (defArgs st) (defBody st) (defScope st) .none kV doc pm an cdv ct) ⟨us, []⟩ = pure (ps.zip us)) : Binds K fd ps [] := by
  obtain ⟨oc, od, kV, doc, pm, an, cdv, ct, osl, rfl, lk, hcd⟩ := F.ex
  exact .all (h kV doc pm an cdv ct)
theorem fun_mk {x qual : Str} {st : Stmt} {f : Addr} {oc : Value} {od an : Option Addr} {osl : Array (Option Value)} {kV doc pm cdv ct : Value} (l : K.lookup f = some ⟨oc, od, .func (PySem.W.fnOf x qual (defArgs st) (defBody st) (defScope st) .none kV doc pm an cdv ct), osl⟩) (c : PySem.W.codeIn K cdv qual = true) (k : PySem.W.keepIn K (.ref f) = true) : Fun K x qual st f (PySem.W.fnOf x qual (defArgs st) (defBody st) (defScope st) .none kV doc pm an cdv ct) := ⟨⟨oc, od, kV, doc, pm, an, cdv, ct, osl, rfl, l, c⟩, k⟩
end
theorem hu_of {A : Around} {k : Nat} (hr : Room k A) : A.units + 1 < cLine := Nat.lt_of_le_of_lt (Nat.add_le_add_left (by decide : 1 ≤ 64) _) hr.units
theorem small1000 {n : Nat} (h : n ≤ 1000) : n < sizeLine := Nat.lt_of_le_of_lt h (by decide)
section
variable {X : Cx}
theorem pv (i : Nat) {x : Str} {pos : Pos} (hN : X.N[i]? = some x := by rfl) (hv : Vis X.env.scope x := by first | exact Or.inl rfl | exact Or.inr (Or.inl rfl) | exact Or.inr (Or.inr rfl)) (hd : (x == ("__debug__" : Str)) = false := by decide)
    (hcd : (x == ("__classdict__" : Str)) = false := by decide) : PE X (.Name x pos) (tVar i) := pe_var hN hv hd hcd
theorem call_lenD : CallR X (.builtin "len") (fun xs H Q => ∃ a kvs, xs = [V.ref a]/\H a = some (.dK kvs)/\Q (.int kvs.length) H) := by
  intro pins s σ H xs us Q I r h
  obtain ⟨a, kvs, rfl, ha, q⟩ := h
  obtain ⟨u, rfl, ru⟩ := vals1 r
  cases ru
  exact d_len I (.inl ha) fun t s' I' => ⟨.int kvs.length, H, I', ⟨t, rfl⟩, q⟩
end
theorem iteF {A B : Prop} (h : B) : if false = true then A else B := by
  rw [if_neg Bool.false_ne_true]
  exact h
theorem iteT {A B : Prop} (h : A) : if true = true then A else B := by
  rw [if_pos rfl]
  exact h
def Same (H H' : Hp) : Prop := ∀ b o, H b = some o->H' b = some o
theorem Same.refl (H : Hp) : Same H H := fun _ _ h => h
theorem Same.trans {H H1 H2 : Hp} (a : Same H H1) (b : Same H1 H2) : Same H H2 := fun c o h => b c o (a c o h)
theorem Same.free {H H' : Hp} (e : Same H H') {l : Addr} (h : H' l = Option.none) : H l = Option.none := by
  cases q : H l with
  | none => rfl
  | some o =>
    rw [e l o q] at h
    cases h
theorem Same.seq {K : PySem.W.Frag} {H H' : Hp} {a : Addr} {xs : List V} (e : Same H H') (h : SqL K H a xs) : SqL K H' a xs := by
  rcases h with (h | ⟨o, h⟩) | h
  · exact .inl (.inl (e _ _ h))
  · exact .inl (.inr ⟨o, e _ _ h⟩)
  · exact .inr h
section
variable {κ : Type} [DecidableEq κ]
end
end L2
namespace L2
open PySem PySem.Spec PyProof.Rows
def oldB (N M : List Str) (sc : Scope) : Bool := (List.range N.length).all fun i => match M[i]? with
  | some y => (sc.names.lookup y != some .local) && (sc.names.lookup y != some .cell) && ((sc.names.lookup y != some .free) || (N[i]? == some y))
  | none => true
structure CompS (scN : List (Str × NameKind)) (N M : List Str) (x : Str) (sc : Scope) : Prop where
  kind : sc.kind = .function
  keys : (sc.names.map (·.1)).Nodup
  fr : ∀ p ∈ sc.names, p.2 = .free->scN.lookup p.1 = some .cell ∨ scN.lookup p.1 = some .free
  nd : M.Nodup
  len : M.length = N.length + 1
  last : M[N.length]? = some x
  own : sc.names.lookup x = some .local ∨ sc.names.lookup x = some .cell
  old : oldB N M sc = true
theorem oldB_at {N M : List Str} {sc : Scope} (h : oldB N M sc = true) {i : Nat} {y : Str} (hi : i < N.length) (e : M[i]? = some y) : sc.names.lookup y ≠ some .local/\sc.names.lookup y ≠ some .cell/\(sc.names.lookup y = some .free->N[i]? = some y) := by
  have q := List.all_eq_true.mp h i (List.mem_range.mpr hi)
  rw [e] at q
  simp only [Bool.and_eq_true, Bool.or_eq_true, bne_iff_ne, beq_iff_eq, ne_eq] at q
  obtain ⟨⟨q1, q2⟩, q3⟩ := q
  exact ⟨q1, q2, fun z => q3.elim (fun w => absurd z w) id⟩
theorem lookup_of_mem {l : List (Str × NameKind)} (nd : (l.map (·.1)).Nodup) {p : Str × NameKind} (h : p ∈ l) : l.lookup p.1 = some p.2 := by
  induction l with
  | nil => cases h
  | cons q r ih =>
    obtain ⟨h1, h2⟩ := List.nodup_cons.mp (show (q.1 :: r.map (·.1)).Nodup from nd)
    rw [List.lookup_cons]
    rcases List.mem_cons.mp h with e | h
    · subst e; rw [beq_self_eq_true]
    · have ne : (p.1 == q.1) = false := by
        rw [beq_eq_false_iff_ne]
        intro e
        exact h1 (e ▸ List.mem_map.mpr ⟨p, h, rfl⟩)
      rw [ne]; exact ih h2 h
theorem closure_ok {scope : Scope} {env : Env} (h : ∀ p ∈ scope.names, p.2 = .free->∃ c, env.cells.lookup p.1 = some c) : ∃ cl, closureFor scope env = pure cl/\(∀ y c, (y, c) ∈ cl->env.cells.lookup y = some c/\(y, NameKind.free) ∈ scope.names)/\∀ p ∈ scope.names, p.2 = .free->∃ c, cl.lookup p.1 = some c := by
  have gen : ∀ (l : List (Str × NameKind)) (acc : List (Str × Addr)), (∀ p ∈ l, p.2 = .free->∃ c, env.cells.lookup p.1 = some c) →
      ∃ cl, (forIn l acc fun (p : Str × NameKind) (cs : List (Str × Addr)) => if p.2 == .free then (do let a ← cellOf env p.1; pure (ForInStep.yield ((p.1, a) :: cs))) else (pure (ForInStep.yield cs) : Sem (ForInStep (List (Str × Addr))))) = pure cl ∧
        (∀ y c, (y, c) ∈ cl->(y, c) ∈ acc ∨ (env.cells.lookup y = some c/\(y, NameKind.free) ∈ l))/\(∀ y c, acc.lookup y = some c->∃ c', cl.lookup y = some c')/\∀ p ∈ l, p.2 = .free->∃ c, cl.lookup p.1 = some c := by
    intro l
    induction l with
    | nil => intro acc _; exact ⟨acc, rfl, fun y c e => .inl e, fun y c e => ⟨c, e⟩, fun p hp => nomatch hp⟩
    | cons q r ih =>
      intro acc hq
      obtain ⟨n, k⟩ := q
      rw [List.forIn_cons]
      by_cases hk : k = .free
      · subst hk
        obtain ⟨c, hc⟩ := hq (n, .free) List.mem_cons_self rfl
        have hc' : env.cells.lookup n = some c := hc
        have e1 : cellOf env n = pure c := by unfold cellOf; rw [hc']
        obtain ⟨cl, e, h1, h2, h3⟩ := ih ((n, c) :: acc) fun p hp => hq p (List.mem_cons_of_mem _ hp)
        refine ⟨cl, ?_, ?_, ?_, ?_⟩
        · simp only [beq_self_eq_true, if_true, e1, pure_bind]
          exact e
        · intro y d hy
          rcases h1 y d hy with z | ⟨z1, z2⟩
          · rcases List.mem_cons.mp z with z | z
            · cases z; exact .inr ⟨hc', List.mem_cons_self⟩
            · exact .inl z
          · exact .inr ⟨z1, List.mem_cons_of_mem _ z2⟩
        · intro y d hy
          by_cases e' : y = n
          · subst e'; exact h2 y c (by rw [List.lookup_cons, beq_self_eq_true])
          · exact h2 y d (by rw [List.lookup_cons, beq_eq_false_iff_ne.mpr e']; exact hy)
        · intro p hp hf
          rcases List.mem_cons.mp hp with z | z
          · subst z; exact h2 n c (by rw [List.lookup_cons, beq_self_eq_true])
          · exact h3 p z hf
      · have hkb : (k == NameKind.free) = false := beq_eq_false_iff_ne.mpr hk
        obtain ⟨cl, e, h1, h2, h3⟩ := ih acc fun p hp => hq p (List.mem_cons_of_mem _ hp)
        refine ⟨cl, ?_, ?_, h2, ?_⟩
        · simp only [hkb, Bool.false_eq_true, if_false, pure_bind]
          exact e
        · intro y d hy
          rcases h1 y d hy with z | ⟨z1, z2⟩
          · exact .inl z
          · exact .inr ⟨z1, List.mem_cons_of_mem _ z2⟩
        · intro p hp hf
          rcases List.mem_cons.mp hp with z | z
          · subst z; exact absurd hf hk
          · exact h3 p z hf
  obtain ⟨cl, e, h1, _, h3⟩ := gen scope.names [] h
  refine ⟨cl, ?_, fun y c hy => (h1 y c hy).elim (fun z => nomatch z) id, h3⟩
  unfold closureFor
  have e' : (forIn scope.names ([] : List (Str × Addr)) fun (p : Str × NameKind) (cs : List (Str × Addr)) => if p.2 == .free then (do let a ← cellOf env p.1; pure (ForInStep.yield ((p.1, a) :: cs))) else (pure (ForInStep.yield cs) : Sem (ForInStep (List (Str × Addr))))) = pure cl := e
  first
    | (simp only [bind_pure_comp, Functor.map_map] at e' ⊢; simpa using e')
    | (show (forIn scope.names ([] : List (Str × Addr)) _ >>= fun cs => pure cs) = pure cl
       rw [bind_pure]
       exact e')
theorem cellsFrom_acc : ∀ (names : List (Str × NameKind)) (n : Nat) (acc : List (Str × Addr)) {y : Str}, (∀ p ∈ names, p.2 = .cell->p.1 ≠ y)->(cellsFrom n names acc).lookup y = acc.lookup y
  | [], _, _, _, _ => rfl
  | (m, k) :: r, n, acc, y, h => by
    unfold cellsFrom
    split
    · rename_i hk
      have hk' : k = .cell := by simpa using hk
      rw [cellsFrom_acc r (n + 1) _ fun p hp => h p (List.mem_cons_of_mem _ hp), List.lookup_cons]
      have : (y == m) = false := by rw [beq_eq_false_iff_ne]; exact fun e => h (m, k) List.mem_cons_self hk' e.symm
      rw [this]
    · exact cellsFrom_acc r n acc fun p hp => h p (List.mem_cons_of_mem _ hp)
theorem cellsFrom_acc_some : ∀ (names : List (Str × NameKind)) (n : Nat) (acc : List (Str × Addr)) {y : Str} {c : Addr}, acc.lookup y = some c->∃ d, (cellsFrom n names acc).lookup y = some d
  | [], _, _, _, c, h => ⟨c, h⟩
  | (m, k) :: r, n, acc, y, c, h => by
    unfold cellsFrom
    split
    · by_cases e : y = m
      · exact cellsFrom_acc_some r (n + 1) _ (c := n) (by rw [List.lookup_cons, beq_iff_eq.mpr e])
      · exact cellsFrom_acc_some r (n + 1) _ (c := c) (by rw [List.lookup_cons, beq_eq_false_iff_ne.mpr e]; exact h)
    · exact cellsFrom_acc_some r n acc h
theorem cellsFrom_own : ∀ (names : List (Str × NameKind)) (n : Nat) (acc : List (Str × Addr)) {y : Str}, (y, NameKind.cell) ∈ names->∃ c, (cellsFrom n names acc).lookup y = some c
  | (m, k) :: r, n, acc, y, h => by
    unfold cellsFrom
    rcases List.mem_cons.mp h with e | h
    · cases e
      rw [if_pos (show (NameKind.cell == NameKind.cell) = true from rfl)]
      exact cellsFrom_acc_some r (n + 1) _ (c := n) (by rw [List.lookup_cons, beq_self_eq_true])
    · split
      · exact cellsFrom_own r _ _ h
      · exact cellsFrom_own r _ _ h
theorem pushCells_own : ∀ (names : List (Str × NameKind)) (h : Heap) (acc : List (Str × Addr)) {y : Str} {c : Addr}, (y, c) ∈ cellsFrom h.objs.size names acc->(y, c) ∈ acc ∨ (h.objs.size ≤ c/\(y, NameKind.cell) ∈ names/\(pushCells h names).IsCell c none)
  | [], _, _, _, _, e => .inl e
  | (m, k) :: r, h, acc, y, c, e => by
    unfold cellsFrom at e
    unfold pushCells
    split at e
    · rename_i hk
      have hk' : k = .cell := by simpa using hk
      rw [if_pos hk]
      have sz : (h.push { cls := .type "cell", data := .cell none }).objs.size = h.objs.size + 1 := Heap.size_push ..
      have e' : (y, c) ∈ cellsFrom (h.push { cls := .type "cell", data := .cell none }).objs.size r ((m, h.objs.size) :: acc) := by rw [sz]; exact e
      rcases pushCells_own r _ _ e' with z | ⟨z1, z2, z3⟩
      · rcases List.mem_cons.mp z with z | z
        · cases z
          exact .inr ⟨Nat.le_refl _, by rw [hk']; exact List.mem_cons_self, ⟨_, pushCells_keeps r _ _ _ (Heap.get?_push_size _ rfl), rfl⟩⟩
        · exact .inl z
      · exact .inr ⟨by rw [sz] at z1; omega, List.mem_cons_of_mem _ z2, z3⟩
    · rename_i hk
      rw [if_neg hk]
      rcases pushCells_own r h acc e with z | ⟨z1, z2, z3⟩
      · exact .inl z
      · exact .inr ⟨z1, List.mem_cons_of_mem _ z2, z3⟩
theorem cellsFrom_inj : ∀ (names : List (Str × NameKind)) (n : Nat) (acc : List (Str × Addr)), (∀ y c, (y, c) ∈ acc->c < n)->(∀ y z c, (y, c) ∈ acc->(z, c) ∈ acc->y = z) →
    ∀ y z c, (y, c) ∈ cellsFrom n names acc->(z, c) ∈ cellsFrom n names acc->y = z
  | [], _, _, _, h2, y, z, c, e1, e2 => h2 y z c e1 e2
  | (m, k) :: r, n, acc, h1, h2, y, z, c, e1, e2 => by
    unfold cellsFrom at e1 e2
    split at e1
    · rename_i hk
      rw [if_pos hk] at e2
      refine cellsFrom_inj r (n + 1) ((m, n) :: acc) ?_ ?_ y z c e1 e2
      · intro y c h
        rcases List.mem_cons.mp h with h | h
        · cases h; exact Nat.lt_succ_self _
        · exact Nat.lt_succ_of_lt (h1 y c h)
      · intro y z c hy hz
        rcases List.mem_cons.mp hy with a | a <;> rcases List.mem_cons.mp hz with b | b
        · cases a; cases b; rfl
        · cases a; exact absurd (h1 z n b) (Nat.lt_irrefl _)
        · cases b; exact absurd (h1 y n a) (Nat.lt_irrefl _)
        · exact h2 y z c a b
    · rename_i hk
      rw [if_neg hk] at e2
      exact cellsFrom_inj r n acc h1 h2 y z c e1 e2
theorem newEnv_comp {M : Model} {A : Around} {E : Value->Shared->Prop} {s : Shared} {scope : Scope} {cl : List (Str × Addr)} {env : Env} {Q : Env->Shared->Prop} (hQ : ∀ h4 : Heap, h4.Ns s.heap.objs.size (fun _ => none)->(∀ b o, s.heap.get? b = some o->h4.get? b = some o)->(∀ y c, (y, c) ∈ cellsFrom (s.heap.objs.size + 1) scope.names cl->(y, c) ∈ cl ∨ (s.heap.objs.size + 1 ≤ c/\(y, NameKind.cell) ∈ scope.names/\h4.IsCell c none))->∀ cenv : Env, { cenv with scope := relabel scope env } = compEnvC scope (cellsFrom (s.heap.objs.size + 1) scope.names cl) s.heap.objs.size env->cenv.locals = s.heap.objs.size->Q cenv { s with heap := h4 }) :
    wpAny M A (newFunctionEnv scope env.globals cl [] env.qual none .none (some env)) Q E s := by
  simp only [newFunctionEnv, Option.isSome_some, if_true]
  refine wpAny_bind (wpAny_alloc ?_)
  refine wpAny_bind (wpAny_layCells _ (fun name kind cells => by cases hkc : kind == NameKind.cell <;> simp [hkc]) _ _ _ _ ?_)
  have sz : (s.heap.push { cls := .type "dict", data := .dict #[] }).objs.size = s.heap.objs.size + 1 := Heap.size_push ..
  rw [show ({ s with heap := s.heap.push { cls := .type "dict", data := .dict #[] } } : Shared).heap.objs.size = s.heap.objs.size + 1 from Heap.size_push ..]
  rw [List.forIn_nil]
  refine wpAny_bind (wpAny_pure (wpAny_pure ?_))
  refine hQ _ ((Heap.Ns.new s.heap (.type "dict")).keeps (pushCells_keeps _ _)) (fun b o e => pushCells_keeps _ _ b o (Heap.get?_push_of_some _ e)) (fun y c h => ?_) _ rfl rfl
  rw [← sz] at h ⊢
  exact pushCells_own _ _ _ h
theorem compLoop_any {prog : Program} {w : World} {A : Around} {R : Result->Shared->Prop} {s : Shared} {elt target iter : Expr} {ifs : List Expr} {scope : Scope} {pos : Pos} {it acc : Value} {env : Env} (I : Nat->Shared->Prop)
    (turn : ∀ n s, I n s->wpAny (model prog w) A (pyNext it) (fun r s₁ => match r with
      | none => R (.ok .next) s₁
      | some v => wpAny (model prog w) A (letOwnedTupleGo target it v) (fun _ s₀ => wpAny (model prog w) A (assign target env v) (fun _ s₂ =>
          wpAny (model prog w) A (forIn ifs true fun c r => if r = true then do let ok ← isTrue c env (eval c env); pure (ForInStep.yield ok) else pure (ForInStep.yield r)) (fun ok s₃ =>
            if ok = true then wpAny (model prog w) A (eval elt env) (fun x s₄ =>
              wpAny (model prog w) A (call (.builtin "list.append") [acc, x]) (fun _ s₅ => ∃ m, m < n/\I m s₅) (fun _ _ => False) s₄) (fun _ _ => False) s₃
            else ∃ m, m < n/\I m s₃) (fun _ _ => False) s₂) (fun _ _ => False) s₀) (fun _ _ => False) s₁) (fun _ _ => False) s)
    (n : Nat) (h : I n s) :
    codeAny (model prog w) A (.compLoop (.ListComp elt [⟨target, iter, ifs, 0⟩] scope pos) 0 it acc env) R s := by
  refine codeAny_loop rfl I (fun n s hI => ?_) n h
  show wpAny _ A ((compTurn (.ListComp elt [⟨target, iter, ifs, 0⟩] scope pos) 0 it acc env).onRaise (fun x => do noteFrame x env; theTreesLotGoes x)) _ _ s
  refine wpAny_noted ?_
  rw [compTurn_list]
  refine wpAny_bind (wpAny_standAt (wpAny_bind (wpAny_mono (turn n s hI) (fun r s₁ h₁ => ?_) fun _ _ h' => h'.elim)))
  cases r with
  | none => exact wpAny_pure h₁
  | some v =>
    refine wpAny_bind (wpAny_mono h₁ (fun _ s₀ h₀ => ?_) fun _ _ h' => h'.elim)
    refine wpAny_bind (wpAny_mono h₀ (fun _ s₂ h₂ => wpAny_bind (wpAny_mono h₂ (fun ok s₃ h₃ => ?_) fun _ _ h' => h'.elim)) fun _ _ h' => h'.elim)
    cases ok with
    | false => exact wpAny_pure ⟨rfl, h₃⟩
    | true =>
      exact wpAny_bind (wpAny_bind (wpAny_mono h₃ (fun x s₄ h₄ => wpAny_bind (wpAny_mono h₄ (fun _ s₅ h₅ => wpAny_pure (wpAny_pure ⟨rfl, h₅⟩)) fun _ _ h' => h'.elim)) fun _ _ h' => h'.elim))
end L2
namespace L2
open PySem PySem.Spec PyProof.Rows
def compOf (X : Cx) (scope : Scope) (cl : List (Str × Addr)) (M : List Str) (s : Shared) (H : Hp) (fp : List Addr) : Cx where
  prog := X.prog
  w := X.w
  K := X.K
  mg := X.mg
  base := X.base
  A := X.A
  N := M
  s₀ := s
  H₀ := H
  env := compEnvC scope (cellsFrom (s.heap.objs.size + 1) scope.names cl) s.heap.objs.size X.env
  outer := X.stack
  stack := X.stack
  ex := fp
  fn := fun y => scope.names.lookup y == some .cell
  calm := X.calm
  pn := X.pn
  xe := fun _ _ => False
theorem lookup_relabel {env : Env} : ∀ {names : List (Str × NameKind)} {x : Str} {k : NameKind}, (names.map fun (n, k) => if (k == NameKind.free && env.scope.kind == .function && env.kindOf n == some .cell) then (n, NameKind.cell) else (n, k)).lookup x = some k →
    names.lookup x = some k ∨ (names.lookup x = some .free/\k = .cell)
  | [], _, _, h => by simp at h
  | (n, j) :: r, x, k, h => by
    have ih := @lookup_relabel env r x k
    rw [List.map_cons] at h
    dsimp only at h
    by_cases hc : (j == NameKind.free && env.scope.kind == .function && env.kindOf n == some .cell) = true
    · rw [if_pos hc, List.lookup_cons] at h
      rw [List.lookup_cons]
      cases hx : x == n with
      | true =>
        rw [hx] at h
        have hj : j = .free := by
          simp only [Bool.and_eq_true] at hc
          simpa using hc.1.1
        exact .inr ⟨by rw [hj], (Option.some.inj h).symm⟩
      | false => rw [hx] at h; exact ih h
    · rw [if_neg hc, List.lookup_cons] at h
      rw [List.lookup_cons]
      cases hx : x == n with
      | true => rw [hx] at h; exact .inl h
      | false => rw [hx] at h; exact ih h
theorem lookup_relabel_of {env : Env} : ∀ {names : List (Str × NameKind)} {x : Str}, names.lookup x = some .free →
    (names.map fun (n, k) => if (k == NameKind.free && env.scope.kind == .function && env.kindOf n == some .cell) then (n, NameKind.cell) else (n, k)).lookup x = some .cell ∨
    (names.map fun (n, k) => if (k == NameKind.free && env.scope.kind == .function && env.kindOf n == some .cell) then (n, NameKind.cell) else (n, k)).lookup x = some .free
  | [], _, h => by simp at h
  | (n, j) :: r, x, h => by
    have ih := @lookup_relabel_of env r x
    rw [List.map_cons]
    dsimp only
    rw [List.lookup_cons] at h
    by_cases hc : (j == NameKind.free && env.scope.kind == .function && env.kindOf n == some .cell) = true
    · rw [if_pos hc, List.lookup_cons]
      cases hx : x == n with
      | true => exact .inl rfl
      | false => rw [hx] at h; exact ih h
    · rw [if_neg hc, List.lookup_cons]
      cases hx : x == n with
      | true => rw [hx] at h; exact .inr h
      | false => rw [hx] at h; exact ih h
theorem lookup_relabel_cell {env : Env} : ∀ {names : List (Str × NameKind)} {x : Str}, names.lookup x = some .cell →
    (names.map fun (n, k) => if (k == NameKind.free && env.scope.kind == .function && env.kindOf n == some .cell) then (n, NameKind.cell) else (n, k)).lookup x = some .cell
  | [], _, h => by simp at h
  | (n, j) :: r, x, h => by
    have ih := @lookup_relabel_cell env r x
    rw [List.map_cons]
    dsimp only
    rw [List.lookup_cons] at h
    by_cases hc : (j == NameKind.free && env.scope.kind == .function && env.kindOf n == some .cell) = true
    · rw [if_pos hc, List.lookup_cons]
      cases hx : x == n with
      | true => rfl
      | false => rw [hx] at h; exact ih h
    · rw [if_neg hc, List.lookup_cons]
      cases hx : x == n with
      | true => rw [hx] at h; exact h
      | false => rw [hx] at h; exact ih h
section
variable {X : Cx} {pins : List (Addr × Obj)} {σ : St} {H : Hp} {s : Shared} {scope : Scope} {cl : List (Str × Addr)} {M : List Str} {x : Str} {fp : List Addr} {scN : List (Str × NameKind)}
theorem comp_start {h4 : Heap} (I : Inv X pins σ H s) (S : CompS scN X.N M x scope) (hsc : X.env.scope.names = scN) (hcl1 : ∀ y c, (y, c) ∈ cl->X.env.cells.lookup y = some c/\(y, NameKind.free) ∈ scope.names) (hcl2 : ∀ p ∈ scope.names, p.2 = .free->∃ c, cl.lookup p.1 = some c) (hfp : ∀ b ∈ fp, FpOk X pins H b) (hlt : ∀ b ∈ fp, b < s.heap.objs.size) {m : Str->Option Value} (hns : h4.Ns s.heap.objs.size m) (hk : ∀ b o, s.heap.get? b = some o->h4.get? b = some o) (hcell : ∀ y c, (y, c) ∈ cellsFrom (s.heap.objs.size + 1) scope.names cl->(y, c) ∈ cl ∨ (s.heap.objs.size + 1 ≤ c/\(y, NameKind.cell) ∈ scope.names/\h4.IsCell c none)) : Inv (compOf X scope cl M s H fp) pins (σ ++ [none]) H { s with heap := h4 } := by
  have clt : ∀ y c, (y, c) ∈ cl->c < s.heap.objs.size := fun y c h => let ⟨v, z⟩ := I.cell y c (hcl1 y c h).1; z.lt
  have kin : ∀ y : Str, (compOf X scope cl M s H fp).env.kindOf y = (scope.names.map fun (n, k) => if (k == NameKind.free && X.env.scope.kind == .function && X.env.kindOf n == some .cell) then (n, NameKind.cell) else (n, k)).lookup y := fun y => rfl
  have frcell : ∀ y, scope.names.lookup y = some .free->(∀ p ∈ scope.names, p.2 = .cell->p.1 ≠ y) := fun y hy p hp hc e => by
    have q := lookup_of_mem S.keys hp
    rw [e, hy, hc] at q; cases q
  refine ⟨⟨I.ok.mod, S.kind, I.ok.glob, I.ok.blt, Nat.le_refl _, fun y z c h1 h2 => ?_, fun y hy => ?_, fun y c h1 h2 => ?_, I.ok.hd, I.ok.frames, .inl rfl, fun b hb => ⟨Nat.ne_of_lt (hlt b hb), fun y c hc e => ?_⟩, I.bs, Nat.le_trans I.ok.bsz I.sz, fun b o e hb => ?_, fun b hb hf => ?_, I.stack, I.stkFree⟩,
    rfl, I.bare, Un.kept hk, ⟨m, hns, fun i y v h1 h2 h3 => ?_⟩, fun y c h => ?_, I.hok.fresh (Nat.le_refl _), fun y c h => ?_, fun p hp => ?_, I.hok.kept hk, ?_⟩
  · exact cellsFrom_inj scope.names _ cl (fun y c h => Nat.lt_succ_of_lt (clt y c h)) (fun y z c a b => I.ok.inj y z c (hcl1 y c a).1 (hcl1 z c b).1) y z c (PySem.mem_of_lookup h1) (PySem.mem_of_lookup h2)
  · rw [kin y] at hy
    have key : scope.names.lookup y = some .cell ∨ scope.names.lookup y = some .free := by
      rcases hy with hy | hy
      · rcases lookup_relabel hy with z | ⟨z, _⟩
        · exact .inl z
        · exact .inr z
      · rcases lookup_relabel hy with z | ⟨z, _⟩
        · exact .inr z
        · exact .inr z
    rcases key with z | z
    · exact cellsFrom_own scope.names _ cl (PySem.mem_of_lookup z)
    · obtain ⟨c, hc⟩ := hcl2 (y, .free) (PySem.mem_of_lookup z) rfl
      exact cellsFrom_acc_some scope.names _ cl hc
  · have hy : scope.names.lookup y = some .cell := by
      have : (scope.names.lookup y == some NameKind.cell) = true := h1
      simpa using this
    rcases hcell y c (PySem.mem_of_lookup h2) with z | ⟨z, _⟩
    · have q := lookup_of_mem S.keys (hcl1 y c z).2
      rw [hy] at q; cases q
    · exact Nat.le_of_succ_le z
  · subst e
    rcases hcell y c (PySem.mem_of_lookup hc) with z | ⟨z, _⟩
    · exact (hfp c hb).2.2.2.2.1 y c (hcl1 y c z).1 rfl
    · exact absurd (Nat.lt_of_lt_of_le (hlt c hb) (Nat.le_of_succ_le z)) (Nat.lt_irrefl _)
  · rcases (hfp b hb).2.2.2.1 with z | z
    · exact I.ok.noex b o e z
    · exact absurd (Nat.lt_of_lt_of_le (Heap.lt_size e) (Nat.le_trans I.ok.bsz z)) (Nat.lt_irrefl _)
  · obtain ⟨_, f1, f2, _⟩ := hfp b hb
    rcases List.mem_cons.mp (I.stkSub b hf) with z | z
    · exact f1 z
    · exact f2 z
  · have hMi : i < M.length := (List.getElem?_eq_some_iff.mp h1).1
    by_cases hi : i < X.N.length
    · obtain ⟨o1, o2, o3⟩ := oldB_at S.old hi h1
      have hσ : σ[i]? = some (some v) := by
        rw [List.getElem?_append_left (by rw [I.len]; exact hi)] at h2; exact h2
      have hfr : scope.names.lookup y = some .free := by
        have h3' : (compOf X scope cl M s H fp).env.kindOf y = some .local ∨ (compOf X scope cl M s H fp).env.kindOf y = some .cell ∨ (compOf X scope cl M s H fp).env.kindOf y = some .free := h3
        rw [kin y] at h3'
        rcases h3' with z | z | z
        · rcases lookup_relabel z with q | ⟨q, _⟩
          · exact absurd q o1
          · exact q
        · rcases lookup_relabel z with q | ⟨q, _⟩
          · exact absurd q o2
          · exact q
        · rcases lookup_relabel z with q | ⟨q, _⟩
          · exact q
          · exact q
      have hNi := o3 hfr
      have hout := S.fr (y, .free) (PySem.mem_of_lookup hfr) rfl
      rw [← hsc] at hout
      obtain ⟨m0, _, hl⟩ := I.loc
      obtain ⟨u, r, l⟩ := hl i y v hNi hσ (.inr hout)
      refine ⟨u, r, .inr ⟨?_, ?_⟩⟩
      · rw [kin y]; exact lookup_relabel_of hfr
      · obtain ⟨c, hc⟩ := hcl2 (y, .free) (PySem.mem_of_lookup hfr) rfl
        have hXc := (hcl1 y c (PySem.mem_of_lookup hc)).1
        refine ⟨c, (cellsFrom_acc scope.names _ cl (frcell y hfr)).trans hc, ?_⟩
        rcases l with ⟨kl, _⟩ | ⟨_, c', hc', z⟩
        · have kl' : X.env.scope.names.lookup y = some .local := kl
          rw [kl'] at hout
          rcases hout with q | q <;> cases q
        · rw [hXc] at hc'; cases hc'
          exact z.keeps hk
    · have e : i = X.N.length := by have := S.len; omega
      subst e
      rw [List.getElem?_append_right (by rw [I.len]; exact Nat.le_refl _), I.len, Nat.sub_self] at h2
      cases h2
  · rcases hcell y c (PySem.mem_of_lookup h) with z | ⟨_, _, z⟩
    · obtain ⟨v, q⟩ := I.cell y c (hcl1 y c z).1
      exact ⟨v, q.keeps hk⟩
    · exact ⟨_, z⟩
  · rcases hcell y c (PySem.mem_of_lookup h) with z | ⟨z, _, _⟩
    · exact I.freeC y c (hcl1 y c z).1
    · exact I.hok.fresh (Nat.le_of_succ_le z)
  · obtain ⟨e, n, ne, nf, d⟩ := I.pin p hp
    refine ⟨hk _ _ e, n, Nat.ne_of_lt (Heap.lt_size e), fun hf => ?_, d⟩
    rcases List.mem_cons.mp (I.stkSub p.1 hf) with z | z
    · exact ne z
    · exact nf z
  · rw [List.length_append, I.len]; exact S.len.symm
theorem comp_back {H' : Hp} {s' : Shared} {pl : List (Addr × Obj)} {τ : St} (I : Inv X pins σ H s) (hfp : ∀ b ∈ fp, FpOk X pins H b) (J : Inv (compOf X scope cl M s H fp) pl τ H' s') : Inv X pins σ H' s' :=
  I.call' (ch := fp) J.os J.base J.hok J.bare fun b hb => let ⟨_, f1, _, f3, f4, f5⟩ := hfp b hb; ⟨f3, f1, f4, f5⟩
theorem comp_gone {H' : Hp} {s' : Shared} {h' : Heap} {τ : St} (I : Inv X pins σ H s) (J : Inv X pins τ H' s') (hC : H' s.heap.objs.size = none) (hs : Heap.SameBut s.heap.objs.size s'.heap h') : Inv X pins τ H' { s' with heap := h' } := by
  refine J.turned (it := s.heap.objs.size) (t' := s'.toks) (fun b o hb e => (hs.2 b hb).trans e) hC (Nat.ne_of_gt I.lt) (.inr I.sz) (fun y c e z => ?_) (fun p hp z => ?_)
  · obtain ⟨v, q⟩ := I.cell y c e
    exact absurd q.lt (by rw [z]; exact Nat.lt_irrefl _)
  · exact absurd (Heap.lt_size (I.pin p hp).1) (by rw [z]; exact Nat.lt_irrefl _)
end
def PF (X : Cx) (ifs : List Expr) (t : TT) : Prop :=
  ∀ (pins : List (Addr × Obj)) (s : Shared) (σ : St) (H : Hp) (Q : Bool->Hp->Prop), Inv X pins σ H s->t σ H Q →
    wpAny (model X.prog X.w) X.A (forIn ifs true fun c r => if r = true then do let ok ← isTrue c X.env (eval c X.env); pure (ForInStep.yield ok) else pure (ForInStep.yield r)) (TP X pins σ Q) X.xe s
def tYes : TT := fun _ H Q => Q true H
theorem pf_nil {X : Cx} : PF X [] tYes := fun pins s σ H Q I h => wpAny_tests_nil ⟨H, I, h⟩
theorem pf_one {X : Cx} {c : Expr} {t : TT} (hc : PT X c t) : PF X [c] t := fun pins s σ H Q I h => wpAny_tests_one (hc pins s σ H Q I h)
def tComp (wi : TI) (tf : TT) (te : TE) : TE := fun σ H Q => wi σ H fun J H1 => ∀ D, H1 D = none->∃ W : Nat->Nat->List V->Hp->Prop, (∃ m, W 0 m [] (upd H1 D (.lst [])))/\∀ i m ys H2, W i m ys H2 →
  H2 D = some (.lst ys)/\((J.stop i H2/\Q (.ref D) H2) ∨ (J.go i H2/\∃ N : List V->Hp->Prop, (∀ ys' H', N ys' H'->∃ m', m' < m/\W (i + 1) m' ys' H')/\∀ y H3, J.yld i H2 y H3 →
    tf (σ ++ [some y]) H3 fun c H4 => if c = true then te (σ ++ [some y]) H4 fun z H5 => H5 D = some (.lst ys)/\ys.length < sizeLine/\N (ys ++ [z]) (upd H5 D (.lst (ys ++ [z]))) else N ys H4))
section
variable {X : Cx} {elt iter : Expr} {ifs : List Expr} {scope : Scope} {pos px : Pos} {x : Str} {wi : TI} {tf : TT} {te : TE}
theorem comp_turns {Y : Cx} {pins : List (Addr × Obj)} {σ : St} {H2 : Hp} {s : Shared} {it D : Addr} {fp : List Addr} {tn : Nat->Heap->Prop} {J : It} {R : Result->Shared->Prop} {Q : Hp->Prop} {n : Nat} (hc : Y.calm = true) (hxe : Y.xe = fun _ _ => False) (hN : Y.N.Nodup) (hσ : σ.length = n) (hx : Y.N[n]? = some x) (hl : Loc Y.env.scope x) (hf : Y.fn x = true ∨ Y.env.scope.names.lookup x = some .local) (T : Turn Y.prog Y.w Y.K (.Name x px) J fp it tn) (f2 : ∀ b ∈ fp, FpOk Y pins H2 b) (st2 : tn 0 s.heap) (I2 : Inv Y pins (σ ++ [none]) H2 s) (hif : PF Y ifs tf) (hel : PE Y elt te) (W : Nat->Nat->List V->Hp->Prop) (w0 : ∃ m, W 0 m [] H2) (turn : ∀ i m ys H2, W i m ys H2->H2 D = some (.lst ys)/\((J.stop i H2/\Q H2) ∨ (J.go i H2/\∃ N : List V->Hp->Prop, (∀ ys' H', N ys' H'->∃ m', m' < m/\W (i + 1) m' ys' H')/\∀ y H3, J.yld i H2 y H3->tf (σ ++ [some y]) H3 fun c H4 => if c = true then te (σ ++ [some y]) H4 fun z H5 => H5 D = some (.lst ys)/\ys.length < sizeLine/\N (ys ++ [z]) (upd H5 D (.lst (ys ++ [z]))) else N ys H4))) (hR : ∀ H' s', Inv Y pins (σ ++ [none]) H' s'->Q H'->R (.ok .next) s') : codeAny (model Y.prog Y.w) Y.A (.compLoop (.ListComp elt [⟨.Name x px, iter, ifs, 0⟩] scope pos) 0 (.ref it) (.ref D) Y.env) R s := by
  have stat : ∀ {H' : Hp}, (∀ b ∈ fp, H' b = none)->∀ b ∈ fp, FpOk Y pins H' b := fun hn b hb => ⟨hn b hb, (f2 b hb).2⟩
  obtain ⟨m0, w0⟩ := w0
  refine compLoop_any (fun k s' => ∃ i ys H', Inv Y pins (σ ++ [none]) H' s'/\tn i s'.heap/\(∀ b ∈ fp, H' b = none)/\W i k ys H') ?_ m0 ⟨0, [], H2, I2, st2, fun b hb => (f2 b hb).1, w0⟩
  rintro k s3 ⟨i, ys, H3, I3, st3, fr3, w3⟩
  obtain ⟨hD, hcase⟩ := turn i k ys H3 w3
  rcases hcase with ⟨stop, q⟩ | ⟨go, N, hN', step⟩
  · refine thn (T.done Y rfl rfl rfl hc i pins s3 _ H3 _ I3 (stat fr3) st3 stop) fun r s4 ⟨hr, I4⟩ => ?_
    subst hr
    exact hR H3 s4 I4 q
  · refine thn (T.item Y rfl rfl rfl hc i pins s3 _ H3 _ I3 (stat fr3) st3 go) fun r s4 ⟨u, hr, h4⟩ => ?_
    subst hr
    refine thn h4 fun _ s5 ⟨y, H5, I5, r5, y5, st5, fr5⟩ => ?_
    have I5' := I5.pinned (stat fr5) (T.obj _ _ st5)
    have hset : (σ ++ [none]).set n (some y) = σ ++ [some y] := by
      rw [List.set_append_right _ _ (by omega)]
      rw [hσ, Nat.sub_self]; rfl
    refine wpAny_assign_Name (store_ok I5' hN hx hl r5 (fun s6 I6 => ?_) hf)
    rw [hset] at I6
    have noX : ∀ (e : Value) (s : Shared), Y.xe e s->False := fun e s h => by rw [hxe] at h; exact h
    refine wpAny_mono (hif _ s6 _ H5 _ I6 (step y H5 y5)) (fun c s7 ⟨H7, I7, q7⟩ => ?_) fun e s h => noX e s h
    have back : ∀ {s' : Shared} {ys' : List V} {H' : Hp}, Inv Y (pins ++ pinsAt fp s5.heap) (σ ++ [some y]) H' s'->N ys' H'->∃ m, m < k/\∃ i ys H', Inv Y pins (σ ++ [none]) H' s'/\tn i s'.heap/\(∀ b ∈ fp, H' b = none)/\W i m ys H' := fun {s' ys' H'} I' n' => by
      obtain ⟨m', hm, w'⟩ := hN' ys' H' n'
      refine ⟨m', hm, i + 1, ys', H', I'.unpinned.weak (by simp) (fun j v e => ?_), T.keep _ _ _ st5 fun b hb o e => (I'.pin (b, o) (List.mem_append_right _ (List.mem_append_right _ (mem_pinsAt hb e)))).1, fun b hb => ?_, w'⟩
      · by_cases hj : j < σ.length
        · rw [List.getElem?_append_left hj] at e ⊢; exact e
        · rw [List.getElem?_append_right (by omega)] at e
          cases hjj : j - σ.length with
          | zero => rw [hjj] at e; cases e
          | succ t => rw [hjj] at e; simp at e
      · obtain ⟨o, e, d⟩ := T.obj _ _ st5 b hb
        exact (I'.pin (b, o) (List.mem_append_right _ (List.mem_append_right _ (mem_pinsAt hb e)))).2.1
    cases c with
    | false =>
      rw [if_neg Bool.false_ne_true] at q7 ⊢
      exact back I7 q7
    | true =>
      rw [if_pos rfl] at q7 ⊢
      refine wpAny_mono (hel _ s7 _ H7 _ I7 q7) (fun v s8 ⟨z, H8, I8, r8, hD8, hl8, n8⟩ => ?_) fun e s h => noX e s h
      have mt : MtM Y "list.append" rAppend := mt_append
      refine wpAny_mono (mt _ s8 _ H8 (.ref D) [z] (.ref D) [v] (fun _ H' => N (ys ++ [z]) H') I8 rfl (.cons r8 .nil) ⟨D, ys, z, rfl, rfl, hD8, hl8, n8⟩) (fun _ s9 ⟨_, H9, I9, _, n9⟩ => back I9 n9) fun e s h => noX e s h
theorem comp_core {M : List Str} {scN : List (Str × NameKind)} {pins : List (Addr × Obj)} {s : Shared} {σ : St} {H : Hp} {use : Option (Value->Sem Unit)} {Z : Value->Shared->Prop} {G : VK} {pos2 : Pos} (S : CompS scN X.N M x scope) (hsc : X.env.scope.names = scN) (hc : X.calm = true) (hi : PI X (.Name x px) iter wi) (hif : ∀ cl s H fp, PF (compOf X scope cl M s H fp) ifs tf) (hel : ∀ cl s H fp, PE (compOf X scope cl M s H fp) elt te) (hs : ∀ v, foldedSetIterable iter X.env v = pure v) (I : Inv X pins σ H s) (h : tComp wi tf te σ H G) (fin : ∀ (s3 : Shared) (H3 : Hp) (fp : List Addr) (cl : List (Str × Addr)) (D : Addr) (H' : Hp) (s' : Shared), Inv X pins σ H3 s3->(∀ b ∈ fp, FpOk X pins H3 b)->Inv (compOf X scope cl M s3 H3 fp) pins (σ ++ [none]) H' s'->G (.ref D) H'->compPost (model X.prog X.w) X.A X.xe use Z (.ref D) s3.heap.objs.size (.ok .next) s') : wpAny (model X.prog X.w) X.A (comprehension (.ListComp elt [⟨.Name x px, iter, ifs, 0⟩] scope pos) scope X.env pos2 (newList []) false (eval iter X.env) use) Z X.xe s := by
  obtain ⟨cl, hclo, hcl1, hcl2⟩ := closure_ok (scope := scope) (env := X.env) fun p hp hf => I.ok.has p.1 (by have q := S.fr p hp hf; rw [← hsc] at q; exact q)
  refine wpAny_comprehension_free rfl hs hclo S.kind (fun y hy hl => by rw [lookup_of_mem S.keys hy, hl]) (thn (hi pins s σ H _ I h) fun v s1 h1 => thn h1 fun itv s2 h2 => ?_)
  obtain ⟨it, fp, tn, J, H2, e, I2, T, st2, f2, q⟩ := h2
  subst e
  refine wpAny_newObj_type ?_
  have fr : H2 s2.heap.objs.size = none := I2.hok.fresh (Nat.le_refl _)
  have I3 : Inv X pins σ (upd H2 s2.heap.objs.size (.lst [])) { s2 with heap := s2.heap.push { cls := .type "list", dict := none, data := .seq ([] : List Value).toArray } } :=
    I2.laid (t' := s2.toks) (fun b u e => Heap.get?_push_of_some _ e) (Nat.le_refl _) ⟨Nat.zero_le _, [], 0, .nil, Heap.get?_push_size _ rfl⟩
  obtain ⟨W, w0, turn⟩ := q s2.heap.objs.size fr
  have hlt2 : ∀ b ∈ fp, b < s2.heap.objs.size := fun b hb => let ⟨o, e, _⟩ := T.obj 0 _ st2 b hb; Heap.lt_size e
  have f3 : ∀ b ∈ fp, FpOk X pins (upd H2 s2.heap.objs.size (.lst [])) b := fun b hb => ⟨by rw [upd_ne (Nat.ne_of_lt (hlt2 b hb))]; exact (f2 b hb).1, (f2 b hb).2⟩
  refine newEnv_comp fun h4 hns hk hcell cenv hcenv hloc => ?_
  rw [hcenv, hloc]
  have hlt3 : ∀ b ∈ fp, b < ({ s2 with heap := s2.heap.push { cls := .type "list", dict := none, data := .seq ([] : List Value).toArray } } : Shared).heap.objs.size := fun b hb => by
    show b < (s2.heap.push _).objs.size
    rw [Heap.size_push]; exact Nat.lt_succ_of_lt (hlt2 b hb)
  have J4 := comp_start I3 S hsc hcl1 hcl2 f3 hlt3 hns hk hcell
  have st4 : tn 0 h4 := T.keep 0 _ _ st2 fun b hb o e => hk b o (Heap.get?_push_of_some _ e)
  have f4 : ∀ b ∈ fp, FpOk (compOf X scope cl M { s2 with heap := s2.heap.push { cls := .type "list", dict := none, data := .seq ([] : List Value).toArray } } (upd H2 s2.heap.objs.size (.lst [])) fp) pins (upd H2 s2.heap.objs.size (.lst [])) b := fun b hb =>
    ⟨(f3 b hb).1, (J4.ok.exf b hb).1, J4.ok.exfs b hb, .inl hb, (J4.ok.exf b hb).2, (f3 b hb).2.2.2.2.2⟩
  have loc : Loc (relabel scope X.env) x/\((compOf X scope cl M { s2 with heap := s2.heap.push { cls := .type "list", dict := none, data := .seq ([] : List Value).toArray } } (upd H2 s2.heap.objs.size (.lst [])) fp).fn x = true ∨ (relabel scope X.env).names.lookup x = some .local) := by
    rcases S.own with z | z
    · have q := lookup_relabel_local (env := X.env) z
      exact ⟨.inl q, .inr q⟩
    · refine ⟨.inr ?_, .inl ?_⟩
      · exact lookup_relabel_cell z
      · show (scope.names.lookup x == some NameKind.cell) = true
        rw [z]; rfl
  have loop : ∀ s5 : Shared, s5 = { ({ s2 with heap := s2.heap.push { cls := .type "list", dict := none, data := .seq ([] : List Value).toArray } } : Shared) with heap := h4 } →
      codeAny (model X.prog X.w) X.A (.compLoop (.ListComp elt [⟨.Name x px, iter, ifs, 0⟩] scope pos) 0 (.ref it) (.ref s2.heap.objs.size) (compEnvC scope (cellsFrom (({ s2 with heap := s2.heap.push { cls := .type "list", dict := none, data := .seq ([] : List Value).toArray } } : Shared).heap.objs.size + 1) scope.names cl) ({ s2 with heap := s2.heap.push { cls := .type "list", dict := none, data := .seq ([] : List Value).toArray } } : Shared).heap.objs.size X.env))
        (compPost (model X.prog X.w) X.A X.xe use Z (.ref s2.heap.objs.size) ({ s2 with heap := s2.heap.push { cls := .type "list", dict := none, data := .seq ([] : List Value).toArray } } : Shared).heap.objs.size) s5 := by
    rintro s5 rfl
    exact comp_turns (Y := compOf X scope cl M { s2 with heap := s2.heap.push { cls := .type "list", dict := none, data := .seq ([] : List Value).toArray } } (upd H2 s2.heap.objs.size (.lst [])) fp)
      (Q := fun H' => G (.ref s2.heap.objs.size) H') hc rfl S.nd I.len S.last loc.1 loc.2 T f4 st4 J4 (hif _ _ _ _) (hel _ _ _ _) W w0 turn fun H' s' J' g => fin _ _ fp cl _ H' s' I3 f3 J' g
  exact codeAny_compStart_list (loop _ rfl) (T.self _ 0 _ _ _ st4 (loop _ rfl))
theorem pe_comp (scN : List (Str × NameKind)) (N M : List Str) (hi : PI X (.Name x px) iter wi) (hif : ∀ cl s H fp, PF (compOf X scope cl M s H fp) ifs tf) (hel : ∀ cl s H fp, PE (compOf X scope cl M s H fp) elt te) (S : CompS scN N M x scope := by first | exact ⟨rfl, by decide +kernel, by decide +kernel, by decide +kernel, rfl, rfl, .inl rfl, by decide +kernel⟩ | exact ⟨rfl, by decide +kernel, by decide +kernel, by decide +kernel, rfl, rfl, .inr rfl, by decide +kernel⟩)
    (hN : X.N = N := by rfl) (hsc : X.env.scope.names = scN := by rfl) (hc : X.calm = true := by rfl) (hs : ∀ v, foldedSetIterable iter X.env v = pure v := by intro _; rfl) : PE X (.ListComp elt [⟨.Name x px, iter, ifs, 0⟩] scope pos) (tComp wi tf te) := by
  intro pins s σ H Q I h
  subst hN
  rw [eval_ListComp]
  refine comp_core (use := none) S hsc hc hi hif hel hs I h fun s3 H3 fp cl D H' s' I3 f3 J' g => ?_
  obtain ⟨m, hn, _⟩ := J'.loc
  exact ⟨m, hn, fun h' hs' => ⟨.ref D, H', comp_gone I3 (comp_back I3 f3 J') J'.free hs', rfl, g⟩⟩
def tSetC (j : Nat) (te : TE) : TS := fun D σ H => te σ H fun v H' => D.nx (σ.set j (some v)) H'
theorem ps_setC (scN : List (Str × NameKind)) (N M : List Str) (j : Nat) {y : Str} {py spos : Pos} (hn : X.N.Nodup) (hj : X.N[j]? = some y) (hy : Loc X.env.scope y) (hi : PI X (.Name x px) iter wi) (hif : ∀ cl s H fp, PF (compOf X scope cl M s H fp) ifs tf) (hel : ∀ cl s H fp, PE (compOf X scope cl M s H fp) elt te) (S : CompS scN N M x scope := by first | exact ⟨rfl, by decide +kernel, by decide +kernel, by decide +kernel, rfl, rfl, .inl rfl, by decide +kernel⟩ | exact ⟨rfl, by decide +kernel, by decide +kernel, by decide +kernel, rfl, rfl, .inr rfl, by decide +kernel⟩)
    (hN : X.N = N := by rfl) (hsc : X.env.scope.names = scN := by rfl) (hc : X.calm = true := by rfl)
    (hsw : swapsWith (.ListComp elt [⟨.Name x px, iter, ifs, 0⟩] scope pos) (some (.Name y py)) spos.line X.env = pure true := by rfl) (hs : ∀ v, foldedSetIterable iter X.env v = pure v := by intro _; rfl)
    (hf : X.fn y = true ∨ X.env.scope.names.lookup y = some .local := by first | exact .inl rfl | exact .inr rfl | assumption) :
    PS X (.Assign [.Name y py] (.ListComp elt [⟨.Name x px, iter, ifs, 0⟩] scope pos) spos) (tSetC j (tComp wi tf te)) := by
  intro pins s σ H D I h
  subst hN
  rw [exec_Assign_Name_used _ _ _ _ hsw]
  refine wpAny_bind (wpAny_standAt (wpAny_bind ?_))
  show wpAny _ _ (do let _ ← comprehension (.ListComp elt [⟨.Name x px, iter, ifs, 0⟩] scope pos) scope X.env _ (newList []) false (eval iter X.env) (some (assign (.Name y py) X.env))) _ _ s
  refine wpAny_bind (wpAny_mono (comp_core (use := some (assign (.Name y py) X.env)) (Z := fun _ s' => SP X pins D .next s') S hsc hc hi hif hel hs I h fun s3 H3 fp cl A H' s' I3 f3 J' g => ?_) (fun _ s' hq => wpAny_pure (wpAny_pure hq)) fun _ _ e => e)
  obtain ⟨m, hns, _⟩ := J'.loc
  show wpAny _ _ (assign (.Name y py) X.env (.ref A)) _ _ _
  refine wpAny_assign_Name (store_ok2 (comp_back I3 f3 J') hn hj hy (v := .ref A) rfl (fun s'' J'' hch => ?_) hf)
  obtain ⟨a, sb, ha⟩ := hch
  have hne : s3.heap.objs.size ≠ a := by
    rcases ha with z | z
    · rw [z]; exact Nat.ne_of_gt I3.lt
    · obtain ⟨v, q⟩ := I3.cell y a z
      exact Nat.ne_of_gt q.lt
  exact ⟨m, hns.sameBut sb hne, fun h' hs' => ⟨_, H', comp_gone I3 J'' J'.free hs', g⟩⟩
end
end L2
namespace L2
open PySem PySem.Spec PyProof.Rows
section
variable {X : Cx} {pins : List (Addr × Obj)} {σ : St} {H : Hp} {s : Shared} {scope : Scope} {cl : List (Str × Addr)} {M : List Str} {kn : Nat} {fp : List Addr} {scN : List (Str × NameKind)}
end
section
variable {X : Cx} {elt iter : Expr} {ifs : List Expr} {scope : Scope} {pos : Pos} {tg : Expr} {kn : Nat} {g : TG} {wi : TI} {tf : TT} {te : TE}
end
end L2
namespace L2
open PySem PySem.Spec PyProof.Rows
section
variable {X : Cx} {pins : List (Addr × Obj)} {σ : St} {H : Hp} {s : Shared} {a : Addr} {kvs : List (Key × V)} {o : Obj}
theorem Inv.freeze (I : Inv X pins σ H s) (e : H a = some (.dK kvs)) (ho : s.heap.get? a = some o) : Inv X pins σ (upd H a (.frz o (.dK kvs))) s := by
  have nn : ∀ b, H b = none->b ≠ a := fun b n z => by rw [z, e] at n; cases n
  have nk : ∀ b u, H b = some u->u ≠ .dK kvs->b ≠ a := fun b u q d z => by rw [z, e] at q; exact d (Option.some.inj q).symm
  have un : Un X.fs [] H (upd H a (.frz o (.dK kvs))) s.heap s.heap :=
    ⟨fun b ob q _ _ _ => q, fun b ob q _ _ _ => ⟨ob.slots, q⟩, fun b ob _ n _ => by rw [upd_ne (nn b n)]; exact n, fun b ob q _ => ⟨ob, q⟩,
      fun b xs q => by rw [upd_ne (nk b _ q (fun z => nomatch z))]; exact q, fun b ob u q => by rw [upd_ne (nk b _ q (fun z => nomatch z))]; exact q, fun b ps q => ⟨#[], by rw [upd_ne (nk b _ q (fun z => nomatch z)), q]; simp⟩⟩
  have ok : HOk X.prog X.w (upd H a (.frz o (.dK kvs))) s.heap := fun b u q => by
    have stay : ∀ {v : HO}, ObjOk X.prog X.w H s.heap b v->ObjOk X.prog X.w (upd H a (.frz o (.dK kvs))) s.heap b v := fun {v} x =>
      x.stay (fun _ _ _ z => z) (fun c z => by rw [upd_ne (nk c _ z (fun z => nomatch z))]; exact z) fun c u pu z => by rw [upd_ne (nk c _ z (fun e => by rw [e] at pu; exact pu))]; exact z
    by_cases hb : b = a
    · subst hb
      rw [upd_same] at q
      cases q
      exact ⟨ho, stay (I.hok b _ e)⟩
    · rw [upd_ne hb] at q
      exact stay (I.hok b u q)
  exact I.un (h' := s.heap) (t' := s.toks) un ok
theorem Inv.thaw {u : HO} (I : Inv X pins σ H s) (e : H a = some (.frz o u)) (hu : (∀ xs, u ≠ .tup xs)/\(∀ ps, u ≠ .tbl ps)) (h0 : ∀ o' u', X.H₀ a ≠ some (.frz o' u')) : Inv X pins σ (upd H a u) s := by
  have nn : ∀ b, H b = none->b ≠ a := fun b n z => by rw [z, e] at n; cases n
  have nk : ∀ b v, H b = some v->v ≠ .frz o u->b ≠ a := fun b v q d z => by rw [z, e] at q; exact d (Option.some.inj q).symm
  have ok : HOk X.prog X.w (upd H a u) s.heap := fun b v q => by
    have stay : ∀ {v : HO}, ObjOk X.prog X.w H s.heap b v->ObjOk X.prog X.w (upd H a u) s.heap b v := fun {v} x =>
      x.stay (fun _ _ _ z => z) (fun c z => by rw [upd_ne (nk c _ z (fun z => nomatch z))]; exact z) fun c u pu z => by rw [upd_ne (nk c _ z (fun e => by rw [e] at pu; exact pu))]; exact z
    by_cases hb : b = a
    · subst hb
      rw [upd_same] at q
      cases q
      exact stay (show ObjOk X.prog X.w H s.heap b (.frz o u) from I.hok b _ e).2
    · rw [upd_ne hb] at q
      exact stay (I.hok b v q)
  refine ⟨I.ok, I.os, I.bare, ⟨I.base.keep, I.base.slot, fun b ob q n hx => ?_, I.base.there, fun b xs q => ?_, fun b ob v q => ?_, fun b ps q => ?_⟩, I.loc, I.cell, ?_, fun y c h => ?_, fun p hp => ?_, ok, I.len⟩
  · have z := I.base.free b ob q n hx
    rw [upd_ne (nn b z)]; exact z
  · have z := I.base.tups b xs q
    rw [upd_ne (nk b _ z (fun z => nomatch z))]; exact z
  · have z := I.base.frzs b ob v q
    have hb : b ≠ a := fun hb => h0 ob v (hb ▸ q)
    rw [upd_ne hb]; exact z
  · obtain ⟨more, z⟩ := I.base.tbls b ps q
    exact ⟨more, by rw [upd_ne (nk b _ z (fun z => nomatch z))]; exact z⟩
  · rw [upd_ne (nn _ I.free)]; exact I.free
  · rw [upd_ne (nn _ (I.freeC y c h))]; exact I.freeC y c h
  · obtain ⟨h1, h2, h3⟩ := I.pin p hp
    exact ⟨h1, by rw [upd_ne (nn _ h2)]; exact h2, h3⟩
end
def Itd (a : Addr) (o : Obj) (kvs : List (Key × V)) : It :=
  ⟨fun i H => H a = some (.frz o (.dK kvs))/\i < kvs.length, fun i H x H' => H' = H/\∃ kv, kvs[i]? = some kv/\x = kV kv.1, fun i H => H a = some (.frz o (.dK kvs))/\kvs.length ≤ i⟩
theorem relV_key {P : Program} {w : World} {k : Key} {u : Value} (h : (mixKind P w).is k u = true) : RelV (kV k) u := by
  rcases keyIs_shape (show keyIs k u = true from h) with ⟨i, t, rfl, rfl⟩ | ⟨x, t, rfl, rfl⟩
  · exact ⟨t, rfl⟩
  · exact ⟨t, rfl⟩
theorem KV.len {kvs : List (Key × V)} {vs : List (Key × Value)} (r : KV kvs vs) : kvs.length = vs.length := Paired.length r
theorem KV.at {kvs : List (Key × V)} {vs : List (Key × Value)} (r : KV kvs vs) : ∀ {i : Nat} {p : Key × V}, kvs[i]? = some p->∃ q, vs[i]? = some q/\p.1 = q.1 := by
  induction r with
  | nil => intro i p e; simp at e
  | cons h t ih =>
    intro i p e
    cases i with
    | zero => simp at e; subst e; exact ⟨_, rfl, h.1⟩
    | succ i => exact ih (by simpa using e)
theorem turn_dict {P : Program} {w : World} {K : PySem.W.Frag} {tg : Expr} (a it : Addr) (o : Obj) (kvs : List (Key × V)) (ep : Nat) (es : Array DictEntry) (hd : o.data = .dict es ep) :
    Turn P w K tg (Itd a o kvs) [it] it (fun i h => h.IsKeyIter it a i kvs.length ep) where
  mem := by simp
  obj := fun i h st b hb => by
    have e : b = it := by simpa using hb
    subst e
    obtain ⟨o, e, c, d⟩ := st
    exact ⟨o, e, fun v z => by rw [d] at z; cases z⟩
  keep := fun i h h' st k => st.at fun o e => k it (by simp) o e
  item := by
    intro X hP hw hK hc i pins s σ H E I hf st hg
    subst hP hw hK
    obtain ⟨ha, hi⟩ := hg
    obtain ⟨ho, hz, _, vs, rel, o', es', ep', h1, h2, h3, h4⟩ := (show ObjOk X.prog X.w H s.heap a (.frz o (.dK kvs)) from I.hok a _ ha)
    rw [ho] at h1; cases h1
    rw [hd] at h3; cases h3
    have da : s.heap.DictAt (mixKind X.prog X.w) a vs ep := ⟨o, es, ho, h2, hd, h4⟩
    obtain ⟨f0, f1, f2, f3, f4, f5⟩ := hf it (by simp)
    obtain ⟨kv, hkv⟩ : ∃ kv, kvs[i]? = some kv := ⟨kvs[i], by simp [hi]⟩
    obtain ⟨q, hq, ek⟩ := rel.at hkv
    obtain ⟨qk, qv⟩ := q
    rw [rel.len] at st
    refine wpAny_pyNext_dict_item st da hq fun key h' hkey st' sb => ?_
    have I1 : Inv X pins σ H { s with heap := h' } := I.turned (t' := s.toks) (fun b o hb e => (sb.2 b hb).trans e) f0 f1 f3 f4 f5
    obtain ⟨oi, e, c, d⟩ := id st'
    refine ⟨key, rfl, go_of (s := { s with heap := h' }) e c d (by decide) ⟨kV kv.1, H, I1, relV_key (P := X.prog) (w := X.w) (by rw [ek]; exact hkey), ⟨rfl, kv, hkv, rfl⟩, by rw [rel.len]; exact st', fun b hb => (hf b hb).1⟩⟩
  done := by
    intro X hP hw hK hc i pins s σ H E I hf st hg
    subst hP hw hK
    obtain ⟨ha, hi⟩ := hg
    obtain ⟨ho, hz, _, vs, rel, o', es', ep', h1, h2, h3, h4⟩ := (show ObjOk X.prog X.w H s.heap a (.frz o (.dK kvs)) from I.hok a _ ha)
    rw [ho] at h1; cases h1
    rw [hd] at h3; cases h3
    have da : s.heap.DictAt (mixKind X.prog X.w) a vs ep := ⟨o, es, ho, h2, hd, h4⟩
    obtain ⟨f0, f1, f2, f3, f4, f5⟩ := hf it (by simp)
    have hl := rel.len
    rw [rel.len] at st
    exact wpAny_pyNext_dict_end (I.ok.hd hc) st da (by simp; omega) fun h' eb => ⟨rfl, I.turned (t' := s.toks) (fun b o hb e => eb b o hb e) f0 f1 f3 f4 f5⟩
  self := fun _ _ _ _ _ st h => wpAny_pyIter_keyiter st h
section
variable {X : Cx} {tg : Expr}
def iDict (td : TE) : TI := fun σ H R => td σ H fun x H1 => ∃ a kvs, x = .ref a/\H1 a = some (.dK kvs)/\∀ o, R (Itd a o kvs) (upd H1 a (.frz o (.dK kvs)))
theorem pi_dict {l : Expr} {td : TE} (hl : PE X l td) : PI X tg l (iDict td) := by
  intro pins s σ H R I h
  refine thn (hl pins s σ H _ I h) fun v s1 ⟨x, H1, I1, r1, q1⟩ => ?_
  obtain ⟨a, kvs, e, ha, q⟩ := q1
  subst e
  cases r1
  obtain ⟨hz, hm, vs, rel, o, es, ep, h1, h2, h3, h4⟩ := (show ObjOk X.prog X.w H1 s1.heap a (.dK kvs) from I1.hok a _ ha)
  refine wpAny_pyIter_dict (knd := mixKind X.prog X.w) hm ⟨o, es, h1, h2, h3, h4⟩ ?_
  have I2 := I1.freeze ha h1
  refine ⟨s1.heap.objs.size, [s1.heap.objs.size], _, _, _, rfl, I2.kept (t' := s1.toks) fun b o e => Heap.get?_push_of_some _ e, turn_dict a _ o kvs ep es h3, ⟨_, Heap.get?_push_size _ rfl, rfl, by rw [rel.len]; rfl⟩, fun b hb => ?_, q o⟩
  have e : b = s1.heap.objs.size := by simpa using hb
  subst e
  exact I2.fpOk (Nat.le_refl _) (I2.hok.fresh (Nat.le_refl _))
end
def tThaw (t : TS) : TS := fun D σ H => t { nx := fun σ' H' => ∃ a o kvs, H' a = some (.frz o (.dK kvs))/\(∀ o' u', H a ≠ some (.frz o' u'))/\D.nx σ' (upd H' a (.dK kvs)), rt := fun _ _ => False } σ H
theorem ps_thaw {X : Cx} {st : Stmt} {t : TS} (h : PS X st t) : PS X st (tThaw t) := by
  intro pins s σ H D I q
  refine thn (h pins s σ H _ I q) fun f s' z => ?_
  cases f with
  | next =>
    obtain ⟨σ', H', I', a, o, kvs, ha, hn, n⟩ := z
    exact ⟨σ', _, I'.thaw ha ⟨(fun _ z => nomatch z), (fun _ z => nomatch z)⟩ (fun o' u' e => hn o' u' (I.base.frzs a o' u' e)), n⟩
  | brk => obtain ⟨_, _, _, z⟩ := z; exact z.elim
  | cont => obtain ⟨_, _, _, z⟩ := z; exact z.elim
  | ret v => obtain ⟨_, _, _, _, _, z⟩ := z; exact z.elim
theorem for_dict {a : Addr} {o : Obj} {kvs : List (Key × V)} {g : TG} {tb : TS} {D : Ends} {σ : St} {H : Hp} (Pv : Nat->St->Hp->Prop) (h0 : Pv 0 σ H) (hl : ∀ i σ H, i ≤ kvs.length->Pv i σ H->H a = some (.frz o (.dK kvs))) (hs : ∀ i kv σ H, kvs[i]? = some kv->Pv i σ H->g (kV kv.1) σ H fun σ2 H2 => tb { D with nx := Pv (i + 1), ct := Pv (i + 1), bk := D.nx } σ2 H2) (hd : ∀ σ H, Pv kvs.length σ H->D.nx σ H) :
    ∃ W : Nat->Nat->St->Hp->Prop, (∃ m, W 0 m σ H)/\∀ i m σ H, W i m σ H →
      ((Itd a o kvs).stop i H/\D.nx σ H) ∨ ((Itd a o kvs).go i H/\∃ N : St->Hp->Prop, (∀ σ' H', N σ' H'->∃ m', m' < m/\W (i + 1) m' σ' H')/\∀ x H', (Itd a o kvs).yld i H x H'->g x σ H' fun σ2 H2 => tb { D with nx := N, ct := N, bk := D.nx } σ2 H2) := by
  refine ⟨fun i m σ H => m = kvs.length - i/\i ≤ kvs.length/\Pv i σ H, ⟨kvs.length, by simp, Nat.zero_le _, h0⟩, ?_⟩
  rintro i m σ H ⟨rfl, hi, p⟩
  have q := hl i σ H hi p
  by_cases hlt : i < kvs.length
  · refine .inr ⟨⟨q, hlt⟩, Pv (i + 1), fun σ' H' p' => ⟨kvs.length - (i + 1), by omega, rfl, hlt, p'⟩, fun x H' y => ?_⟩
    obtain ⟨e, kv, hkv, ex⟩ := y
    subst e ex
    exact hs i kv σ _ hkv p
  · have e : i = kvs.length := by omega
    subst e
    exact .inl ⟨⟨q, Nat.le_refl _⟩, hd σ H p⟩
end L2
namespace L2
open PySem PySem.Spec PyProof.Rows
section
variable {X : Cx}
theorem keptIter {s : Shared} {h' : Heap} {o : Obj} (hk : ∀ b x, b ∉ [s.heap.objs.size]->(s.heap.push o).get? b = some x->h'.get? b = some x) : ∀ b x, s.heap.get? b = some x->h'.get? b = some x :=
  fun b x e => hk b x (fun hm => by rw [List.mem_singleton.mp hm] at e; exact Nat.lt_irrefl _ (Heap.lt_size e)) (Heap.get?_push_of_some _ e)
theorem range_all (bs : List Bool) : ((List.range bs.length).all fun i => (bs[i]?).getD true) = bs.all id := by
  rw [Bool.eq_iff_iff, List.all_eq_true, List.all_eq_true]
  constructor
  · intro h b hb
    obtain ⟨i, hi, rfl⟩ := List.getElem_of_mem hb
    have q := h i (List.mem_range.mpr hi)
    simpa [List.getElem?_eq_getElem hi] using q
  · intro h i hi
    have hi' := List.mem_range.mp hi
    simp only [List.getElem?_eq_getElem hi', Option.getD_some]
    exact h _ (List.getElem_mem hi')
theorem call_all (hc : X.calm = true) : CallR X (.builtin "all") (fun xs H Q => ∃ (p : Addr) (bs : List Bool), xs = [.ref p]/\SqL X.K H p (bs.map V.bl)/\Q (.bl (bs.all id)) H) := by
  intro pins s σ H xs us Q I r h
  obtain ⟨p, bs, rfl, hp, q⟩ := h
  obtain ⟨u, rfl, ru⟩ := vals1 r
  cases ru
  obtain ⟨its, rv, pl, hz⟩ := I.list hp
  have hl : s.heap.IsList p its.toArray := pl.isList
  have hlt : p < s.heap.objs.size := by obtain ⟨_, e, _⟩ := hl; exact Heap.lt_size e
  have len : its.length = bs.length := by have := rv.length; rw [List.length_map] at this; exact this.symm
  refine call_all_walk (wpAny_pyIter_list hl ?_)
  refine ⟨s.heap.objs.size, [s.heap.objs.size, p], [s.heap.objs.size], its.toArray.size, _, _, fun i => (bs[i]?).getD true, rfl, Walks.list (A := X.A.in1) (I.ok.hd hc) _ p (Nat.ne_of_lt hlt) its.toArray,
    ⟨⟨_, Heap.get?_push_size _ rfl, rfl, rfl⟩, hl.push _⟩, fun i v s' Q' E' hP hQ => ?_, fun h' tk hk => ?_⟩
  · have hv : its[i]? = some v := by simpa using hP
    have hi : i < bs.length := by rw [← len]; exact (List.getElem?_eq_some_iff.mp hv).1
    obtain ⟨u, hu, ru⟩ := rv.get (i := i) (x := V.bl bs[i]) (by simp [hi])
    rw [hv] at hu; cases hu
    cases ru
    simp only [List.getElem?_eq_getElem hi, Option.getD_some] at hQ
    exact wpAny_truthy_bool hQ
  · have e : ((List.range its.toArray.size).all fun i => (bs[i]?).getD true) = bs.all id := by rw [List.size_toArray, len]; exact range_all bs
    rw [e]
    exact ⟨.bl _, H, I.kept (keptIter hk), rfl, q⟩
theorem call_isinst : CallR X (.builtin "isinstance") (fun xs H Q => ∃ x t n b, xs = [x, .ty n]/\TyOf X.K H x t/\PySem.W.kitOne X.K t (.type n) = some b/\Q (.bl b) H) := by
  intro pins s σ H xs us Q I r h
  obtain ⟨x, t, n, b, rfl, ty, e, q⟩ := h
  obtain ⟨u, w', rfl, ru, rw'⟩ := vals2 r
  cases rw'
  exact isinst_ok I ru ty e fun tk => ⟨.bl b, H, I.tok tk, rfl, q⟩
theorem Vals.ins {xs : List V} {us : List Value} {y : V} {u : Value} (r : Vals xs us) (ry : RelV y u) (k : Nat) : Vals (xs.take k ++ y :: xs.drop k) (us.take k ++ u :: us.drop k) := (r.take k).append (.cons ry (r.drop k))
def rInsert : V->List V->Hp->VK->Prop := fun x vs H Q => ∃ l xs k y, x = .ref l/\vs = [.int ((k : Nat) : Int), y]/\H l = some (.lst xs)/\k ≤ xs.length/\xs.length < sizeLine/\Q .non (upd H l (.lst (xs.take k ++ y :: xs.drop k)))
theorem mt_insert : MtM X "list.insert" rInsert := by
  intro pins s σ H x vs v us Q I rx rv h
  obtain ⟨l, xs, k, y, rfl, rfl, hH, hk, hz, q⟩ := h
  cases rx
  obtain ⟨u, w', rfl, ru, ry⟩ := rv.two
  obtain ⟨t, rfl⟩ := ru
  obtain ⟨z, its, n, r, hl, e⟩ := I.lstM hH
  have sl : (sizeLine : Nat) < 2 ^ 63 := line63
  have hf : Builtin.List.listFitsIndex ((k : Nat) : Int) = true := by
    unfold Builtin.List.listFitsIndex
    simp only [Bool.and_eq_true, decide_eq_true_eq]
    constructor <;> omega
  have hsz : its.toArray.size ≤ sizeLine := by rw [List.size_toArray, ← hl]; exact z
  have hnf : ¬ (!Builtin.List.listFitsIndex ((k : Nat) : Int)) = true := by rw [hf]; decide
  have hneg : ¬ (((k : Nat) : Int) < 0) := by omega
  have hmin : min ((k : Nat) : Int).toNat its.toArray.size = k := by rw [List.size_toArray]; omega
  clear hf
  revert hnf hneg hmin
  generalize ((k : Nat) : Int) = x
  intro hnf hneg hmin
  refine call_meets F.slot_list_insert ⟨_, e, rfl⟩ F.entry_list_insert (F.args_list_insert_3 _ _ _) (PySem.AutoSeq1.list_insert_list_int_val_1 l its.toArray n x t w' hnf hsz) ⟨e, ?_⟩
  refine ⟨.non, _, I.lset (its' := its.take k ++ w' :: its.drop k) hH e ?_ (r.ins ry k) ?_, rfl, q⟩
  · first
      | (simp only [hneg, if_false, hmin]; exact PySem.W.kl_ins_eq its k w')
      | (simp only [if_neg hneg, hmin]; exact PySem.W.kl_ins_eq its k w')
  · rw [List.length_append, List.length_cons, List.length_take, List.length_drop]
    omega
def tRev (K : PySem.W.Frag) (te ts : TE) : TE := fun σ H Q => te σ H fun x H1 => ts σ H1 fun y H2 => ∃ a xs, y = .int (-1)/\x = .ref a/\SqL K H2 a xs/\∀ p, H2 p = none->Q (.ref p) (upd H2 p (.lst xs.reverse))
theorem pe_rev {e st : Expr} {te ts : TE} {p2 pos : Pos} (he : PE X e te) (hs : PE X st ts) : PE X (.Subscript e (.Slice none none (some st) p2) pos) (tRev X.K te ts) := by
  intro pins s σ H Q I h
  refine Subscript_ (thn (he pins s σ H _ I h) fun v s1 ⟨x, H1, I1, r1, q1⟩ => ?_)
  refine wpAny_Slice ?_
  rw [evalPart_none]
  refine wpAny_pure (wpAny_pure ?_)
  rw [evalPart_some]
  refine thn (hs pins s1 σ H1 _ I1 q1) fun u s3 ⟨y, H3, I3, r3, q3⟩ => ?_
  obtain ⟨a, xs, rfl, rfl, hx, q⟩ := q3
  obtain ⟨t, rfl⟩ := r3
  cases r1
  have I4 : Inv X pins σ H3 { s3 with heap := s3.heap.push { cls := .type "slice", data := .fields #[.none, .none, .int (-1) t] } } := I3.kept (t' := s3.toks) fun b ob q => Heap.get?_push_of_some _ q
  show wpAny (model X.prog X.w) X.A (subscriptTail e (.Slice none none (some st) p2) (.ref a) (.ref s3.heap.objs.size)) (EP X pins σ Q) X.xe { s3 with heap := s3.heap.push { cls := .type "slice", data := .fields #[.none, .none, .int (-1) t] } }
  obtain ⟨its, r, ht, hz⟩ := I4.list hx
  have hlen := r.length
  refine tail_any (ops := [.ref a, .ref s3.heap.objs.size]) ht.isList.typeIs slot_list_getitem.lookup (wpAny_getItem_list_slice ht.isList (Heap.IsSliceOf.new ..) .none .none (IsPart.int (-1) t) (by decide) ?_ (by rw [List.size_toArray] <;> omega)) (by with_unfolding_all rfl)
  rw [PySem.W.krv_pick]
  refine ⟨.ref _, _, I4.laid (t' := s3.toks) (o := .lst xs.reverse) (fun b ob q => Heap.get?_push_of_some _ q) (Nat.le_refl _) ?_, rfl, q _ (I4.hok.fresh (Nat.le_refl _))⟩
  exact ⟨by rw [List.length_reverse]; exact hz, _, 0, r.reverse, Heap.get?_push_size _ rfl⟩
def eqVs (xs ys : List V) : Bool := xs.length == ys.length && (List.range xs.length).all fun j => eqV (xs.getD j .non) (ys.getD j .non)
theorem rc_flat {A : Around} {pins : List (Addr × Obj)} {s : Shared} {σ : St} {H : Hp} {a b : Addr} {xs ys : List V} (I : Inv X pins σ H s) (ha : SqL X.K H a xs) (hb : SqL X.K H b ys) (fx : xs.all flatV = true) (fy : ys.all flatV = true) (hu : A.units < cLine) : SeqAt.RcAt A s (.ref a) (.ref b) (eqVs xs ys)/\SeqAt.RcNeAt A s (.ref a) (.ref b) (!eqVs xs ys) := by
  obtain ⟨us, ru, pu, _⟩ := I.list ha
  obtain ⟨vs, rv, pv, _⟩ := I.list hb
  have l1 := ru.length
  have l2 := rv.length
  by_cases hl : xs.length = ys.length
  · have he : ∀ j (h1 : j < us.toArray.size) (h2 : j < vs.toArray.size), SeqAt.EqAt A.in1 s us.toArray[j] vs.toArray[j] (eqV (xs.getD j .non) (ys.getD j .non)) := fun j h1 h2 => by
      rw [List.size_toArray] at h1 h2
      have hj1 : j < xs.length := by omega
      have hj2 : j < ys.length := by omega
      obtain ⟨u, hu, ru'⟩ := ru.get (i := j) (x := xs[j]) (by simp [hj1])
      obtain ⟨v, hv, rv'⟩ := rv.get (i := j) (x := ys[j]) (by simp [hj2])
      have e1 : us.toArray[j] = u := by
        have := List.getElem?_eq_some_iff.mp hu
        obtain ⟨_, q⟩ := this
        simpa using q
      have e2 : vs.toArray[j] = v := by
        obtain ⟨_, q⟩ := List.getElem?_eq_some_iff.mp hv
        simpa using q
      have g1 : xs.getD j .non = xs[j] := by simp [List.getD_eq_getElem?_getD, hj1]
      have g2 : ys.getD j .non = ys[j] := by simp [List.getD_eq_getElem?_getD, hj2]
      rw [e1, e2, g1, g2]
      exact eqAt_V ru' rv' (List.all_eq_true.mp fx _ (List.getElem_mem hj1)) (List.all_eq_true.mp fy _ (List.getElem_mem hj2))
    have hsz : us.toArray.size = vs.toArray.size := by rw [List.size_toArray, List.size_toArray]; omega
    have e : eqVs xs ys = (List.range us.toArray.size).all fun j => eqV (xs.getD j .non) (ys.getD j .non) := by
      unfold eqVs
      rw [beq_iff_eq.mpr hl, Bool.true_and, List.size_toArray, ← l1]
    rw [e]
    exact ⟨SeqAt.RcAt.lists pu.isList pv.isList hsz hu he, SeqAt.RcNeAt.lists pu.isList pv.isList hsz hu he⟩
  · have hsz : (us.toArray.size != vs.toArray.size) = true := by
      rw [bne_iff_ne, List.size_toArray, List.size_toArray]; omega
    have e : eqVs xs ys = false := by
      unfold eqVs
      rw [beq_eq_false_iff_ne.mpr hl, Bool.false_and]
    rw [e]
    exact ⟨SeqAt.RcAt.lists_lengths pu.isList pv.isList hsz hu, SeqAt.RcNeAt.lists_lengths pu.isList pv.isList hsz hu⟩
def rEqL (K : PySem.W.Frag) (neg : Bool) : R2 := fun x y H Q => ∃ a b xs ys, x = .ref a/\y = .ref b/\SqL K H a xs/\SqL K H b ys/\xs.all flatV = true/\ys.all flatV = true/\Q (.bl (if neg then !eqVs xs ys else eqVs xs ys)) H
theorem op_eqL (hu : X.A.units < cLine) : OpR X (compareOp .Eq) (rEqL X.K false) := by
  intro pins s σ H x y v u Q I rx ry h
  obtain ⟨a, b, xs, ys, rfl, rfl, ha, hb, fx, fy, q⟩ := h
  cases rx; cases ry
  exact (rc_flat I ha hb fx fy hu).1 _ _ _ _ ⟨.bl _, H, I, rfl, q⟩
theorem op_neL (hu : X.A.units < cLine) : OpR X (compareOp .NotEq) (rEqL X.K true) := by
  intro pins s σ H x y v u Q I rx ry h
  obtain ⟨a, b, xs, ys, rfl, rfl, ha, hb, fx, fy, q⟩ := h
  cases rx; cases ry
  exact (rc_flat I ha hb fx fy hu).2 _ _ _ _ ⟨.bl _, H, I, rfl, q⟩
structure Rows2 (K : PySem.W.Frag) (H : Hp) (a : Addr) (as : List Addr) (xss : List (List V)) : Prop where
  at' : SqL K H a (as.map V.ref)
  len : as.length = xss.length
  row : ∀ (i : Nat) (p : Addr) (xs : List V), as[i]? = some p->xss[i]? = some xs->SqL K H p xs/\xs.all flatV = true
theorem rc_rows {A : Around} {pins : List (Addr × Obj)} {s : Shared} {σ : St} {H : Hp} {a b : Addr} {as bs : List Addr} {xss yss : List (List V)} (I : Inv X pins σ H s) (ha : Rows2 X.K H a as xss) (hb : Rows2 X.K H b bs yss) (hd : ∀ p ∈ as, p ∉ bs) (hl : xss.length = yss.length) (hu : A.units + 1 < cLine) : SeqAt.RcAt A s (.ref a) (.ref b) ((List.range xss.length).all fun j => eqVs (xss.getD j []) (yss.getD j [])) := by
  obtain ⟨us, ru, pu, _⟩ := I.list ha.at'
  obtain ⟨vs, rv, pv, _⟩ := I.list hb.at'
  have l1 := ru.length
  have l2 := rv.length
  rw [List.length_map] at l1 l2
  have n1 := ha.len
  have n2 := hb.len
  have hsz : us.toArray.size = vs.toArray.size := by rw [List.size_toArray, List.size_toArray]; omega
  have e : xss.length = us.toArray.size := by rw [List.size_toArray]; omega
  rw [e]
  refine SeqAt.RcAt.lists pu.isList pv.isList hsz (Nat.lt_of_succ_lt hu) fun j h1 h2 => ?_
  rw [List.size_toArray] at h1 h2
  have j1 : j < as.length := by omega
  have j2 : j < bs.length := by omega
  have j3 : j < xss.length := by omega
  have j4 : j < yss.length := by omega
  obtain ⟨u, hu', ru'⟩ := ru.get (i := j) (x := V.ref as[j]) (by simp [j1])
  obtain ⟨v, hv', rv'⟩ := rv.get (i := j) (x := V.ref bs[j]) (by simp [j2])
  have e1 : us.toArray[j] = .ref as[j] := by
    obtain ⟨_, q⟩ := List.getElem?_eq_some_iff.mp hu'
    cases ru'
    simpa using q
  have e2 : vs.toArray[j] = .ref bs[j] := by
    obtain ⟨_, q⟩ := List.getElem?_eq_some_iff.mp hv'
    cases rv'
    simpa using q
  have g1 : xss.getD j [] = xss[j] := by simp [List.getD_eq_getElem?_getD, j3]
  have g2 : yss.getD j [] = yss[j] := by simp [List.getD_eq_getElem?_getD, j4]
  rw [e1, e2, g1, g2]
  obtain ⟨q1, f1⟩ := ha.row j as[j] xss[j] (by simp [j1]) (by simp [j3])
  obtain ⟨q2, f2⟩ := hb.row j bs[j] yss[j] (by simp [j2]) (by simp [j4])
  have ne : as[j] ≠ bs[j] := fun e => hd _ (List.getElem_mem j1) (e ▸ List.getElem_mem j2)
  exact SeqAt.EqAt.of_refs ne (rc_flat (A := A.in1) I q1 q2 f1 f2 hu).1
theorem eqV_refl : ∀ {x : V}, flatV x = true->eqV x x = true := by
  intro x h
  cases x <;> simp_all [flatV, eqV]
theorem eqVs_refl {xs : List V} (h : xs.all flatV = true) : eqVs xs xs = true := by
  unfold eqVs
  rw [beq_self_eq_true, Bool.true_and, List.all_eq_true]
  intro j hj
  have hj' := List.mem_range.mp hj
  have g : xs.getD j .non = xs[j] := by simp [List.getD_eq_getElem?_getD, hj']
  rw [g]
  exact eqV_refl (List.all_eq_true.mp h _ (List.getElem_mem hj'))
end
end L2
namespace Tw
abbrev Road := Int × Int × Int
def inc (v : Int) (r : Road) : Bool := decide (r.1 = v) || decide (r.2.1 = v)
def deg (rs : List Road) (v : Int) : Nat := rs.countP (inc v)
def Joins (r : Road) (u w : Int) : Prop := (r.1 = u/\r.2.1 = w) ∨ (r.1 = w/\r.2.1 = u)
inductive Tr : List Road->List Int->Prop
  | one (v : Int) : Tr [] [v]
  | hang {rs rs' : List Road} {vs vs' : List Int} {u w : Int} {r : Road} : Tr rs vs->u ∈ vs->w ∉ vs->Joins r u w->rs'.Perm (r :: rs)->vs'.Perm (w :: vs)->Tr rs' vs'
theorem Joins.symm {r : Road} {u w : Int} (h : Joins r u w) : Joins r w u := h.elim .inr .inl
theorem inc_iff {v : Int} {r : Road} : inc v r = true<->r.1 = v ∨ r.2.1 = v := by
  unfold inc; simp
theorem Joins.inc {r : Road} {u w : Int} (h : Joins r u w) : inc u r = true/\inc w r = true := by
  rcases h with ⟨a, b⟩ | ⟨a, b⟩
  · exact ⟨inc_iff.mpr (.inl a), inc_iff.mpr (.inr b)⟩
  · exact ⟨inc_iff.mpr (.inr b), inc_iff.mpr (.inl a)⟩
theorem Joins.inc_only {r : Road} {u w v : Int} (h : Joins r u w) (hv : Tw.inc v r = true) : v = u ∨ v = w := by
  rcases h with ⟨a, b⟩ | ⟨a, b⟩ <;> rcases inc_iff.mp hv with c | c <;> omega
theorem Tr.perm {rs rs' : List Road} {vs vs' : List Int} (t : Tr rs vs) (hr : rs'.Perm rs) (hv : vs'.Perm vs) : Tr rs' vs' := by
  cases t with
  | one v =>
    have e1 := hr.eq_nil
    have e2 : vs' = [v] := List.perm_singleton.mp hv
    subst e1; subst e2
    exact .one v
  | hang t hu hw j p q => exact .hang t hu hw j (hr.trans p) (hv.trans q)
theorem Tr.length {rs : List Road} {vs : List Int} (t : Tr rs vs) : rs.length + 1 = vs.length := by
  induction t with
  | one => rfl
  | hang _ _ _ _ p q ih => rw [p.length_eq, q.length_eq, List.length_cons, List.length_cons, ih]
theorem Tr.places {rs : List Road} {vs : List Int} (t : Tr rs vs) : ∀ r ∈ rs, r.1 ∈ vs/\r.2.1 ∈ vs/\r.1 ≠ r.2.1 := by
  induction t with
  | one v => intro r hr; cases hr
  | @hang rs rs' vs vs' u w r _ hu hw j p q ih =>
    intro x hx
    rcases List.mem_cons.mp (p.mem_iff.mp hx) with e | hx
    · subst e
      have hu' : u ∈ vs' := q.mem_iff.mpr (List.mem_cons_of_mem _ hu)
      have hw' : w ∈ vs' := q.mem_iff.mpr List.mem_cons_self
      have ne : u ≠ w := fun e => hw (e ▸ hu)
      rcases j with ⟨a, b⟩ | ⟨a, b⟩
      · rw [a, b]; exact ⟨hu', hw', ne⟩
      · rw [a, b]; exact ⟨hw', hu', ne.symm⟩
    · obtain ⟨h1, h2, h3⟩ := ih x hx
      exact ⟨q.mem_iff.mpr (List.mem_cons_of_mem _ h1), q.mem_iff.mpr (List.mem_cons_of_mem _ h2), h3⟩
theorem Tr.whole {rs : List Road} {vs : List Int} (t : Tr rs vs) {P : Int->Prop} (h : ∀ r ∈ rs, P r.1<->P r.2.1) : ∀ u ∈ vs, ∀ v ∈ vs, P u->P v := by
  induction t with
  | one x =>
    intro u hu v hv
    rw [List.mem_singleton.mp hu, List.mem_singleton.mp hv]; exact id
  | @hang rs rs' vs vs' u w r _ hu hw j p q ih =>
    have ih' := ih fun r hr => h r (p.mem_iff.mpr (List.mem_cons_of_mem _ hr))
    have hj := h r (p.mem_iff.mpr List.mem_cons_self)
    have huw : P u<->P w := by
      rcases j with ⟨a, b⟩ | ⟨a, b⟩
      · rw [a, b] at hj; exact hj
      · rw [a, b] at hj; exact hj.symm
    intro x hx y hy px
    have pu : P u := by
      rcases List.mem_cons.mp (q.mem_iff.mp hx) with e | hx
      · subst e; exact huw.mpr px
      · exact ih' x hx u hu px
    rcases List.mem_cons.mp (q.mem_iff.mp hy) with e | hy
    · subst e; exact huw.mp pu
    · exact ih' u hu y hy pu
theorem deg_perm {rs rs' : List Road} (p : rs'.Perm rs) (v : Int) : deg rs' v = deg rs v := p.countP_eq _
theorem deg_cons (r : Road) (rs : List Road) (v : Int) : deg (r :: rs) v = deg rs v + if inc v r = true then 1 else 0 := by
  unfold deg; rw [List.countP_cons]
theorem deg_out {rs : List Road} {vs : List Int} (t : Tr rs vs) {v : Int} (h : v ∉ vs) : deg rs v = 0 := by
  unfold deg
  rw [List.countP_eq_zero]
  intro r hr hi
  obtain ⟨h1, h2, _⟩ := t.places r hr
  rcases inc_iff.mp hi with e | e
  · exact h (e ▸ h1)
  · exact h (e ▸ h2)
theorem Tr.deg_pos {rs : List Road} {vs : List Int} (t : Tr rs vs) (hr : rs ≠ []) : ∀ v ∈ vs, 1 ≤ deg rs v := by
  induction t with
  | one => exact absurd rfl hr
  | @hang rs rs' vs vs' u w r t hu hw j p q ih =>
    intro v hv
    rw [deg_perm p, deg_cons]
    rcases List.mem_cons.mp (q.mem_iff.mp hv) with e | hv
    · subst e; rw [if_pos j.inc.2]; omega
    · by_cases e : rs = []
      · subst e
        cases t with
        | one x =>
          have e1 := List.mem_singleton.mp hv
          have e2 := List.mem_singleton.mp hu
          rw [e1, ← e2, if_pos j.inc.1]; omega
        | hang _ _ _ _ p' _ => exact absurd p'.length_eq (by simp)
      · have := ih e v hv; omega
theorem Tr.leaf {rs : List Road} {vs : List Int} (t : Tr rs vs) (hr : rs ≠ []) : ∃ v ∈ vs, deg rs v = 1 := by
  cases t with
  | one => exact absurd rfl hr
  | @hang rs _ vs _ u w r t hu hw j p q =>
    refine ⟨w, q.mem_iff.mpr List.mem_cons_self, ?_⟩
    rw [deg_perm p, deg_cons, deg_out t hw, if_pos j.inc.2]
theorem Tr.cut {rs : List Road} {vs : List Int} (t : Tr rs vs) : ∀ {p : Int}, p ∈ vs->deg rs p = 1->∃ r rs0 u vs0, rs.Perm (r :: rs0)/\vs.Perm (p :: vs0)/\Joins r u p/\u ∈ vs0/\p ∉ vs0/\Tr rs0 vs0/\deg rs0 p = 0 := by
  induction t with
  | one v => intro p _ h; simp [deg] at h
  | @hang rs rs' vs vs' u w r t hu hw j p q ih =>
    intro x hx hd
    rw [deg_perm p, deg_cons] at hd
    by_cases e : x = w
    · subst e
      exact ⟨r, rs, u, vs, p, q, j, hu, hw, t, deg_out t hw⟩
    · have hxv : x ∈ vs := (List.mem_cons.mp (q.mem_iff.mp hx)).resolve_left e
      by_cases eu : x = u
      · subst eu
        rw [if_pos j.inc.1] at hd
        have hz : rs = [] := by
          by_cases hn : rs = []
          · exact hn
          · have := t.deg_pos hn x hxv; omega
        subst hz
        cases t with
        | one y =>
          have e1 := List.mem_singleton.mp hu
          subst e1
          refine ⟨r, [], w, [w], p, q.trans (List.Perm.swap _ _ _), j.symm, by simp, by simpa using e, .one w, rfl⟩
        | hang _ _ _ _ p' _ => exact absurd p'.length_eq (by simp)
      · have hni : ¬ inc x r = true := fun hi => (j.inc_only hi).elim eu e
        rw [if_neg hni] at hd
        obtain ⟨r1, rs1, u1, vs1, p1, q1, j1, hu1, hx1, t1, d1⟩ := ih hxv hd
        refine ⟨r1, r :: rs1, u1, w :: vs1, (p.trans (p1.cons r)).trans (List.Perm.swap _ _ _), (q.trans (q1.cons w)).trans (List.Perm.swap _ _ _), j1, List.mem_cons_of_mem _ hu1, ?_, ?_, ?_⟩
        · intro h
          rcases List.mem_cons.mp h with h | h
          · exact e h
          · exact hx1 h
        · refine .hang t1 (u := u) (w := w) (r := r) ?_ ?_ j (List.Perm.refl _) (List.Perm.refl _)
          · exact (List.mem_cons.mp (q1.mem_iff.mp hu)).resolve_left (fun h => eu h.symm)
          · intro h; exact hw (q1.mem_iff.mpr (List.mem_cons_of_mem _ h))
        · rw [deg_cons, if_neg hni, d1]
theorem Tr.rehang {rs : List Road} {vs : List Int} (t : Tr rs vs) {p o : Int} (hp : p ∈ vs) (ho : o ∈ vs) (hne : o ≠ p) (hd : deg rs p = 1) {f : Road->Road} (hf : ∀ r, Joins (f r) o p) : Tr (rs.map fun r => if inc p r = true then f r else r) vs := by
  obtain ⟨r, rs0, u, vs0, pr, pv, j, hu, hn, t0, d0⟩ := t.cut hp hd
  have e0 : (rs0.map fun r => if inc p r = true then f r else r) = rs0 := by
    conv => rhs; rw [← List.map_id rs0]
    refine List.map_congr_left fun x hx => ?_
    have : ¬ inc p x = true := by
      intro hi
      unfold deg at d0
      exact List.countP_eq_zero.mp d0 x hx hi
    rw [if_neg this]; rfl
  have ho0 : o ∈ vs0 := (List.mem_cons.mp (pv.mem_iff.mp ho)).resolve_left hne
  refine .hang t0 ho0 hn (hf r) ?_ pv
  have := pr.map fun r => if inc p r = true then f r else r
  rw [List.map_cons, e0, if_pos j.inc.2] at this
  exact this
end Tw
namespace Tw
def rowI (r : Road) : List Int := [r.1, r.2.1, r.2.2]
def isRoadB (n : Int) (z : List Int) : Bool := match z with
  | [a, b, l] => decide (0 ≤ a/\a < n) && decide (0 ≤ b/\b < n) && !decide (a = b) && decide (1 ≤ l)
  | _ => false
structure Valid (n : Int) (r : Road) : Prop where
  a0 : 0 ≤ r.1
  a1 : r.1 < n
  b0 : 0 ≤ r.2.1
  b1 : r.2.1 < n
  ne : r.1 ≠ r.2.1
  l1 : 1 ≤ r.2.2
theorem isRoad_iff {n : Int} {z : List Int} : isRoadB n z = true<->∃ r, z = rowI r/\Valid n r := by
  constructor
  · intro h
    unfold isRoadB at h
    split at h
    · rename_i a b l
      simp only [Bool.and_eq_true, decide_eq_true_eq, Bool.not_eq_true', decide_eq_false_iff_not] at h
      obtain ⟨⟨⟨h1, h2⟩, h3⟩, h4⟩ := h
      exact ⟨(a, b, l), rfl, ⟨h1.1, h1.2, h2.1, h2.2, h3, h4⟩⟩
    · cases h
  · rintro ⟨⟨a, b, l⟩, rfl, v⟩
    have := v.a0; have := v.a1; have := v.b0; have := v.b1; have := v.ne; have := v.l1
    simp only at *
    simp [isRoadB, rowI, *]
theorem rows_roads {n : Int} : ∀ {zss : List (List Int)}, (zss.all (isRoadB n)) = true->∃ rs : List Road, zss = rs.map rowI/\∀ r ∈ rs, Valid n r
  | [], _ => ⟨[], rfl, fun r h => nomatch h⟩
  | z :: t, h => by
    rw [List.all_cons, Bool.and_eq_true] at h
    obtain ⟨r, e, v⟩ := isRoad_iff.mp h.1
    obtain ⟨rs, e2, v2⟩ := rows_roads h.2
    exact ⟨r :: rs, by rw [e, e2]; rfl, fun x hx => by
      rcases List.mem_cons.mp hx with e | hx
      · subst e; exact v
      · exact v2 x hx⟩
theorem rowI_inj {r q : Road} (h : rowI r = rowI q) : r = q := by
  obtain ⟨a, b, c⟩ := r; obtain ⟨d, e, f⟩ := q
  unfold rowI at h
  simp only [List.cons.injEq] at h
  obtain ⟨h1, h2, h3, _⟩ := h
  subst h1; subst h2; subst h3
  rfl
theorem all_roads {n : Int} {rs : List Road} : ((rs.map rowI).all (isRoadB n)) = true<->∀ r ∈ rs, Valid n r := by
  rw [List.all_eq_true]
  constructor
  · intro h r hr
    obtain ⟨q, e, v⟩ := isRoad_iff.mp (h (rowI r) (List.mem_map.mpr ⟨r, hr, rfl⟩))
    rw [rowI_inj e]; exact v
  · intro h z hz
    obtain ⟨r, hr, rfl⟩ := List.mem_map.mp hz
    exact isRoad_iff.mpr ⟨r, rfl, h r hr⟩
def Conn (n : Int) (rs : List Road) : Prop := ∀ P : Int->Prop, P 0->(∀ r ∈ rs, P r.1<->P r.2.1)->∀ v, 0 ≤ v->v < n->P v
structure IsTree (n : Int) (zss : List (List Int)) : Prop where
  lo : 1 ≤ n
  hi : n ≤ 12
  len : (zss.length : Int) = n - 1
  ex : ∃ rs : List Road, zss = rs.map rowI/\(∀ r ∈ rs, Valid n r)/\Conn n rs
def put (d : List (Int × Int)) (k v : Int) : List (Int × Int) :=
  if (d.any fun p => decide (p.1 = k)) = true then d.map (fun p => if p.1 = k then (p.1, v) else p) else d ++ [(k, v)]
def nb1 (v : Int) (d : List (Int × Int)) (r : Road) : List (Int × Int) :=
  if r.1 = v then put d r.2.1 r.2.2 else if r.2.1 = v then put d r.1 r.2.2 else d
def nbOf (rs : List Road) (v : Int) : List (Int × Int) := rs.foldl (nb1 v) []
theorem nbOf_snoc (rs : List Road) (r : Road) (v : Int) : nbOf (rs ++ [r]) v = nb1 v (nbOf rs v) r := by
  unfold nbOf; rw [List.foldl_append]; rfl
theorem put_keys (d : List (Int × Int)) (k v : Int) (x : Int) : x ∈ (put d k v).map (·.1)<->x ∈ d.map (·.1) ∨ x = k := by
  unfold put
  split
  · rename_i h
    have e : (d.map fun p => if p.1 = k then (p.1, v) else p).map (·.1) = d.map (·.1) := by
      rw [List.map_map]
      refine List.map_congr_left fun p _ => ?_
      simp only [Function.comp]
      split <;> rfl
    rw [e]
    constructor
    · exact .inl
    · rintro (h' | h')
      · exact h'
      · obtain ⟨p, hp, e⟩ := List.any_eq_true.mp h
        exact List.mem_map.mpr ⟨p, hp, (of_decide_eq_true e).trans h'.symm⟩
  · rw [List.map_append, List.mem_append]
    simp
theorem put_length (d : List (Int × Int)) (k v : Int) : (put d k v).length ≤ d.length + 1 := by
  unfold put
  split
  · rw [List.length_map]; omega
  · rw [List.length_append]; simp
def Adj (rs : List Road) (u w : Int) : Prop := ∃ r ∈ rs, Joins r u w
theorem nbOf_keys (rs : List Road) (v x : Int) : x ∈ (nbOf rs v).map (·.1)<->Adj rs v x := by
  have gen : ∀ (rs : List Road) (d : List (Int × Int)), x ∈ (rs.foldl (nb1 v) d).map (·.1)<->x ∈ d.map (·.1) ∨ Adj rs v x := by
    intro rs
    induction rs with
    | nil => intro d; exact ⟨.inl, fun h => h.elim id (fun ⟨r, h, _⟩ => nomatch h)⟩
    | cons r t ih =>
      intro d
      rw [List.foldl_cons, ih]
      have adj : Adj (r :: t) v x<->Joins r v x ∨ Adj t v x := by
        constructor
        · rintro ⟨q, hq, j⟩
          rcases List.mem_cons.mp hq with e | hq
          · subst e; exact .inl j
          · exact .inr ⟨q, hq, j⟩
        · rintro (j | ⟨q, hq, j⟩)
          · exact ⟨r, List.mem_cons_self, j⟩
          · exact ⟨q, List.mem_cons_of_mem _ hq, j⟩
      rw [adj]
      have one : x ∈ (nb1 v d r).map (·.1)<->x ∈ d.map (·.1) ∨ (Joins r v x) ∨ (r.1 = v/\r.2.1 = v/\False) := by
        unfold nb1 Joins
        split
        · rename_i h1
          rw [put_keys]
          constructor
          · rintro (h | h)
            · exact .inl h
            · exact .inr (.inl (.inl ⟨h1, h.symm⟩))
          · rintro (h | (⟨h, h'⟩ | ⟨h, h'⟩) | ⟨_, _, h⟩)
            · exact .inl h
            · exact .inr h'.symm
            · exact .inr (by omega)
            · exact h.elim
        · rename_i h1
          split
          · rename_i h2
            rw [put_keys]
            constructor
            · rintro (h | h)
              · exact .inl h
              · exact .inr (.inl (.inr ⟨h.symm, h2⟩))
            · rintro (h | (⟨h, h'⟩ | ⟨h, h'⟩) | ⟨_, _, h⟩)
              · exact .inl h
              · exact absurd h h1
              · exact .inr h.symm
              · exact h.elim
          · rename_i h2
            constructor
            · exact .inl
            · rintro (h | (⟨h, h'⟩ | ⟨h, h'⟩) | ⟨_, _, h⟩)
              · exact h
              · exact absurd h h1
              · exact absurd h' h2
              · exact h.elim
      rw [one]
      constructor
      · rintro ((h | h | ⟨_, _, h⟩) | h)
        · exact .inl h
        · exact .inr (.inl h)
        · exact h.elim
        · exact .inr (.inr h)
      · rintro (h | h | h)
        · exact .inl (.inl h)
        · exact .inl (.inr (.inl h))
        · exact .inr h
  have := gen rs []
  unfold nbOf
  rw [this]
  simp
theorem nbOf_length_le (rs : List Road) (v : Int) : (nbOf rs v).length ≤ rs.length := by
  have gen : ∀ (rs : List Road) (d : List (Int × Int)), (rs.foldl (nb1 v) d).length ≤ d.length + rs.length := by
    intro rs
    induction rs with
    | nil => intro d; exact Nat.le_refl _
    | cons r t ih =>
      intro d
      rw [List.foldl_cons]
      refine Nat.le_trans (ih _) ?_
      have : (nb1 v d r).length ≤ d.length + 1 := by
        unfold nb1
        split
        · exact put_length _ _ _
        · split
          · exact put_length _ _ _
          · omega
      rw [List.length_cons]; omega
  have q := gen rs []
  rw [List.length_nil, Nat.zero_add] at q
  exact q
structure Srch (n : Nat) (nb : Int->List (Int × Int)) (g : Int) (k : Nat) (st : List (Int × Int)) : Prop where
  first : st[0]? = some (g, g)
  nd : (st.map (·.1)).Nodup
  rng : ∀ p ∈ st, 0 ≤ p.1/\p.1 < n
  par : ∀ i p q, st[i]? = some (p, q)->0 < i->∃ j, j < i/\j < k/\(st.map (·.1))[j]? = some q/\p ∈ (nb q).map (·.1)
  clo : ∀ j q, j < k->(st.map (·.1))[j]? = some q->∀ p ∈ (nb q).map (·.1), p ∈ st.map (·.1)
theorem Srch.length {n : Nat} {nb : Int->List (Int × Int)} {g : Int} {k : Nat} {st : List (Int × Int)} (s : Srch n nb g k st) : st.length ≤ n := by
  have h : ∀ (m : Nat) (l : List Int), l.Nodup->(∀ x ∈ l, 0 ≤ x/\x < m)->l.length ≤ m := by
    intro m
    induction m with
    | zero =>
      intro l _ h
      cases l with
      | nil => exact Nat.le_refl _
      | cons x t => have := h x (by simp); omega
    | succ m ih =>
      intro l hn h
      by_cases hm : ((m : Nat) : Int) ∈ l
      · have hp := List.perm_cons_erase hm
        rw [hp.length_eq, List.length_cons]
        have hn' := hp.nodup_iff.mp hn
        obtain ⟨h1, h2⟩ := List.nodup_cons.mp hn'
        have := ih (l.erase (m : Int)) h2 fun x hx => by
          have hx' := List.mem_of_mem_erase hx
          have b := h x hx'
          have : x ≠ (m : Int) := fun e => h1 (e ▸ hx)
          omega
        omega
      · have := ih l hn fun x hx => by
          have b := h x hx
          have : x ≠ (m : Int) := fun e => hm (e ▸ hx)
          omega
        omega
  have := h n (st.map (·.1)) s.nd fun x hx => by
    obtain ⟨p, hp, e⟩ := List.mem_map.mp hx
    rw [← e]; exact s.rng p hp
  simpa using this
theorem full_of_length : ∀ (m : Nat) (l : List Int), l.Nodup->(∀ x ∈ l, 0 ≤ x/\x < m)->l.length = m->∀ v : Int, 0 ≤ v->v < (m : Int)->v ∈ l := by
  intro m
  induction m with
  | zero => intro l _ _ _ v h1 h2; omega
  | succ m ih =>
    intro l hn h hl v h1 h2
    have hm : ((m : Nat) : Int) ∈ l := by
      refine Classical.byContradiction fun hm => ?_
      have : l.length ≤ m := by
        have key : ∀ (m : Nat) (l : List Int), l.Nodup->(∀ x ∈ l, 0 ≤ x/\x < m)->l.length ≤ m := by
          intro m
          induction m with
          | zero =>
            intro l _ h
            cases l with
            | nil => exact Nat.le_refl _
            | cons x t => have := h x (by simp); omega
          | succ m ih =>
            intro l hn h
            by_cases hm : ((m : Nat) : Int) ∈ l
            · have hp := List.perm_cons_erase hm
              rw [hp.length_eq, List.length_cons]
              obtain ⟨h1, h2⟩ := List.nodup_cons.mp (hp.nodup_iff.mp hn)
              have := ih (l.erase (m : Int)) h2 fun x hx => by
                have b := h x (List.mem_of_mem_erase hx)
                have : x ≠ (m : Int) := fun e => h1 (e ▸ hx)
                omega
              omega
            · have := ih l hn fun x hx => by
                have b := h x hx
                have : x ≠ (m : Int) := fun e => hm (e ▸ hx)
                omega
              omega
        exact key m l hn fun x hx => by
          have b := h x hx
          have : x ≠ (m : Int) := fun e => hm (e ▸ hx)
          omega
      omega
    by_cases hv : v = (m : Int)
    · rw [hv]; exact hm
    · have hp := List.perm_cons_erase hm
      obtain ⟨h3, h4⟩ := List.nodup_cons.mp (hp.nodup_iff.mp hn)
      have q := ih (l.erase (m : Int)) h4 (fun x hx => by
        have b := h x (List.mem_of_mem_erase hx)
        have : x ≠ (m : Int) := fun e => h3 (e ▸ hx)
        omega) (by have := hp.length_eq; rw [List.length_cons] at this; omega) v h1 (by omega)
      exact List.mem_of_mem_erase q
theorem Srch.conn {n : Nat} {rs : List Road} {st : List (Int × Int)} (s : Srch n (nbOf rs) 0 st.length st) (hn : 1 ≤ n) : (st.length = n<->Conn n rs) := by
  have mem0 : (0 : Int) ∈ st.map (·.1) := List.mem_map.mpr ⟨(0, 0), List.mem_of_getElem? s.first, rfl⟩
  constructor
  · intro hl P p0 hP v h1 h2
    have hv := full_of_length n (st.map (·.1)) s.nd (fun x hx => by
      obtain ⟨p, hp, e⟩ := List.mem_map.mp hx
      rw [← e]; exact s.rng p hp) (by simpa using hl) v h1 h2
    have all : ∀ (i : Nat) (p : Int), (st.map (·.1))[i]? = some p->P p := by
      intro i
      induction i using Nat.strongRecOn with
      | _ i ih =>
        intro p hp
        rw [List.getElem?_map] at hp
        cases e : st[i]? with
        | none => rw [e] at hp; cases hp
        | some pq =>
          obtain ⟨a, b⟩ := pq
          rw [e] at hp
          have ea : a = p := by simpa using hp
          subst ea
          by_cases hi : 0 < i
          · obtain ⟨j, hj, _, hq, hk⟩ := s.par i a b e hi
            have pb := ih j hj b hq
            obtain ⟨r, hr, jn⟩ := (nbOf_keys rs b a).mp hk
            rcases jn with ⟨c, d⟩ | ⟨c, d⟩
            · have := (hP r hr).mp (by rw [c]; exact pb); rw [d] at this; exact this
            · have := (hP r hr).mpr (by rw [d]; exact pb); rw [c] at this; exact this
          · have hi0 : i = 0 := by omega
            subst hi0
            rw [s.first] at e
            cases e
            exact p0
    obtain ⟨i, hi⟩ := List.mem_iff_getElem?.mp hv
    exact all i v hi
  · intro h
    have cl : ∀ v, 0 ≤ v->v < (n : Int)->v ∈ st.map (·.1) := by
      intro v h1 h2
      refine h (fun v => v ∈ st.map (·.1)) mem0 (fun r hr => ?_) v h1 h2
      have go : ∀ a b, Joins r a b->a ∈ st.map (·.1)->b ∈ st.map (·.1) := fun a b j ha => by
        obtain ⟨i, hi⟩ := List.mem_iff_getElem?.mp ha
        have hil : i < st.length := by
          have := (List.getElem?_eq_some_iff.mp hi).1
          simpa using this
        exact s.clo i a hil hi b ((nbOf_keys rs a b).mpr ⟨r, hr, j⟩)
      exact ⟨go _ _ (.inl ⟨rfl, rfl⟩), go _ _ (.inr ⟨rfl, rfl⟩)⟩
    have le := s.length
    have ge : n ≤ st.length := by
      have sub : ∀ (m : Nat) (l : List Int), (∀ v, 0 ≤ v->v < (m : Int)->v ∈ l)->m ≤ l.length := by
        intro m
        induction m with
        | zero => intro l _; omega
        | succ m ih =>
          intro l hl
          have hm := hl m (by omega) (by omega)
          have hp := List.perm_cons_erase hm
          rw [hp.length_eq, List.length_cons]
          have := ih (l.erase (m : Int)) fun v h1 h2 => (List.mem_erase_of_ne (by omega)).mpr (hl v h1 (by omega))
          omega
      have := sub n (st.map (·.1)) cl
      simpa using this
    omega
theorem Srch.start {n : Nat} {nb : Int->List (Int × Int)} {g : Int} (h0 : 0 ≤ g) (h1 : g < n) : Srch n nb g 0 [(g, g)] := by
  refine ⟨rfl, by simp, fun p hp => ?_, fun i p q h hi => ?_, fun j q hj => absurd hj (Nat.not_lt_zero _)⟩
  · rw [List.mem_singleton.mp hp]; exact ⟨h0, h1⟩
  · cases i with
    | zero => omega
    | succ i => simp at h
structure Mid (n : Nat) (nb : Int->List (Int × Int)) (g : Int) (k i : Nat) (q : Int) (st : List (Int × Int)) : Prop where
  first : st[0]? = some (g, g)
  nd : (st.map (·.1)).Nodup
  rng : ∀ p ∈ st, 0 ≤ p.1/\p.1 < n
  par : ∀ i p q, st[i]? = some (p, q)->0 < i->∃ j, j < i/\j < k + 1/\(st.map (·.1))[j]? = some q/\p ∈ (nb q).map (·.1)
  clo : ∀ j q, j < k->(st.map (·.1))[j]? = some q->∀ p ∈ (nb q).map (·.1), p ∈ st.map (·.1)
  here : (st.map (·.1))[k]? = some q
  seen : ∀ p ∈ ((nb q).map (·.1)).take i, p ∈ st.map (·.1)
theorem Srch.mid {n : Nat} {nb : Int->List (Int × Int)} {g : Int} {k : Nat} {st : List (Int × Int)} {q : Int} (s : Srch n nb g k st) (h : (st.map (·.1))[k]? = some q) : Mid n nb g k 0 q st :=
  ⟨s.first, s.nd, s.rng, fun i p q h hi => let ⟨j, a, b, c⟩ := s.par i p q h hi; ⟨j, a, Nat.lt_succ_of_lt b, c⟩, s.clo, h, fun p hp => by simp at hp⟩
theorem Mid.old {n : Nat} {nb : Int->List (Int × Int)} {g : Int} {k i : Nat} {q p : Int} {st : List (Int × Int)} (s : Mid n nb g k i q st) (hi : ((nb q).map (·.1))[i]? = some p) (hp : p ∈ st.map (·.1)) : Mid n nb g k (i + 1) q st :=
  ⟨s.first, s.nd, s.rng, s.par, s.clo, s.here, fun x hx => by
    rw [List.take_add_one, hi, List.mem_append] at hx
    rcases hx with hx | hx
    · exact s.seen x hx
    · have : x = p := by simpa using hx
      rw [this]; exact hp⟩
theorem Mid.new {n : Nat} {nb : Int->List (Int × Int)} {g : Int} {k i : Nat} {q p : Int} {st : List (Int × Int)} (s : Mid n nb g k i q st) (hi : ((nb q).map (·.1))[i]? = some p) (hp : p ∉ st.map (·.1)) (h0 : 0 ≤ p) (h1 : p < n) : Mid n nb g k (i + 1) q (st ++ [(p, q)]) := by
  have hkl : k < st.length := by
    have := (List.getElem?_eq_some_iff.mp s.here).1
    simpa using this
  have em : (st ++ [(p, q)]).map (·.1) = st.map (·.1) ++ [p] := by rw [List.map_append]; rfl
  have old : ∀ {j : Nat} {x : Int}, (st.map (·.1))[j]? = some x->(st.map (·.1) ++ [p])[j]? = some x := fun {j x} h => by
    rw [List.getElem?_append_left (List.getElem?_eq_some_iff.mp h).1]; exact h
  refine ⟨?_, ?_, ?_, ?_, ?_, ?_, ?_⟩
  · rw [List.getElem?_append_left (by omega)]; exact s.first
  · rw [em]
    refine List.nodup_append.mpr ⟨s.nd, by simp, ?_⟩
    intro a ha b hb e
    have : b = p := by simpa using hb
    exact hp (by rw [← this, ← e]; exact ha)
  · intro x hx
    rcases List.mem_append.mp hx with hx | hx
    · exact s.rng x hx
    · rw [List.mem_singleton.mp hx]; exact ⟨h0, h1⟩
  · intro j a b h hj
    rw [em]
    by_cases hjl : j < st.length
    · rw [List.getElem?_append_left hjl] at h
      obtain ⟨t, t1, t2, t3, t4⟩ := s.par j a b h hj
      exact ⟨t, t1, t2, old t3, t4⟩
    · rw [List.getElem?_append_right (by omega)] at h
      have hz : j - st.length = 0 := by
        have := (List.getElem?_eq_some_iff.mp h).1
        simp at this; omega
      rw [hz] at h
      have e : (p, q) = (a, b) := by simpa using h
      cases e
      exact ⟨k, by omega, Nat.lt_succ_self _, old s.here, List.mem_of_getElem? hi⟩
  · intro j x hj hx y hy
    rw [em] at hx ⊢
    have hjl : j < (st.map (·.1)).length := by rw [List.length_map]; omega
    rw [List.getElem?_append_left hjl] at hx
    exact List.mem_append_left _ (s.clo j x hj hx y hy)
  · rw [em]; exact old s.here
  · intro x hx
    rw [em]
    rw [List.take_add_one, hi, List.mem_append] at hx
    rcases hx with hx | hx
    · exact List.mem_append_left _ (s.seen x hx)
    · have : x = p := by simpa using hx
      rw [this]; exact List.mem_append_right _ (by simp)
theorem Mid.done {n : Nat} {nb : Int->List (Int × Int)} {g : Int} {k i : Nat} {q : Int} {st : List (Int × Int)} (s : Mid n nb g k i q st) (hi : i = (nb q).length) : Srch n nb g (k + 1) st := by
  refine ⟨s.first, s.nd, s.rng, s.par, fun j x hj hx p hp => ?_⟩
  by_cases hjk : j < k
  · exact s.clo j x hjk hx p hp
  · have e : j = k := by omega
    subst e
    rw [s.here] at hx
    cases hx
    exact s.seen p (by rw [List.take_of_length_le (by simp [hi])]; exact hp)
end Tw
namespace Tw
def pl (n : Nat) : List Int := (List.range n).map fun i => ((i : Nat) : Int)
theorem mem_pl {n : Nat} {v : Int} : v ∈ pl n<->0 ≤ v/\v < n := by
  unfold pl
  rw [List.mem_map]
  constructor
  · rintro ⟨i, hi, rfl⟩
    have := List.mem_range.mp hi
    omega
  · rintro ⟨h1, h2⟩
    exact ⟨v.toNat, List.mem_range.mpr (by omega), by omega⟩
theorem pl_length (n : Nat) : (pl n).length = n := by unfold pl; simp
theorem pl_succ (n : Nat) : pl (n + 1) = pl n ++ [(n : Int)] := by
  unfold pl
  rw [List.range_succ, List.map_append]; rfl
theorem pl_get {n i : Nat} (h : i < n) : (pl n)[i]? = some (i : Int) := by
  unfold pl
  rw [List.getElem?_map, List.getElem?_range h]; rfl
theorem pl_nodup (n : Nat) : (pl n).Nodup := by
  induction n with
  | zero => unfold pl; simp
  | succ n ih =>
    rw [pl_succ]
    refine List.nodup_append.mpr ⟨ih, by simp, ?_⟩
    intro a ha b hb e
    have := mem_pl.mp ha
    have hb' : b = (n : Int) := by simpa using hb
    omega
theorem ins_perm {α : Type} (l : List α) (j : Nat) (x : α) : (l.take j ++ x :: l.drop j).Perm (x :: l) := by
  have := List.perm_middle (a := x) (l₁ := l.take j) (l₂ := l.drop j)
  rw [List.take_append_drop] at this
  exact this
theorem names_step {l : List Int} {k : Nat} (h : l.Perm (pl k)) (j : Nat) : (l.take j ++ (k : Int) :: l.drop j).Perm (pl (k + 1)) := by
  refine (ins_perm l j _).trans ?_
  rw [pl_succ]
  exact (h.cons _).trans (List.perm_append_comm (l₁ := [(k : Int)]) (l₂ := pl k))
def ends (r : Road) : Int × Int := (r.1, r.2.1)
theorem Joins.of_ends {r q : Road} (e : ends r = ends q) {u w : Int} (j : Joins q u w) : Joins r u w := by
  have e1 : r.1 = q.1 := (Prod.mk.inj e).1
  have e2 : r.2.1 = q.2.1 := (Prod.mk.inj e).2
  unfold Joins at *
  rw [e1, e2]; exact j
theorem Tr.same_ends {rs : List Road} {vs : List Int} (t : Tr rs vs) : ∀ {rs' : List Road}, (rs'.map ends).Perm (rs.map ends)->Tr rs' vs := by
  induction t with
  | one v =>
    intro rs' h
    have e := h.eq_nil
    have : rs' = [] := by simpa using e
    rw [this]; exact .one v
  | @hang rs rs2 vs vs' u w r t hu hw j p q ih =>
    intro rs' h
    have h1 : (rs'.map ends).Perm (ends r :: rs.map ends) := h.trans (p.map ends)
    have hm : ends r ∈ rs'.map ends := h1.mem_iff.mpr List.mem_cons_self
    obtain ⟨r', hr', e⟩ := List.mem_map.mp hm
    have hp := List.perm_cons_erase hr'
    have h2 : (ends r :: (rs'.erase r').map ends).Perm (ends r :: rs.map ends) := by
      have := (hp.map ends).symm.trans h1
      rw [List.map_cons, e] at this
      exact this
    exact .hang (ih h2.cons_inv) hu hw (j.of_ends e) hp q
structure Tree (n : Nat) (rs : List Road) : Prop where
  lo : 1 ≤ n
  hi : n ≤ 12
  tr : Tr rs (pl n)
  len : ∀ r ∈ rs, 1 ≤ r.2.2
theorem Tree.length {n : Nat} {rs : List Road} (t : Tree n rs) : rs.length + 1 = n := by
  have := t.tr.length
  rw [pl_length] at this; exact this
theorem Tree.valid {n : Nat} {rs : List Road} (t : Tree n rs) : ∀ r ∈ rs, Valid n r := fun r hr => by
  obtain ⟨h1, h2, h3⟩ := t.tr.places r hr
  have a := mem_pl.mp h1
  have b := mem_pl.mp h2
  exact ⟨a.1, a.2, b.1, b.2, h3, t.len r hr⟩
theorem Tree.conn {n : Nat} {rs : List Road} (t : Tree n rs) : Conn n rs := fun P p0 hP v h1 h2 => by
  have lo := t.lo
  exact t.tr.whole hP 0 (mem_pl.mpr ⟨by omega, by omega⟩) v (mem_pl.mpr ⟨h1, h2⟩) p0
theorem Tree.isTree {n : Nat} {rs : List Road} (t : Tree n rs) : IsTree n (rs.map rowI) := by
  have := t.lo; have := t.hi; have hl := t.length
  refine ⟨by omega, by omega, ?_, rs, rfl, t.valid, t.conn⟩
  rw [List.length_map]; omega
theorem Tree.leaf {n : Nat} {rs : List Road} (t : Tree n rs) (h : 1 < n) : ∃ v ∈ pl n, deg rs v = 1 := by
  refine t.tr.leaf fun e => ?_
  have := t.length
  rw [e] at this; simp at this; omega
theorem Tree.rehang {n : Nat} {rs : List Road} (t : Tree n rs) {p o : Int} (hp : p ∈ pl n) (ho : o ∈ pl n) (hne : o ≠ p) (hd : deg rs p = 1) {f : Road->Road} (hf : ∀ r, Joins (f r) o p) (hl : ∀ r, (f r).2.2 = r.2.2) : Tree n (rs.map fun r => if inc p r = true then f r else r) := by
  refine ⟨t.lo, t.hi, t.tr.rehang hp ho hne hd hf, fun r hr => ?_⟩
  obtain ⟨q, hq, rfl⟩ := List.mem_map.mp hr
  split
  · rw [hl]; exact t.len q hq
  · exact t.len q hq
theorem Tree.longer {n : Nat} {rs : List Road} (t : Tree n rs) {i : Nat} {r : Road} (hi : rs[i]? = some r) {l : Int} (hl : 1 ≤ l) : Tree n (rs.set i (r.1, r.2.1, l)) := by
  obtain ⟨hlt, he⟩ := List.getElem?_eq_some_iff.mp hi
  have e : (rs.set i (r.1, r.2.1, l)).map ends = rs.map ends := by
    rw [List.map_set]
    have : ends (r.1, r.2.1, l) = (rs.map ends)[i]'(by simpa using hlt) := by
      rw [List.getElem_map, he]; rfl
    rw [this]
    exact List.set_getElem_self _
  refine ⟨t.lo, t.hi, t.tr.same_ends (by rw [e]), fun q hq => ?_⟩
  rcases List.mem_or_eq_of_mem_set hq with h | h
  · exact t.len q h
  · rw [h]; exact hl
theorem grow_step {rs : List Road} {names : List Int} {k o : Nat} (t : Tr rs (names.take k)) (nd : names.Nodup) (ho : o < k) (hk : k < names.length) {u w : Int} (hu : names[o]? = some u) (hw : names[k]? = some w) {r : Road} (j : Joins r u w) (i : Nat) : Tr (rs.take i ++ r :: rs.drop i) (names.take (k + 1)) := by
  have e : names.take (k + 1) = names.take k ++ [w] := by rw [List.take_add_one, hw]; rfl
  refine .hang t (u := u) (w := w) (r := r) ?_ ?_ j (ins_perm rs i r) ?_
  · refine List.mem_iff_getElem?.mpr ⟨o, ?_⟩
    rw [List.getElem?_take_of_lt ho]; exact hu
  · intro hm
    have nd' : (names.take (k + 1)).Nodup := nd.sublist (List.take_sublist _ _)
    rw [e] at nd'
    exact (List.nodup_append.mp nd').2.2 w hm w (by simp) rfl
  · rw [e]; exact List.perm_append_comm (l₁ := names.take k) (l₂ := [w])
end Tw
namespace Tw
open PySem L2
def zV (z : List Int) : List V := z.map V.int
structure RowsAt (H : Hp) (a : Addr) (as : List Addr) (zss : List (List Int)) : Prop where
  top : H a = some (.lst (as.map V.ref))
  len : as.length = zss.length
  row : ∀ (i : Nat) (p : Addr) (z : List Int), as[i]? = some p->zss[i]? = some z->H p = some (.lst (zV z))
theorem RowsAt.mono {H H' : Hp} {a : Addr} {as : List Addr} {zss : List (List Int)} (h : RowsAt H a as zss) (s : Same H H') : RowsAt H' a as zss :=
  ⟨s _ _ h.top, h.len, fun i p z e1 e2 => s _ _ (h.row i p z e1 e2)⟩
theorem RowsAt.get {H : Hp} {a : Addr} {as : List Addr} {zss : List (List Int)} (h : RowsAt H a as zss) {i : Nat} {z : List Int} (e : zss[i]? = some z) : ∃ p, as[i]? = some p/\H p = some (.lst (zV z)) := by
  have hi : i < as.length := by rw [h.len]; exact (List.getElem?_eq_some_iff.mp e).1
  exact ⟨as[i], by simp [hi], h.row i _ z (by simp [hi]) e⟩
theorem lst_inj {xs ys : List V} (h : HO.lst xs = HO.lst ys) : xs = ys := by injection h
theorem RowsAt.ne_top {H : Hp} {a : Addr} {as : List Addr} {zss : List (List Int)} (h : RowsAt H a as zss) (hz : ∀ z ∈ zss, z ≠ []) : a ∉ as := fun hm => by
  obtain ⟨i, hi⟩ := List.mem_iff_getElem?.mp hm
  have hil : i < zss.length := by rw [← h.len]; exact (List.getElem?_eq_some_iff.mp hi).1
  have q := h.row i a zss[i] hi (by simp [hil])
  rw [h.top] at q
  have e := lst_inj (Option.some.inj q)
  have hne := hz _ (List.getElem_mem hil)
  cases hzz : zss[i] with
  | nil => exact hne hzz
  | cons x t =>
    rw [hzz] at e
    cases as with
    | nil => simp [zV] at e
    | cons b bs => simp [zV] at e
structure RoadsAt (H : Hp) (a : Addr) (as : List Addr) (rs : List Road) : Prop where
  rows : RowsAt H a as (rs.map rowI)
  nd : as.Nodup
theorem RoadsAt.mono {H H' : Hp} {a : Addr} {as : List Addr} {rs : List Road} (h : RoadsAt H a as rs) (s : Same H H') : RoadsAt H' a as rs := ⟨h.rows.mono s, h.nd⟩
theorem RoadsAt.get {H : Hp} {a : Addr} {as : List Addr} {rs : List Road} (h : RoadsAt H a as rs) {i : Nat} {r : Road} (e : rs[i]? = some r) : ∃ p, as[i]? = some p/\H p = some (.lst [.int r.1, .int r.2.1, .int r.2.2]) :=
  h.rows.get (z := rowI r) (by rw [List.getElem?_map, e]; rfl)
theorem RoadsAt.len {H : Hp} {a : Addr} {as : List Addr} {rs : List Road} (h : RoadsAt H a as rs) : as.length = rs.length := by have := h.rows.len; rw [List.length_map] at this; exact this
theorem RoadsAt.ne_top {H : Hp} {a : Addr} {as : List Addr} {rs : List Road} (h : RoadsAt H a as rs) : a ∉ as := h.rows.ne_top fun z hz => by
  obtain ⟨r, _, rfl⟩ := List.mem_map.mp hz
  simp [rowI]
def dV (d : List (Int × Int)) : List (Key × V) := d.map fun p => (Sum.inl p.1, V.int p.2)
theorem dV_length (d : List (Int × Int)) : (dV d).length = d.length := by unfold dV; simp
theorem dV_put (d : List (Int × Int)) (k v : Int) : putK (dV d) (Sum.inl k : Key) (V.int v) = dV (put d k v) := by
  have e : ((dV d).any fun kv => decide (kv.1 = (Sum.inl k : Key))) = d.any fun p => decide (p.1 = k) := by
    unfold dV
    rw [List.any_map]
    congr 1
    funext p
    simp only [Function.comp]
    rw [key_ll]
    by_cases h : p.1 = k
    · simp [h]
    · simp [h]
  unfold putK put
  rw [e]
  split
  · unfold dV
    rw [List.map_map, List.map_map]
    refine List.map_congr_left fun p _ => ?_
    simp only [Function.comp]
    by_cases h : p.1 = k
    · rw [if_pos (by rw [h]), if_pos h]
    · rw [if_neg (fun q => h (Sum.inl.inj q)), if_neg h]
  · unfold dV
    rw [List.map_append]; rfl
theorem dV_val (d : List (Int × Int)) (k : Int) : (valV (dV d) (Sum.inl k : Key)).isSome = decide (k ∈ d.map (·.1)) := by
  rw [← valV_any]
  unfold dV
  rw [List.any_map, Bool.eq_iff_iff, List.any_eq_true, decide_eq_true_iff, List.mem_map]
  constructor
  · rintro ⟨p, hp, e⟩
    exact ⟨p, hp, Sum.inl.inj (of_decide_eq_true e)⟩
  · rintro ⟨p, hp, e⟩
    exact ⟨p, hp, decide_eq_true (by show (Sum.inl p.1 : Key) = Sum.inl k; rw [e])⟩
theorem put_new {d : List (Int × Int)} {k v : Int} (h : k ∉ d.map (·.1)) : put d k v = d ++ [(k, v)] := by
  unfold put
  rw [if_neg]
  intro q
  obtain ⟨p, hp, e⟩ := List.any_eq_true.mp q
  exact h (List.mem_map.mpr ⟨p, hp, of_decide_eq_true e⟩)
structure NearAt (H : Hp) (a : Addr) (ds : List Addr) (nr : List (List (Int × Int))) : Prop where
  top : H a = some (.lst (ds.map V.ref))
  len : ds.length = nr.length
  row : ∀ (i : Nat) (p : Addr) (d : List (Int × Int)), ds[i]? = some p->nr[i]? = some d->H p = some (.dK (dV d))
def nearOf (n : Nat) (rs : List Road) : List (List (Int × Int)) := (pl n).map (nbOf rs)
theorem nearOf_get {n : Nat} {rs : List Road} {i : Nat} (h : i < n) : (nearOf n rs)[i]? = some (nbOf rs (i : Int)) := by
  unfold nearOf
  rw [List.getElem?_map, pl_get h]; rfl
theorem nearOf_length (n : Nat) (rs : List Road) : (nearOf n rs).length = n := by unfold nearOf; rw [List.length_map, pl_length]
theorem same_upd {H : Hp} {p : Addr} {o : HO} (h : H p = none) : Same H (upd H p o) := fun b u e => by rw [upd_ne (ne_of_none e h)]; exact e
def But (a : Addr) (H H' : Hp) : Prop := ∀ b o, H b = some o->b ≠ a->H' b = some o
theorem But.of {a : Addr} {H H' : Hp} (s : Same H H') : But a H H' := fun b o e _ => s b o e
theorem len12 {n : Nat} (h : n ≤ 1000) : n ≤ sizeLine := Nat.le_of_lt (small1000 h)
end Tw
namespace L2
open PySem PySem.Spec PyProof.Rows
theorem comp_range {lo : Int} {n : Nat} {tf : TT} {te : TE} {σ : St} {H1 : Hp} {D : Addr} {Q : Hp->Prop} (Pv : Nat->List V->Hp->Prop) (hD : ∀ i ys H, Pv i ys H->H D = some (.lst ys)) (h0 : Pv 0 [] (upd H1 D (.lst []))) (hs : ∀ i ys H, i < n->Pv i ys H->tf (σ ++ [some (.int (lo + i))]) H fun c H4 => if c = true then te (σ ++ [some (.int (lo + i))]) H4 fun z H5 => H5 D = some (.lst ys)/\ys.length < sizeLine/\Pv (i + 1) (ys ++ [z]) (upd H5 D (.lst (ys ++ [z]))) else Pv (i + 1) ys H4) (hd : ∀ ys H, Pv n ys H->Q H) : ∃ W : Nat->Nat->List V->Hp->Prop, (∃ m, W 0 m [] (upd H1 D (.lst [])))/\∀ i m ys H2, W i m ys H2->H2 D = some (.lst ys)/\(((Itr lo n).stop i H2/\Q H2) ∨ ((Itr lo n).go i H2/\∃ N : List V->Hp->Prop, (∀ ys' H', N ys' H'->∃ m', m' < m/\W (i + 1) m' ys' H')/\∀ y H3, (Itr lo n).yld i H2 y H3->tf (σ ++ [some y]) H3 fun c H4 => if c = true then te (σ ++ [some y]) H4 fun z H5 => H5 D = some (.lst ys)/\ys.length < sizeLine/\N (ys ++ [z]) (upd H5 D (.lst (ys ++ [z]))) else N ys H4)) := by
  refine ⟨fun i m ys H => m = n - i/\i ≤ n/\Pv i ys H, ⟨n, by simp, Nat.zero_le _, h0⟩, ?_⟩
  rintro i m ys H ⟨rfl, hi, p⟩
  refine ⟨hD i ys H p, ?_⟩
  by_cases hlt : i < n
  · refine .inr ⟨hlt, Pv (i + 1), fun ys' H' p' => ⟨n - (i + 1), by omega, rfl, hlt, p'⟩, fun y H' yl => ?_⟩
    obtain ⟨e, e2⟩ := yl
    subst e e2
    exact hs i ys _ hlt p
  · have e : i = n := by omega
    subst e
    exact .inl ⟨Nat.le_refl _, hd ys H p⟩
theorem comp_list {K : PySem.W.Frag} {a : Addr} {xs : List V} {tf : TT} {te : TE} {σ : St} {H1 : Hp} {D : Addr} {Q : Hp->Prop} (Pv : Nat->List V->Hp->Prop) (hD : ∀ i ys H, Pv i ys H->H D = some (.lst ys)/\SqL K H a xs) (h0 : Pv 0 [] (upd H1 D (.lst []))) (hs : ∀ i y ys H, xs[i]? = some y->Pv i ys H->tf (σ ++ [some y]) H fun c H4 => if c = true then te (σ ++ [some y]) H4 fun z H5 => H5 D = some (.lst ys)/\ys.length < sizeLine/\Pv (i + 1) (ys ++ [z]) (upd H5 D (.lst (ys ++ [z]))) else Pv (i + 1) ys H4) (hd : ∀ ys H, Pv xs.length ys H->Q H) : ∃ W : Nat->Nat->List V->Hp->Prop, (∃ m, W 0 m [] (upd H1 D (.lst [])))/\∀ i m ys H2, W i m ys H2->H2 D = some (.lst ys)/\(((Itl K a).stop i H2/\Q H2) ∨ ((Itl K a).go i H2/\∃ N : List V->Hp->Prop, (∀ ys' H', N ys' H'->∃ m', m' < m/\W (i + 1) m' ys' H')/\∀ y H3, (Itl K a).yld i H2 y H3->tf (σ ++ [some y]) H3 fun c H4 => if c = true then te (σ ++ [some y]) H4 fun z H5 => H5 D = some (.lst ys)/\ys.length < sizeLine/\N (ys ++ [z]) (upd H5 D (.lst (ys ++ [z]))) else N ys H4)) := by
  refine ⟨fun i m ys H => m = xs.length - i/\i ≤ xs.length/\Pv i ys H, ⟨xs.length, by simp, Nat.zero_le _, h0⟩, ?_⟩
  rintro i m ys H ⟨rfl, hi, p⟩
  obtain ⟨q1, q2⟩ := hD i ys H p
  refine ⟨q1, ?_⟩
  by_cases hlt : i < xs.length
  · refine .inr ⟨⟨xs, xs[i], q2, by simp [hlt]⟩, Pv (i + 1), fun ys' H' p' => ⟨xs.length - (i + 1), by omega, rfl, hlt, p'⟩, fun y H' yl => ?_⟩
    obtain ⟨e, yl⟩ := yl
    subst e
    exact hs i y ys _ (yl xs q2) p
  · have e : i = xs.length := by omega
    subst e
    exact .inl ⟨⟨xs, q2, Nat.le_refl _⟩, hd ys H p⟩
theorem yesI {A B : Hp->Prop} {σ : St} {H : Hp} (h : A H) : tYes σ H (fun c H4 => if c = true then A H4 else B H4) := iteT (A := A H) (B := B H) h
theorem iteD {c : Prop} [Decidable c] {A B : Prop} (h1 : c->A) (h2 : ¬ c->B) : if decide c = true then A else B := by
  by_cases h : c
  · rw [decide_eq_true h]; exact iteT (h1 h)
  · rw [decide_eq_false h]; exact iteF (h2 h)
theorem iteB {b : Bool} {A B : Prop} (h1 : b = true->A) (h2 : b = false->B) : if b = true then A else B := by
  cases b with
  | true => exact iteT (h1 rfl)
  | false => exact iteF (h2 rfl)
theorem iteN {b : Bool} {A B : Prop} (h1 : b = false->A) (h2 : b = true->B) : if (!b) = true then A else B := by
  cases b with
  | true => exact iteF (h2 rfl)
  | false => exact iteT (h1 rfl)
end L2
namespace L2
open PySem PySem.Spec PyProof.Rows
open PySem.Builtin.Int (intBits)
section
variable {X : Cx} {tg : Expr}
theorem ixK (K : PySem.W.Frag) (h : X.K = K := by rfl) : IxR X (rIxL K) := h ▸ ix_list
theorem slK (K : PySem.W.Frag) (h : X.K = K := by rfl) : SlR X (rSlL K) := h ▸ sl_list
theorem inK (K : PySem.W.Frag) (h : X.K = K := by rfl) : OpR X (compareOp .In) (rIn K false) := h ▸ op_in_seq
theorem pi_listK (K : PySem.W.Frag) {l : Expr} {tl : TE} (hl : PE X l tl) (h : X.K = K := by rfl) : PI X tg l (iList K tl) := h ▸ pi_list hl
theorem lenK (K : PySem.W.Frag) (h : X.K = K := by rfl) : CallR X (.builtin "len") (fun xs H Q => ∃ p ys, xs = [.ref p]/\(SqL K H p ys ∨ SqT K H p ys)/\Q (.int ys.length) H) := h ▸ call_len_seq
theorem listK (K : PySem.W.Frag) (h : X.K = K := by rfl) : CallR X (.type "list") (fun xs H Q => ∃ p ys, xs = [.ref p]/\(SqL K H p ys ∨ SqT K H p ys)/\∀ l, H l = none->Q (.ref l) (upd H l (.lst ys))) := h ▸ call_list_of
theorem isinstK (K : PySem.W.Frag) (h : X.K = K := by rfl) : CallR X (.builtin "isinstance") (fun xs H Q => ∃ x t n b, xs = [x, .ty n]/\TyOf K H x t/\PySem.W.kitOne K t (.type n) = some b/\Q (.bl b) H) := h ▸ call_isinst
theorem op_mulB : OpR X (binaryOp .Mult) (rI IntMulOk fun i j => .int (i * j)) := opI fun _ _ _ _ _ _ _ hc q => mul_int q hc
def Bits (i : Int) : Prop := intBits i ≤ 2 ^ 20
theorem mul_bits {a b : Int} {m n : Nat} (ha : intBits a ≤ m) (hb : intBits b ≤ n) (h : m + n ≤ 134217728) : IntMulOk a b := PyProof.Rows.mulOk_of_bits ha hb h
end
theorem bits_of_lay {ns : List Int} (h : PySem.W.WData.layableAll [PySem.W.WData.list (ns.map PySem.W.WData.int)] = true) : ∀ n ∈ ns, Bits n := by
  intro n hn
  have h1 : (PySem.W.WData.list (ns.map PySem.W.WData.int)).layable = true := (PySem.W.layW_cons h).1
  have h2 : (PySem.W.WData.int n).layable = true := PySem.W.layableW_item h1 _ (List.mem_map.mpr ⟨n, hn, rfl⟩)
  exact PyData.bits_of_layable h2
end L2
namespace Att
open PySem PySem.W PySem.Calls PyProof.Rows
theorem attach_bits {l : OpenLaw} {n : Nat} {q : Program} {loose : List Str} {XP : (Str->Option Value)->Heap->Prop} {YP : World->Heap->Prop} {d : DefRec} (hn : l.most = some n) (hdf : d.params.defaults = []) (call : ∀ (w : World) (s₀ s₁ : Shared) (mg mb : Str->Option Value) (fa : Addr) (o : Obj) (pm cd doc : Value) (a : Addr) (vs : List Value) (ns : List Int), Ground q loose [] XP w s₀ mg mb s₁.heap->YP w s₁.heap->s₁.heap.get? fa = some o->o.data = .func (docDef d.name d.params d.body d.scope pm cd doc)->s₁.heap.CodeRec cd d.name->mg d.name = some (.ref fa)->s₁.heap.get? a = some { cls := .type "list", data := .seq vs.toArray }->IntsAre vs ns->ns.length ≤ n->(∀ n ∈ ns, L2.Bits n)->s₁.gens = #[] →
      codeAny (model l.prog w) callerA (.call (.ref fa) ⟨[.ref a], []⟩) (fun r s' => r = .ok (.ret (.bool true))/\OldK s₁.heap s'.heap/\s'.os = s₁.os/\AllBare s'.gens) s₁) :
    WalkO q loose XP YP l.row.toRowW d [] (fun f vs => PySem.call f vs) := by
  intro w s₀ s₁ mg mb G Y fa o pm cd doc dV kV ho hd hcd hD hmg hg args vals as hpre hlay hrd hwl hlo
  obtain rfl : dV = .none := Dflts.none hD hdf
  obtain rfl : kV = .none := Dflts.noKw hD
  obtain ⟨a, vs, ns, rfl, rfl, hobj, hints, hlen⟩ := Att.script_of hn hpre hwl
  refine enter_call (codeAny_mono (call w s₀ s₁ mg mb fa o pm cd doc a vs ns G Y ho (fd_plain hd) hcd hmg hobj hints hlen (L2.bits_of_lay hlay) hg) fun r s' hq => ?_)
  obtain ⟨rfl, h2, h3, h4⟩ := hq
  exact ⟨.inl ⟨.bool true, .bool true, [], rfl, fun _ => rfl, .bool true, Att.post_true l _, fun _ => ⟨List.Pairwise.nil, fun _ hm => (nomatch hm)⟩⟩, h2, h3, h4⟩
end Att
namespace L2
open PySem PySem.Spec PyProof.Rows
theorem walk_bits {l : PySem.W.OpenLaw} {n k : Nat} {q : Program} {loose : List Str} {XP : (Str->Option Value)->Heap->Prop} {YP : World->Heap->Prop} {d : DefRec} {K : Params->PySem.W.Frag} {CX : CXT} {sp : PySem.W.Frag->Sp} {x : Str} (hn : l.most = some n) (hn2 : n ≤ sizeLine) (hdf : d.params.defaults = []) (hr : Room k callerA) (hY : ∀ (w : World) (h : Heap), YP w h->(K w.params).In h) (F : ∀ (w : World) (mg : Str->Option Value) (fa : Addr) (h : Heap), (K w.params).In h->h.Ns mainGlobals mg->mg d.name = some (.ref fa)->∃ fd : FuncData, (∀ (s : Shared) (u : Value), BindsTo s fd ⟨[u], []⟩ [(x, u)])/\∀ base : Heap, (K w.params).In base->base.Ns mainGlobals mg->FnOk l.prog w (K w.params) mg base CX k fa fd [x] (sp (K w.params))) (hsp : ∀ (K : PySem.W.Frag) (H : Hp) (a : Addr) (ns : List Int), ns.length ≤ n->(∀ n ∈ ns, Bits n)->Only H->SqL K H a (ns.map V.int)->sp K [.ref a] H (fun v _ => v = .bl true) fun _ _ _ => False) (hCX : ∀ (H : Hp) (s : Shared) (e : Value) (s' : Shared), CX [] H s (fun _ _ _ => False) e s'->False) : PySem.W.WalkO q loose XP YP l.row.toRowW d [] (fun f vs => PySem.call f vs) := by
  refine Att.attach_bits hn hdf fun w s₀ s₁ mg mb fa o pm cd doc a vs ns G Y ho hd hcd hmg hobj hints hlen hbits hg => ?_
  have KX := hY w _ Y
  obtain ⟨fd, hb, hF⟩ := F w mg fa _ KX G.T.g hmg
  exact law_call KX G.T.g G.T.b G.T.builtins G.T.nolimit G.T.bmain hg hobj hints (Nat.le_trans hlen hn2) hr hF hb (fun H hO hS => hsp _ H a ns hlen hbits hO hS) fun H e s' => hCX H s₁ e s'
end L2
namespace L2
open PySem PySem.Spec PyProof.Rows
section
variable {prog : Program} {w : World} {A : Around} {E : Value->Shared->Prop} {s : Shared}
theorem isList_keep {h h' : Heap} {t it : Addr} {its : Array Value} (hl : h.IsList t its) (sb : Heap.SameBut it h h') (ne : t ≠ it) : h'.IsList t its := by
  obtain ⟨o, e, r⟩ := hl
  exact ⟨o, (sb.2 t ne).trans e, r⟩
theorem draw_list {it t : Addr} {items : Array Value} (hne : t ≠ it) : ∀ (n i : Nat) (s : Shared) (Q : List Value->Shared->Prop), s.heap.IsListIter it t i->s.heap.IsList t items->i + n ≤ items.size->(∀ h', Heap.IsListIter h' it t (i + n)->Heap.SameBut it s.heap h'->Q ((items.toList.drop i).take n) { s with heap := h' })->wpAny (model prog w) A (draw (.ref it) n) Q E s
  | 0, i, s, Q, hit, _, _, hQ => by
    show wpAny _ _ (pure []) Q E s
    exact wpAny_pure (by simpa using hQ s.heap hit (Heap.SameBut.refl ..))
  | n + 1, i, s, Q, hit, ht, hle, hQ => by
    have hlt : i < items.size := by omega
    show wpAny _ _ (pyNext (.ref it) >>= _) Q E s
    refine wpAny_bind (wpAny_pyNext_list_item hit ht (x := items[i]) (by simp [hlt]) fun h₁ hit₁ hs₁ => ?_)
    refine wpAny_bind (wpAny_holding (draw_list hne n (i + 1) _ _ hit₁ (isList_keep ht hs₁ hne) (by omega) fun h₂ hit₂ hs₂ => wpAny_pure ?_))
    have hd : items.toList.drop i = items[i] :: items.toList.drop (i + 1) := by simp [List.drop_eq_getElem_cons, hlt]
    have := hQ h₂ (by rw [show i + (n + 1) = i + 1 + n by omega]; exact hit₂) (hs₁.trans hs₂)
    rw [hd, List.take_succ_cons] at this
    exact this
theorem unpackItems_list {t : Addr} {items : Array Value} {Q : List Value->Shared->Prop} (hh : A.handled = none) (ht : s.heap.IsList t items) (hQ : ∀ h', Heap.ExtBut s.heap.objs.size s.heap h'->Q items.toList { s with heap := h' }) : wpAny (model prog w) A (unpackItems (.ref t) items.size none) Q E s := by
  have hlt : t ≠ s.heap.objs.size := by obtain ⟨o, ho, _⟩ := ht; exact Nat.ne_of_lt (Heap.lt_size ho)
  unfold unpackItems
  refine wpAny_bind ?_
  · unfold notIterableAtAll
    refine wpAny_bind (wpAny_specialOf ht.typeIs slot_list_iter.lookup ?_)
    refine wpAny_pure ?_
    simp only [Bool.false_eq_true, if_false]
    refine wpAny_bind (wpAny_holding (wpAny_pyIter_list ht ?_))
    refine wpAny_bind (wpAny_holding (draw_list hlt items.size 0 _ _ ⟨_, Heap.get?_push_size _ rfl, rfl, rfl⟩ (ht.push _) (by omega) fun h₁ hit₁ hs₁ => ?_))
    have hall : List.take items.size (List.drop 0 items.toList) = items.toList := by
      rw [List.drop_zero]; exact List.take_of_length_le (by simp)
    rw [hall]
    rw [if_neg (by simp)]
    have ht₁ : Heap.IsList h₁ t items := isList_keep (ht.push _) hs₁ hlt
    refine wpAny_bind (wpAny_holding (wpAny_pyNext_list_end hh hit₁ ht₁ (by simp) fun h₂ he₂ => ?_))
    simp only [Option.isSome_none, Bool.false_eq_true, if_false]
    refine wpAny_pure (hQ h₂ fun b o hb e => he₂ b o hb (hs₁.extBut b o hb (Heap.get?_push_of_some _ e)))
theorem assign_Tuple_list {env : Env} {elts : List Expr} {x1} {pos : Pos} {t : Addr} {items : Array Value} {Q : Unit->Shared->Prop} (hh : A.handled = none) (ht : s.heap.IsList t items) (hn : (assignEach elts env).length = items.size) (hstar : (assignEach elts env).findIdx? (·.1) = none) (h : ∀ h', Heap.ExtBut s.heap.objs.size s.heap h'->wpAny (model prog w) A (assignInOrder ((assignEach elts env).map (·.2)) items.toList) Q E { s with heap := h' }) :
    wpAny (model prog w) A (assign (.Tuple elts x1 pos) env (.ref t)) Q E s := by
  rw [assign_Tuple]
  refine wpAny_bind (wpAny_standAt ?_)
  unfold unpack
  rw [hn, hstar]
  exact wpAny_bind (wpAny_holding (unpackItems_list hh ht h))
end
section
variable {X : Cx} {pos : Pos}
def gLst (K : PySem.W.Frag) (n : Nat) (t : TGs) : TG := fun v σ H Q => ∃ a xs, v = .ref a/\SqL K H a xs/\xs.length = n/\t xs σ H Q
theorem pg_lst {es : List Expr} {k : Nat} {t : TGs} {n : Nat} (hc : X.calm = true) (h : PGs X es t) (hn : (assignEach es X.env).length = n := by rfl) (hst : (assignEach es X.env).findIdx? (·.1) = none := by rfl) : PG X (.Tuple es k pos) (gLst X.K n t) := by
  intro pins s σ H v u Q I r hw
  obtain ⟨a, xs, e1, hq, hl, hw⟩ := hw
  subst e1
  cases r
  obtain ⟨its, rv, ht, hz⟩ := I.list hq
  refine assign_Tuple_list (I.ok.hd hc) ht.isList (by simp [hn, ← hl, rv.length]) hst fun h' hx => ?_
  have I1 : Inv X pins σ H { s with heap := h' } := I.kept (t' := s.toks) fun b o e => hx b o (Nat.ne_of_lt (Heap.lt_size e)) e
  exact h pins _ σ H xs _ Q I1 (by simpa using rv) hw
end
end L2
namespace L2
open PySem PySem.Spec PyProof.Rows
section
variable {X : Cx}
end
end L2
namespace L2
open PySem PySem.Spec PyProof.Rows
section
variable {X : Cx}
theorem minL (K : PySem.W.Frag) (hc : X.calm = true) (hK : X.K = K := by rfl) : CallR X (.builtin "min") (fun xs H Q => ∃ (p : Addr) (ns : List Int), xs = [.ref p]/\SqL K H p (ns.map V.int)/\0 < ns.length/\∀ M, M ∈ ns->(∀ a ∈ ns, M ≤ a)->Q (.int M) H) := by
  subst hK
  intro pins s σ H xs us Q I r h
  obtain ⟨p, ns, rfl, hp, hne, q⟩ := h
  obtain ⟨u, rfl, ru⟩ := vals1 r
  cases ru
  obtain ⟨its, rv, pl, hz⟩ := I.list hp
  have hi := intsAre_of rv
  obtain ⟨zs, e⟩ := hi.allInts.items
  have hns : ns = zs.toList.map (·.1) := by
    rw [← hi.numsOf, ← nums_intItems, ← e]
  have hsz : 0 < zs.size := by
    have h3 := hne; rw [hns, List.length_map, Array.length_toList] at h3; exact h3
  have hl : s.heap.IsList p (intItems zs) := e ▸ pl.isList
  refine min_intList (I.ok.hd hc) hl hsz fun v h' tk hv hk => ?_
  obtain ⟨t, rfl⟩ := intItems_at hv
  obtain ⟨h1, h2⟩ := argBest_lt (numAt zs) (zs.size - 1)
  refine ⟨.int _, H, I.kept hk, ⟨t, rfl⟩, q _ ?_ fun a ha => ?_⟩
  · rw [hns, numAt_eq]; exact getD_mem (by rw [List.length_map, Array.length_toList]; omega)
  · rw [hns] at ha
    obtain ⟨j, hj, rfl⟩ := mem_getD ha
    rw [List.length_map, Array.length_toList] at hj
    rw [← numAt_eq]; exact h2 j (by omega)
theorem maxL (K : PySem.W.Frag) (hc : X.calm = true) (hK : X.K = K := by rfl) : CallR X (.builtin "max") (fun xs H Q => ∃ (p : Addr) (ns : List Int), xs = [.ref p]/\SqL K H p (ns.map V.int)/\0 < ns.length/\∀ M, M ∈ ns->(∀ a ∈ ns, a ≤ M)->Q (.int M) H) := by
  subst hK
  intro pins s σ H xs us Q I r h
  obtain ⟨p, ns, rfl, hp, hne, q⟩ := h
  obtain ⟨u, rfl, ru⟩ := vals1 r
  cases ru
  obtain ⟨its, rv, pl, hz⟩ := I.list hp
  have hi := intsAre_of rv
  obtain ⟨zs, e⟩ := hi.allInts.items
  have hns : ns = zs.toList.map (·.1) := by
    rw [← hi.numsOf, ← nums_intItems, ← e]
  have hsz : 0 < zs.size := by
    have h3 := hne; rw [hns, List.length_map, Array.length_toList] at h3; exact h3
  have hl : s.heap.IsList p (intItems zs) := e ▸ pl.isList
  refine max_intList (I.ok.hd hc) hl hsz fun v h' tk hv hk => ?_
  obtain ⟨t, rfl⟩ := intItems_at hv
  obtain ⟨h1, h2⟩ := argBest_gt (numAt zs) (zs.size - 1)
  refine ⟨.int _, H, I.kept hk, ⟨t, rfl⟩, q _ ?_ fun a ha => ?_⟩
  · rw [hns, numAt_eq]; exact getD_mem (by rw [List.length_map, Array.length_toList]; omega)
  · rw [hns] at ha
    obtain ⟨j, hj, rfl⟩ := mem_getD ha
    rw [List.length_map, Array.length_toList] at hj
    rw [← numAt_eq]; exact h2 j (by omega)
def unlike (ns : List Int) : Nat := (firstMet (fun i => ns.getD i 0) ns.length).length
def tLenSet (K : PySem.W.Frag) (te : TE) : TE := fun σ H Q => te σ H fun x H1 => ∃ (p : Addr) (ns : List Int), x = .ref p/\SqL K H1 p (ns.map V.int)/\ns.length ≤ 100/\Q (.int (unlike ns)) H1
theorem pe_lenset {e : Expr} {te : TE} {p1 p2 pos pos2 : Pos} (hc : X.calm = true) (hg1 : Gl X "len") (hm1 : X.mg "len" = none) (hg2 : Gl X "set") (hm2 : X.mg "set" = none) (he : PE X e te) (s1 : starEach [e] X.env = [(false, eval e X.env)] := by rfl) (s2 : starEach [.Call (.Name "set" p2) [e] [] pos2] X.env = [(false, eval (.Call (.Name "set" p2) [e] [] pos2) X.env)] := by rfl) :
    PE X (.Call (.Name "len" p1) [.Call (.Name "set" p2) [e] [] pos2] [] pos) (tLenSet X.K te) := by
  intro pins s σ H Q I h
  refine wpAny_Call_Name_kw (ld_blt I hg1 hm1 PySem.boot_len ?_ (by decide) (by decide))
  refine PyProof.Rows.callWith_builtin1 ?_ (by rw [s2]; rfl) rfl
  rw [s2]
  refine Calls.spliced_cons ?_
  refine wpAny_Call_Name_kw (ld_blt I hg2 hm2 PyProof.Rows.boot_set ?_ (by decide) (by decide))
  refine PyProof.Rows.callWith_type1 ?_ (by rw [s1]; rfl) rfl
  rw [s1]
  refine Calls.spliced_cons (thn (he pins s σ H _ I h) fun v s3 ⟨x, H1, I1, r1, q1⟩ => Calls.spliced_nil ?_)
  obtain ⟨p, ns, rfl, hp, hl, q⟩ := q1
  cases r1
  obtain ⟨its, rv, pl, hz⟩ := I1.list hp
  have hi := intsAre_of rv
  have hil := hi.length
  have sc : (100 : Nat) + 1 < scanBound := by decide
  refine call_set_list (I1.ok.hd hc) pl.isList (by simpa using hi) (by rw [List.size_toArray]; omega) fun h' tk hS hk => ?_
  refine Calls.spliced_nil ?_
  obtain ⟨o, es, ep, t, ho, hex, hd, _, _, hb, hf, hn⟩ := hS
  have I2 : Inv X pins σ H1 { s3 with heap := h', toks := tk } := I1.kept fun b o e => hk b o (Heap.lt_size e) e
  refine call_len_set ho hex hd hf (Int.lt_trans (Int.ofNat_lt.mpr hb) (by decide)) ?_
  refine ⟨.int _, H1, I2.tok _, ⟨_, rfl⟩, ?_⟩
  rw [hn]
  have e : its.toArray.size = ns.length := by rw [List.size_toArray]; omega
  rw [e]; exact q
def tListRange (te : TE) : TE := fun σ H Q => te σ H fun x H1 => ∃ n : Nat, x = .int n/\n ≤ 1000/\∀ l, H1 l = none->Q (.ref l) (upd H1 l (.lst ((List.range n).map fun i => V.int (i : Nat))))
theorem vals_of_get : ∀ {xs : List V} {us : List Value}, xs.length = us.length->(∀ (i : Nat) (x : V) (u : Value), xs[i]? = some x->us[i]? = some u->RelV x u)->Vals xs us
  | [], [], _, _ => .nil
  | [], _ :: _, h, _ => by simp at h
  | _ :: _, [], h, _ => by simp at h
  | x :: xs, u :: us, h, r => .cons (r 0 x u rfl rfl) (vals_of_get (by simpa using h) fun i y v h1 h2 => r (i + 1) y v (by simpa using h1) (by simpa using h2))
theorem pe_listrange {e : Expr} {te : TE} {p1 p2 pos pos2 : Pos} (hc : X.calm = true) (hg1 : Gl X "list") (hm1 : X.mg "list" = none) (hg2 : Gl X "range") (hm2 : X.mg "range" = none) (he : PE X e te) (s1 : starEach [e] X.env = [(false, eval e X.env)] := by rfl) (s2 : starEach [.Call (.Name "range" p2) [e] [] pos2] X.env = [(false, eval (.Call (.Name "range" p2) [e] [] pos2) X.env)] := by rfl) :
    PE X (.Call (.Name "list" p1) [.Call (.Name "range" p2) [e] [] pos2] [] pos) (tListRange te) := by
  intro pins s σ H Q I h
  refine wpAny_Call_Name_kw (ld_blt I hg1 hm1 PyProof.Rows.boot_list ?_ (by decide) (by decide))
  refine PyProof.Rows.callWith_type1 ?_ (by rw [s2]; rfl) rfl
  rw [s2]
  refine Calls.spliced_cons ?_
  refine wpAny_Call_Name_kw (ld_blt I hg2 hm2 boot_range ?_ (by decide) (by decide))
  refine PyProof.Rows.callWith_type1 ?_ (by rw [s1]; rfl) rfl
  rw [s1]
  refine Calls.spliced_cons (thn (he pins s σ H _ I h) fun v s3 ⟨x, H1, I1, r1, q1⟩ => Calls.spliced_nil ?_)
  obtain ⟨n, rfl, hl, q⟩ := q1
  obtain ⟨t, rfl⟩ := r1
  refine call_range_1 ?_
  refine Calls.spliced_nil ?_
  refine call_list_range (n := n) (I1.ok.hd hc) (IsRange.new ..) (small_one (by decide) (by decide) (by omega) (by omega)) (by rw [rangeSize_one]; split <;> omega) (by omega) fun h' tk acc c' hk hS ha => ?_
  have keep : ∀ b o, s3.heap.get? b = some o->h'.get? b = some o := fun b o e => hk b o (Heap.get?_push_of_some _ e)
  have hlt : s3.heap.objs.size ≤ _ := Nat.le_of_lt (Nat.lt_succ_self s3.heap.objs.size)
  have hsz : (s3.heap.push { cls := .type "range", data := .fields #[.int 0 0, .int (n : Int) t, .int 1 0] }).objs.size = s3.heap.objs.size + 1 := Heap.size_push ..
  refine ⟨.ref _, _, I1.laid (o := .lst ((List.range n).map fun i => V.int (i : Nat))) keep ?_ ?_, rfl, q _ ?_⟩
  · show s3.heap.objs.size ≤ (s3.heap.push _).objs.size
    rw [Heap.size_push]; exact Nat.le_succ _
  · refine ⟨by rw [List.length_map, List.length_range]; exact Nat.le_of_lt (small1000 hl), acc.toList, c', vals_of_get ?_ fun i x u h1 h2 => ?_, ?_⟩
    · rw [List.length_map, List.length_range, Array.length_toList]; exact ha.1.symm
    · obtain ⟨t', rfl⟩ := ha.2 i u (by simpa using h2)
      rw [List.getElem?_map] at h1
      cases e : (List.range n)[i]? with
      | none => rw [e] at h1; cases h1
      | some j =>
        rw [e] at h1
        have ej : j = i := by
          have := List.getElem?_eq_some_iff.mp e
          obtain ⟨h3, h4⟩ := this
          simpa using h4.symm
        subst ej
        cases h1
        exact ⟨t', by simp⟩
    · simpa using hS
  · exact I1.hok.fresh (by show s3.heap.objs.size ≤ (s3.heap.push _).objs.size; rw [Heap.size_push]; exact Nat.le_succ _)
end
section
variable {X : Cx} {es : List Expr} {t : TA} {te : TE}
theorem pa_consL {l : List Expr} {p : Pos} (ha : PE X (.List l p) te) (hr : PA X es t) : PA X (.List l p :: es) (tCons te t) := pa_cons ha hr rfl
theorem pa_consT {l : List Expr} {k : Nat} {p : Pos} (ha : PE X (.Tuple l k p) te) (hr : PA X es t) : PA X (.Tuple l k p :: es) (tCons te t) := pa_cons ha hr rfl
theorem pa_consS {a b : Expr} {p : Pos} (ha : PE X (.Subscript a b p) te) (hr : PA X es t) : PA X (.Subscript a b p :: es) (tCons te t) := pa_cons ha hr rfl
theorem pa_consB {a b : Expr} {o : Operator} {p : Pos} (ha : PE X (.BinOp a o b p) te) (hr : PA X es t) : PA X (.BinOp a o b p :: es) (tCons te t) := pa_cons ha hr rfl
theorem pa_consC {c : Const} {k : Nat} {p : Pos} (ha : PE X (.Constant c k p) te) (hr : PA X es t) : PA X (.Constant c k p :: es) (tCons te t) := pa_cons ha hr rfl
end
end L2
namespace L2
open PySem PySem.Spec PyProof.Rows
section
variable {X : Cx}
theorem rc_rowsN {A : Around} {pins : List (Addr × Obj)} {s : Shared} {σ : St} {H : Hp} {a b : Addr} {as bs : List Addr} {xss yss : List (List V)} (I : Inv X pins σ H s) (ha : Rows2 X.K H a as xss) (hb : Rows2 X.K H b bs yss) (hd : ∀ p ∈ as, p ∉ bs) (hl : xss.length = yss.length) (hu : A.units + 1 < cLine) : SeqAt.RcNeAt A s (.ref a) (.ref b) (!(List.range xss.length).all fun j => eqVs (xss.getD j []) (yss.getD j [])) := by
  obtain ⟨us, ru, pu, _⟩ := I.list ha.at'
  obtain ⟨vs, rv, pv, _⟩ := I.list hb.at'
  have l1 := ru.length
  have l2 := rv.length
  rw [List.length_map] at l1 l2
  have n1 := ha.len
  have n2 := hb.len
  have hsz : us.toArray.size = vs.toArray.size := by rw [List.size_toArray, List.size_toArray]; omega
  have e : xss.length = us.toArray.size := by rw [List.size_toArray]; omega
  rw [e]
  refine SeqAt.RcNeAt.lists pu.isList pv.isList hsz (Nat.lt_of_succ_lt hu) fun j h1 h2 => ?_
  rw [List.size_toArray] at h1 h2
  have j1 : j < as.length := by omega
  have j2 : j < bs.length := by omega
  have j3 : j < xss.length := by omega
  have j4 : j < yss.length := by omega
  obtain ⟨u, hu', ru'⟩ := ru.get (i := j) (x := V.ref as[j]) (by simp [j1])
  obtain ⟨v, hv', rv'⟩ := rv.get (i := j) (x := V.ref bs[j]) (by simp [j2])
  have e1 : us.toArray[j] = .ref as[j] := by
    obtain ⟨_, q⟩ := List.getElem?_eq_some_iff.mp hu'
    cases ru'
    simpa using q
  have e2 : vs.toArray[j] = .ref bs[j] := by
    obtain ⟨_, q⟩ := List.getElem?_eq_some_iff.mp hv'
    cases rv'
    simpa using q
  have g1 : xss.getD j [] = xss[j] := by simp [List.getD_eq_getElem?_getD, j3]
  have g2 : yss.getD j [] = yss[j] := by simp [List.getD_eq_getElem?_getD, j4]
  rw [e1, e2, g1, g2]
  obtain ⟨q1, f1⟩ := ha.row j as[j] xss[j] (by simp [j1]) (by simp [j3])
  obtain ⟨q2, f2⟩ := hb.row j bs[j] yss[j] (by simp [j2]) (by simp [j4])
  have ne : as[j] ≠ bs[j] := fun e => hd _ (List.getElem_mem j1) (e ▸ List.getElem_mem j2)
  exact SeqAt.EqAt.of_refs ne (rc_flat (A := A.in1) I q1 q2 f1 f2 hu).1
def rNeR (K : PySem.W.Frag) : R2 := fun x y H Q => ∃ a b as bs xss yss, x = .ref a/\y = .ref b/\Rows2 K H a as xss/\Rows2 K H b bs yss/\(∀ p ∈ as, p ∉ bs)/\xss.length = yss.length ∧
  Q (.bl (!(List.range xss.length).all fun j => eqVs (xss.getD j []) (yss.getD j []))) H
theorem op_neR (hu : X.A.units + 1 < cLine) : OpR X (compareOp .NotEq) (rNeR X.K) := by
  intro pins s σ H x y v u Q I rx ry h
  obtain ⟨a, b, as, bs, xss, yss, rfl, rfl, ha, hb, hd, hl, q⟩ := h
  cases rx; cases ry
  exact rc_rowsN I ha hb hd hl hu _ _ _ _ ⟨.bl _, H, I, rfl, q⟩
end
end L2
namespace L2
open PySem PySem.Spec PyProof.Rows
section
variable {X : Cx} {pins : List (Addr × Obj)} {σ : St} {H : Hp} {s : Shared} {h' : Heap}
end
section
variable {X : Cx}
end
end L2
namespace L2
open PySem PySem.Spec PyProof.Rows
section
variable {X : Cx}
end
end L2
namespace L2
open PySem PySem.Spec PyProof.Rows
section
variable {X : Cx}
theorem op_eqLK (K : PySem.W.Frag) (hu : X.A.units < cLine) (hK : X.K = K := by rfl) : OpR X (compareOp .Eq) (rEqL K false) := hK ▸ op_eqL hu
theorem op_neLK (K : PySem.W.Frag) (hu : X.A.units < cLine) (hK : X.K = K := by rfl) : OpR X (compareOp .NotEq) (rEqL K true) := hK ▸ op_neL hu
end
end L2
namespace L2
open PySem PySem.Spec PyProof.Rows
section
variable {prog : Program} {w : World} {A : Around} {E : Value->Shared->Prop} {s : Shared} {l : Addr} {xs : Array (Int × Tok)}
end
section
variable {X : Cx}
end
end L2
namespace L2
open PySem PySem.Spec PyProof.Rows
theorem leaving_any {M : Model} {A : Around} {E : Value->Shared->Prop} {s : Shared} {base : Heap} {env : Env} {outer : List Env} {L e T : Addr} {oe oT : Obj} {vs ts : Array Value} {v3 : Value} {Q : Unit->Shared->Prop} (hfr : A.frames = some (env :: outer)) (hl : s.heap.FunFrames base (env :: outer)) (hf : env.frame = some L) (he : s.heap.get? e = some oe) (hd : oe.data = .fields vs) (h1 : vs[1]? = some (.ref T)) (hnT : base.get? T = none) (hTe : T ≠ e) (hT : s.heap.get? T = some oT) (hdT : oT.data = .fields ts) (h3 : ts[3]? = some v3) (hkb : base.StaysIn s.heap) (hen : base.get? e = none) (h : ∀ h', Heap.Left base (env :: outer) e oe.cls s.heap h'->Q () { s with heap := h' }) : wpAny M A (leaving env (.ref e)) Q E s := by
  have l3 := (Array.getElem?_eq_some_iff.mp h3).1
  have oth : ∀ b, b ≠ T->(s.heap.update T (Obj.mapFields (·.setIfInBounds 3 Value.none))).get? b = s.heap.get? b := fun b hb => Heap.get?_update_other _ _ (Ne.symm hb)
  have nrec : ∀ b o, s.heap.get? b = some o->(∀ vs, o.data ≠ .fields vs)->b ≠ T := fun b o hb hnf q => by
    rw [q, hT] at hb; cases hb; exact hnf ts hdT
  have nb : ∀ b o, base.get? b = some o->b ≠ T := fun b o hb q => by rw [q, hnT] at hb; cases hb
  unfold leaving noteFrame
  simp only [hf]
  refine wpAny_bind (wpAny_bind (wpAny_field he hd h1 ?_))
  rw [if_pos (show (Value.ref T != Value.none) = true from by simp)]
  refine wpAny_bind (wpAny_field hT hdT h3 ?_)
  by_cases hv : (v3 == rawInt L) = true
  · rw [if_pos hv]
    refine wpAny_pure ?_
    unfold setFlight
    refine wpAny_bind (wpAny_field he hd h1 ?_)
    rw [if_pos (show (Value.ref T != Value.none) = true from by simp)]
    refine wpAny_setField hT hdT l3 (h _ ⟨fun b o hb => (oth b (nb b o hb)).trans (hkb b o hb), hl.of_keeps fun b o hb hnf => ⟨o, (oth b (nrec b o hb hnf)).trans hb, rfl⟩, ?_, fun b o hb hnf => ⟨o.slots, (oth b (nrec b o hb hnf)).trans hb⟩⟩)
    have hd3 := Obj.data_mapFields hdT (·.setIfInBounds 3 Value.none)
    exact ⟨oe, vs, T, _, _, (oth e (Ne.symm hTe)).trans he, rfl, hd, h1, hnT, hTe, Heap.get?_update_self _ hT (Obj.isFreed_of_fields hd3), hd3, by simp [l3]⟩
  · rw [if_neg hv]
    refine wpAny_bind (wpAny_setField hT hdT l3 ?_)
    exact wpAny_newEntry hfr (hl.of_keeps fun b o hb hnf => ⟨o, (oth b (nrec b o hb hnf)).trans hb, rfl⟩) hf ((oth e (Ne.symm hTe)).trans he) (fun b o hb => (oth b (nb b o hb)).trans (hkb b o hb)) hen hd (Array.getElem?_eq_some_iff.mp h1).1
      fun h' ⟨x1, x2, x3, x4⟩ => h h' ⟨x1, x2, x3, fun b o hb hnf => x4 b o ((oth b (nrec b o hb hnf)).trans hb) hnf⟩
theorem ObjOk.some_at {P : Program} {w : World} {H : Hp} {h : Heap} {a : Addr} {o : HO} (x : ObjOk P w H h a o) : ∃ ob, h.get? a = some ob := by
  cases o with
  | lst xs => obtain ⟨_, _, _, _, e⟩ := x; exact ⟨_, e⟩
  | tup xs => obtain ⟨_, _, _, ob, e, _⟩ := x; exact ⟨_, e⟩
  | dK kvs => obtain ⟨_, _, _, _, o, _, _, e, _⟩ := x; exact ⟨_, e⟩
  | dT kvs => obtain ⟨_, _, _, _, o, _, _, e, _⟩ := x; exact ⟨_, e⟩
  | set S n => obtain ⟨o, _, _, _, e, _⟩ := x; exact ⟨_, e⟩
  | ins C dx fs => obtain ⟨_, _, _, e, _⟩ := x; exact ⟨_, e⟩
  | own y => exact x
  | xd fs => obtain ⟨_, ⟨_, _, _, e, _⟩, _⟩ := x; exact ⟨_, e⟩
  | rng lo hi => obtain ⟨_, _, _, e⟩ := x; exact ⟨_, e⟩
  | frz ob u => obtain ⟨e, _⟩ := x; exact ⟨_, e⟩
  | tbl ps => obtain ⟨_, e, _⟩ := x; exact ⟨_, e⟩
  | cod q => obtain ⟨_, _, _, _, e0, e, _⟩ := x; cases e0; exact ⟨_, e⟩
  | met f y => exact ⟨_, x⟩
  | ext φ => exact x.2.1
theorem HOk.untracked {P : Program} {w : World} {H : Hp} {h : Heap} {a : Addr} (x : HOk P w H h) (e : h.get? a = none) : H a = none := by
  cases q : H a with
  | none => rfl
  | some u => obtain ⟨ob, e'⟩ := (x a u q).some_at; rw [e] at e'; cases e'
def Back (h0 : Heap) (H : Hp) (h : Heap) (x : Addr) (v : Value) : Prop :=
  v = .none ∨ ∃ T oT ts v3, v = .ref T/\T ≠ x/\h0.get? T = none/\H T = none/\h.get? T = some oT/\oT.data = .fields ts/\ts[3]? = some v3
def Fly (h0 : Heap) (H : Hp) (h : Heap) (x : Addr) (C : Value) : Prop :=
  ∃ oe vs v, h0.get? x = none/\H x = none/\h.get? x = some oe/\oe.cls = C/\oe.data = .fields vs/\vs[1]? = some v/\Back h0 H h x v
def FlyT (h0 : Heap) (H : Hp) (h : Heap) (x : Addr) (C : Value) : Prop :=
  ∃ oe vs T oT ts, h0.get? x = none/\H x = none/\h.get? x = some oe/\oe.cls = C/\oe.data = .fields vs/\vs[1]? = some (.ref T)/\T ≠ x/\h0.get? T = none/\H T = none/\h.get? T = some oT/\oT.data = .fields ts/\ts[3]? = some .none
theorem FlyT.fly {h0 : Heap} {H : Hp} {h : Heap} {x : Addr} {C : Value} (f : FlyT h0 H h x C) : Fly h0 H h x C := by
  obtain ⟨oe, vs, T, oT, ts, a, b, c, d, e, g, q1, q2, q3, q4, q5, q6⟩ := f
  exact ⟨oe, vs, .ref T, a, b, c, d, e, g, .inr ⟨T, oT, ts, .none, rfl, q1, q2, q3, q4, q5, q6⟩⟩
def CXE (P : Program) (w : World) : CXT := fun outer H s E e s' => ∃ x C H', e = .ref x/\s'.os = s.os/\AllBare s'.gens/\Un (frs outer) [] H H' s.heap s'.heap/\HOk P w H' s'.heap/\FlyT s.heap H' s'.heap x C/\E C none H'
theorem Fly.older {h0 h1 : Heap} {H : Hp} {h : Heap} {x : Addr} {C : Value} (f : Fly h1 H h x C) (k : ∀ b, h1.get? b = none->h0.get? b = none) : Fly h0 H h x C := by
  obtain ⟨oe, vs, v, a, b, c, d, e, g, q⟩ := f
  refine ⟨oe, vs, v, k _ a, b, c, d, e, g, ?_⟩
  rcases q with q | ⟨T, oT, ts, v3, q1, q2, q3, q⟩
  · exact .inl q
  · exact .inr ⟨T, oT, ts, v3, q1, q2, k _ q3, q⟩
def XE (X : Cx) (E : XK) : Prop := ∀ (pins : List (Addr × Obj)) (σ : St) (H : Hp) (s : Shared) (x : Addr) (C : Value), Inv X pins σ H s->Fly X.s₀.heap H s.heap x C->E C none H->X.xe (.ref x) s
theorem Inv.gone {X : Cx} {pins : List (Addr × Obj)} {σ : St} {H : Hp} {s : Shared} (I : Inv X pins σ H s) (hx : X.ex = []) {b : Addr} (e : s.heap.get? b = none) : X.s₀.heap.get? b = none := by
  cases q : X.s₀.heap.get? b with
  | none => rfl
  | some o =>
    obtain ⟨o', z⟩ := I.base.there b o q (by rw [hx]; simp)
    rw [e] at z; cases z
theorem XE.passes {X : Cx} {E : XK} (x : XE X E) (hx : X.ex = []) : Passes (CXE X.prog X.w) X E := by
  intro pins σ H s e s' I h
  obtain ⟨a, C, H', rfl, os, bare, un, hok, f, q⟩ := h
  have I' := I.call' (s' := s') (ch := []) os un hok bare (fun b z => absurd z (by simp))
  exact x pins σ H' s' a C I' (f.fly.older fun b e => I.gone hx e) q
section
variable {P : Program} {w : World} {K : PySem.W.Frag} {mg : Str->Option Value} {base : Heap} {N : List Str} {qual : Str} {scope : Scope} {f : Addr} {cd : Value} {A : Around} {outer : List Env} {s : Shared} {H : Hp} {E : XK}
theorem XE.of : XE (cxOf (CXE P w) P w K mg base N qual scope f cd A outer s H E) E := by
  intro pins σ H1 s1 x C I fl q
  generalize hX : cxOf (CXE P w) P w K mg base N qual scope f cd A outer s H E = X at I fl
  have hxe : X.xe = fun e s' => wpAny (model P w) X.A (leaving X.env e) (fun _ s'' => CXE P w outer H s E e s'') (fun e' s'' => CXE P w outer H s E e' s'') s' := by subst hX; rfl
  have hfr : X.A.frames = some (X.env :: X.outer) := by rw [I.ok.frames]; subst hX; rfl
  have hst : X.stack = X.env :: X.outer := by subst hX; rfl
  have hlf : X.env.frame = some X.env.locals := by subst hX; rfl
  have hex : X.ex = [] := by subst hX; rfl
  have ho : X.outer = outer := by subst hX; rfl
  have hs0 : X.s₀ = s := by subst hX; rfl
  have hH0 : X.H₀ = H := by subst hX; rfl
  have hP : X.prog = P := by subst hX; rfl
  have hw : X.w = w := by subst hX; rfl
  clear hX
  subst ho hs0 hH0 hP hw
  rw [hxe]
  obtain ⟨oe, vs, v, n0, nH, he, hc, hd, h1, bk⟩ := fl
  have core : ∀ (hid : List Addr) (h' : Heap), (∀ b ∈ hid, b = x ∨ (X.s₀.heap.get? b = none/\H1 b = none) ∨ b ∈ frs X.stack)->Heap.Left (PySem.W.hideAll s1.heap hid) (X.env :: X.outer) x C s1.heap h' →
      CXE X.prog X.w X.outer X.H₀ X.s₀ E (.ref x) { s1 with heap := h' } := by
    intro hid h' hh hL
    obtain ⟨l1, l2, l3, l4⟩ := hL
    have unhid : ∀ b, b ∉ hid->∀ o, s1.heap.get? b = some o->h'.get? b = some o := fun b nb o e => l1 b o (PySem.W.hideAll_get _ e nb)
    have old : ∀ b o, X.s₀.heap.get? b = some o->b ∉ X.fs->b ∉ hid := fun b o e nb hb => by
      rcases hh b hb with rfl | ⟨z, _⟩ | z
      · rw [n0] at e; cases e
      · rw [e] at z; cases z
      · rcases List.mem_cons.mp (I.stkSub b z) with z | z
        · rw [z] at e
          exact absurd (Heap.lt_size e) (Nat.not_lt.mpr I.ok.above)
        · exact nb z
    have trk : ∀ b u, H1 b = some u->b ∉ hid := fun b u e hb => by
      rcases hh b hb with rfl | ⟨_, z⟩ | z
      · rw [nH] at e; cases e
      · rw [z] at e; cases e
      · rw [I.stkFree b z] at e; cases e
    have frm : ∀ b ∈ X.fs, ∃ o, s1.heap.get? b = some o/\(∀ vs, o.data ≠ .fields vs) := fun b hb => (I.funs.mem hb).2
    refine ⟨x, C, H1, rfl, I.os, I.bare, ⟨fun b o e n nb _ => ?_, fun b o e n nb _ => ?_, fun b o e n _ => ?_, fun b o e _ => ?_, I.base.tups, I.base.frzs, I.base.tbls⟩, fun a o e => ?_, ?_, q⟩
    · exact unhid b (old b o e nb) o (I.base.keep b o e n nb (by rw [hex]; simp))
    · obtain ⟨sl, z⟩ := I.base.slot b o e n nb (by rw [hex]; simp)
      obtain ⟨o', z', nd⟩ := frm b nb
      rw [z] at z'; cases z'
      obtain ⟨sl', z2⟩ := l4 b _ z nd
      exact ⟨sl', z2⟩
    · exact I.base.free b o e n (by rw [hex]; simp)
    · by_cases hb : b ∈ X.fs
      · obtain ⟨o', z', nd⟩ := frm b hb
        obtain ⟨sl', z2⟩ := l4 b _ z' nd
        exact ⟨_, z2⟩
      · obtain ⟨o', z'⟩ := I.base.there b o e (by rw [hex]; simp)
        exact ⟨o', unhid b (old b o e hb) o' z'⟩
    · refine (I.hok a o e).stay (fun b u hb z => unhid b ?_ u z) (fun _ z => z) fun _ _ _ z => z
      rcases hb with rfl | hb
      · exact trk _ _ e
      · exact trk _ _ hb
    · obtain ⟨oe', vs', T, oT, ts, t1, t2, t3, t4, t5, t6, t7, t8, t9⟩ := l3
      have hfree : s1.heap.get? T = none ∨ (X.s₀.heap.get? T = none/\H1 T = none) := by
        by_cases hT : T ∈ hid
        · rcases hh T hT with z | z | z
          · exact absurd z t6
          · exact .inr z
          · have hz : T ∈ (X.env :: X.outer).filterMap (·.frame) := by rw [← hst]; exact z
            obtain ⟨_, o, z1, z2⟩ := l2.mem hz
            rw [t7] at z1; cases z1
            exact absurd t8 (z2 _)
        · cases z : s1.heap.get? T with
          | none => exact .inl rfl
          | some o => rw [PySem.W.hideAll_get _ z hT] at t5; cases t5
      refine ⟨oe', vs', T, oT, ts, n0, nH, t1, t2, t3, t4, t6, ?_, ?_, t7, t8, t9⟩
      · rcases hfree with z | z
        · exact I.gone hex z
        · exact z.1
      · rcases hfree with z | z
        · exact I.hok.untracked z
        · exact z.2
  have hin : ∀ hid : List Addr, (∀ b ∈ frs X.stack, b ∈ hid)->s1.heap.FunFrames (PySem.W.hideAll s1.heap hid) (X.env :: X.outer) := fun hid hs => by
    refine PySem.W.funFrames_hide (hst ▸ I.stack) fun env hm a ha => hs a ?_
    rw [hst]
    exact List.mem_filterMap.mpr ⟨env, hm, ha⟩
  subst hc
  rcases bk with rfl | ⟨T, oT, ts, v3, rfl, b1, b2, b3, b4, b5, b6⟩
  · refine wpAny_leaving_first (base := PySem.W.hideAll s1.heap (x :: frs X.stack)) hfr (hin _ fun b hb => .tail _ hb) hlf he (fun b o z => PySem.W.of_hideAll _ z) (PySem.W.hideAll_none _ (.head _)) hd h1 fun h' hL => ?_
    exact core _ h' (fun b hb => (List.mem_cons.mp hb).elim .inl fun z => .inr (.inr z)) hL
  · refine leaving_any (base := PySem.W.hideAll s1.heap (x :: T :: frs X.stack)) hfr (hin _ fun b hb => .tail _ (.tail _ hb)) hlf he hd h1 (PySem.W.hideAll_none _ (.tail _ (.head _))) b1 b4 b5 b6
      (fun b o z => PySem.W.of_hideAll _ z) (PySem.W.hideAll_none _ (.head _)) fun h' hL => ?_
    refine core _ h' (fun b hb => ?_) hL
    rcases List.mem_cons.mp hb with z | z
    · exact .inl z
    · rcases List.mem_cons.mp z with rfl | z
      · exact .inr (.inl ⟨b2, b3⟩)
      · exact .inr (.inr z)
end
end L2
namespace L2
open PySem PySem.Spec PyProof.Rows
abbrev veB : List Value := [.type "ValueError", .type "Exception", .type "BaseException", .type "object"]
def XCls (K : PySem.W.Frag) (C : Addr) : Prop := PySem.W.excIn K C veB "ValueError.__new__" = true
theorem XCls.obj {K : PySem.W.Frag} {h : Heap} {C : Addr} (x : XCls K C) (X : K.In h) : ∃ bm Ns nm qn bs hdc sn sb ab cl dd k0 k1 k2 k3 k5 m, h.get? C = some (excClassObj nm qn C Ns bs bm hdc sn sb ab cl dd k0 k1 k2 k3 k5 "ValueError.__new__")/\h.Ns Ns m/\m "__init__" = none/\OwnTail h veB bm := by
  unfold XCls PySem.W.excIn at x
  cases e : K.lookup C with
  | none => rw [e] at x; cases x
  | some ob =>
    have hC := X _ _ e
    rw [e] at x
    split at x
    · rename_i oe dd cd sl he
      cases he
      split at x
      · rename_i C' bm k0 k1 k2 k3 n k5 hm hs
        obtain ⟨nm, bs, mro, ns, qn, hd, sn, sb, ab, cl, del⟩ := cd
        obtain ⟨l⟩ := sl
        dsimp only at hm hs x
        subst hm hs
        simp only [Bool.and_eq_true, beq_iff_eq, Bool.not_eq_true'] at x
        obtain ⟨⟨⟨⟨⟨y1, y2⟩, y3⟩, y4⟩, y5⟩, y6⟩ := x
        subst y1 y2 y3
        exact ⟨bm, ns, nm, qn, bs, hd, sn, sb, ab, cl, dd, k0, k1, k2, k3, k5, _, hC, .of_isNs (PySem.W.isNs_of_in X y5), PySem.W.nsMap_none_of_in X y5 y6, PySem.W.tail_of_in X y4⟩
      · cases x
    · cases x
def tRaise (E : XK) (C : Addr) (t : TA) : TS := fun _ σ H => t σ H fun us H1 => us.length ≤ 1000/\E (.ref C) none H1
theorem ps_raise {X : Cx} {E : XK} {x : Str} {C : Addr} {e₀ : Expr} {rest : List Expr} {t : TA} {np cpos pos : Pos} (hx : XE X E) (hX : X.ex = []) (hc : X.calm = true) (hg : Gl X x) (hm : X.mg x = some (.ref C)) (hC : XCls X.K C) (ha : PA X (e₀ :: rest) t) (he : starEach (e₀ :: rest) X.env = (false, eval e₀ X.env) :: starEach rest X.env := by rfl) (hpl : (backTo cpos (starEach rest X.env)).any (·.1) = false := by rfl) (hdb : (x == ("__debug__" : Str)) = false := by decide) :
    PS X (.Raise (some (.Call (.Name x np) (e₀ :: rest) [] cpos)) none pos) (tRaise E C t) := by
  intro pins s σ H D I h
  obtain ⟨bm, Ns, nm, qn, bs, hdc, sn, sb, ab, cl, dd, k0, k1, k2, k3, k5, m, hC0, hN0, hni, hT0⟩ := hC.obj (K := X.K) I.mod.kin
  refine wpAny_Raise_call_subT (C := C) (N := Ns) (bm := bm) (nm := nm) (q := qn) (bs := bs) (hdct := hdc) (sn := sn) (sub := sb) (ab := ab) (col := cl) (dd := dd) (k0 := k0) (k1 := k1) (k2 := k2) (k3 := k3) (k5 := k5) (mN := m)
    F.excBase_ValueError (hT0.hasType F.excBase_ValueError.hasBase) (I.ok.hd hc) ?_ hni (ld_glob I hg hm ⟨rfl, ?_⟩ hdb)
  · rw [he]
    show (false || (backTo cpos (starEach rest X.env)).any (·.1)) = false
    rw [hpl]; rfl
  · have q := ha cpos pins s σ H _ I h
    rw [he] at q ⊢
    refine Calls.evalArgs_plain (thn q fun us s2 z => ?_)
    obtain ⟨vs, H1, I1, r, hlen, hE⟩ := z
    refine ⟨rfl, ?_, I1.bk _ _ hC0, hN0.keeps I1.bk, hT0.keeps I1.bk, fun h' e hmade => ?_⟩
    · rw [← r.length]
      have : (1000 : Nat) ≤ sizeLine := by decide
      exact Nat.le_trans hlen this
    · obtain ⟨t0, ht, _, _⟩ := hmade.there
      refine hx pins σ H1 _ e (.ref C) (I1.kept hmade.keeps) ?_ hE
      exact ⟨_, _, .none, I1.gone hX hmade.new, I1.hok.untracked hmade.new, ht, rfl, rfl, rfl, .inl rfl⟩
end L2
namespace L2
open PySem PySem.Spec PyProof.Rows
theorem Un.flown {P : Program} {w : World} {fs hid : List Addr} {H H' : Hp} {h h1 h2 : Heap} (u : Un fs [] H H' h h1) (hok : HOk P w H' h1) (hh : ∀ b ∈ hid, (h.get? b = none/\H' b = none) ∨ (b ∈ fs/\H' b = none)) (hf : ∀ b ∈ fs, ∃ o, h1.get? b = some o/\∀ vs, o.data ≠ .fields vs) (st : (PySem.W.hideAll h1 hid).StaysIn h2) (sl : h1.UpToSlots h2) : Un fs [] H H' h h2/\HOk P w H' h2 := by
  have kp : ∀ b, b ∉ hid->∀ o, h1.get? b = some o->h2.get? b = some o := fun b nb o e => st b o (PySem.W.hideAll_get _ e nb)
  have old : ∀ b o, h.get? b = some o->b ∉ fs->b ∉ hid := fun b o e nb hb => by
    rcases hh b hb with ⟨z, _⟩ | ⟨z, _⟩
    · rw [e] at z; cases z
    · exact nb z
  have trk : ∀ b v, H' b = some v->b ∉ hid := fun b v e hb => by
    rcases hh b hb with ⟨_, z⟩ | ⟨_, z⟩
    · rw [z] at e; cases e
    · rw [z] at e; cases e
  refine ⟨⟨fun b o e n nb _ => kp b (old b o e nb) o (u.keep b o e n nb (by simp)), fun b o e n nb _ => ?_, u.free, fun b o e _ => ?_, u.tups, u.frzs, u.tbls⟩, fun a o e => ?_⟩
  · obtain ⟨l1, z⟩ := u.slot b o e n nb (by simp)
    obtain ⟨o', z', nd⟩ := hf b nb
    rw [z] at z'; cases z'
    obtain ⟨l2, z2⟩ := sl b _ z nd
    exact ⟨l2, z2⟩
  · by_cases hb : b ∈ fs
    · obtain ⟨o', z', nd⟩ := hf b hb
      obtain ⟨l2, z2⟩ := sl b _ z' nd
      exact ⟨_, z2⟩
    · obtain ⟨o', z'⟩ := u.there b o e (by simp)
      exact ⟨o', kp b (old b o e hb) o' z'⟩
  · refine (hok a o e).stay (fun b v hb z => kp b ?_ v z) (fun _ z => z) fun _ _ _ z => z
    rcases hb with rfl | hb
    · exact trk _ _ e
    · exact trk _ _ hb
abbrev Cx.suite (X : Cx) (x : Addr) : Cx := { X with A := X.A.mark (some (.ref x)), calm := false, xe := fun _ _ => False }
section
variable {X : Cx} {pins : List (Addr × Obj)} {σ : St} {H : Hp} {s : Shared} {x : Addr}
theorem Inv.suite (I : Inv X pins σ H s) (x : Addr) : Inv (X.suite x) pins σ H s :=
  have ok := I.ok
  ⟨⟨ok.mod, ok.kind, ok.glob, ok.blt, ok.above, ok.inj, ok.has, ok.cab, (fun z => nomatch z), ok.frames, ok.stk, ok.exf, ok.bs, ok.bsz, ok.noex, ok.exfs, ok.funs, ok.frf⟩, I.os, I.bare, I.base, I.loc, I.cell, I.free, I.freeC, I.pin, I.hok, I.len⟩
theorem Inv.unsuite (ok : X.Ok) (I : Inv (X.suite x) pins σ H s) : Inv X pins σ H s := ⟨ok, I.os, I.bare, I.base, I.loc, I.cell, I.free, I.freeC, I.pin, I.hok, I.len⟩
theorem name_gone {M : Model} {A : Around} {E : Value->Shared->Prop} {i : Nat} {n : Str} {pos : Pos} {Q : Unit->Shared->Prop} (I : Inv X pins σ H s) (hN : X.N.Nodup) (hi : X.N[i]? = some n) (hk : X.env.scope.names.lookup n = some .local)
    (h : ∀ s', Inv X pins (σ.set i none) H s'->Heap.SameBut X.env.locals s.heap s'.heap->Q () s') : wpAny M A (do bindName X.env n .none; unbindBehindTheSuite X.env n pos) Q E s := by
  obtain ⟨m, hn, hl⟩ := id I.loc
  have cne := I.cne
  refine wpAny_nameGoes_keeps hk hn (by rw [I.ok.kind]; rfl) fun h' v hn' hs => ?_
  obtain ⟨oL, _, _, hoL, _⟩ := id hn
  have neL : ∀ b o, X.s₀.heap.get? b = some o->b ≠ X.env.locals := fun b o e => Nat.ne_of_lt (Nat.lt_of_lt_of_le (Heap.lt_size e) I.ok.above)
  refine h _ ⟨I.ok, I.os, I.bare, ⟨fun b o e n hb hx => ?_, fun b o e n hb hx => ?_, I.base.free, fun b o e hx => ?_, I.base.tups, I.base.frzs, I.base.tbls⟩, ⟨_, hn', fun j y v' e1 e2 e3 => ?_⟩, fun y c e => ?_, I.free, I.freeC, fun p hp => ?_, fun b ob e => ?_, by simpa using I.len⟩ hs
  · exact (hs.2 b (neL b o e)).trans (I.base.keep b o e n hb hx)
  · obtain ⟨sl, e1⟩ := I.base.slot b o e n hb hx
    exact ⟨sl, (hs.2 b (neL b o e)).trans e1⟩
  · obtain ⟨o', e1⟩ := I.base.there b o e hx
    exact ⟨o', (hs.2 b (neL b o e)).trans e1⟩
  · have hji : j ≠ i := fun z => by
      subst z
      have hiσ : j < σ.length := by rw [I.len]; exact (List.getElem?_eq_some_iff.mp hi).1
      rw [List.getElem?_set_self hiσ] at e2; cases e2
    rw [List.getElem?_set_ne (Ne.symm hji)] at e2
    obtain ⟨u', r', q⟩ := hl j y v' e1 e2 e3
    refine ⟨u', r', ?_⟩
    rcases q with ⟨k, e⟩ | ⟨k, c, e, z⟩
    · have : y ≠ n := fun e => hji (nodup_ix hN e1 (e ▸ hi))
      exact .inl ⟨k, by simp [this, e]⟩
    · exact .inr ⟨k, c, e, z.sameBut hs (cne y c e)⟩
  · obtain ⟨w', z⟩ := I.cell y c e
    exact ⟨w', z.sameBut hs (cne y c e)⟩
  · obtain ⟨e, n, ne, nf, d⟩ := I.pin p hp
    exact ⟨(hs.2 p.1 ne).trans e, n, ne, nf, d⟩
  · refine (I.hok b ob e).stay (fun c w' hc q => (hs.2 c ?_).trans q) (fun _ q => q) fun _ _ _ q => q
    rintro rfl
    rcases hc with rfl | hc
    · rw [I.free] at e; cases e
    · rw [I.free] at hc; cases hc
end
def exO (x : Addr) (C : Value) : HO := .ext fun h => ∃ o vs, h.get? x = some o/\o.cls = C/\o.data = .fields vs
theorem Inv.keepExc {X : Cx} {pins : List (Addr × Obj)} {σ : St} {H : Hp} {s : Shared} {x : Addr} {C : Value} {o : Obj} {vs : Array Value} (I : Inv X pins σ H s) (n0 : X.s₀.heap.get? x = none) (nH : H x = none) (ho : s.heap.get? x = some o) (hc : o.cls = C) (hd : o.data = .fields vs) (hp : ∀ p ∈ X.pn ++ pins, p.1 ≠ x) : Inv X pins σ (upd H x (exO x C)) s := by
  have ne : ∀ b u, H b = some u->b ≠ x := fun b u e z => by rw [z, nH] at e; cases e
  have hL : X.env.locals ≠ x := fun z => by
    obtain ⟨m, ⟨o', es, ep, ho', hd', _⟩, _⟩ := I.loc
    rw [z, ho] at ho'; cases ho'; rw [hd] at hd'; cases hd'
  refine ⟨I.ok, I.os, I.bare, ⟨I.base.keep, I.base.slot, fun b o' e n hx => ?_, I.base.there, fun b xs e => ?_, fun b o' u e => ?_, fun b ps e => ?_⟩, I.loc, I.cell, ?_, fun y c e => ?_, fun p q => ?_, fun b u e => ?_, I.len⟩
  · rw [upd_ne (fun z => by rw [z, n0] at e; cases e)]
    exact I.base.free b o' e n hx
  · have q := I.base.tups b xs e
    rw [upd_ne (ne _ _ q)]; exact q
  · have q := I.base.frzs b o' u e
    rw [upd_ne (ne _ _ q)]; exact q
  · obtain ⟨more, q⟩ := I.base.tbls b ps e
    exact ⟨more, by rw [upd_ne (ne _ _ q)]; exact q⟩
  · rw [upd_ne hL]; exact I.free
  · rw [upd_ne (fun z => by
      obtain ⟨v, o', ho', hd'⟩ := I.cell y c e
      rw [z, ho] at ho'; cases ho'; rw [hd] at hd'; cases hd')]
    exact I.freeC y c e
  · obtain ⟨p1, p2, p3⟩ := I.pin p q
    exact ⟨p1, by rw [upd_ne (hp p q)]; exact p2, p3⟩
  · by_cases hb : b = x
    · subst hb
      rw [upd_same] at e; cases e
      exact ⟨⟨o, vs, ho, hc, hd⟩, ⟨o, ho⟩, fun h1 h2 ⟨o1, vs1, a, b', c⟩ k => ⟨o1, vs1, k _ a, b', c⟩⟩
    · rw [upd_ne hb] at e
      exact (I.hok b u e).stay (fun _ _ _ z => z) (fun c z => by rw [upd_ne (ne _ _ z)]; exact z) fun c xs _ z => by rw [upd_ne (ne _ _ z)]; exact z
def tTry (K : PySem.W.Frag) (CT : Addr) (i j : Nat) (sp : Sp) (dvs : List V) (t : TA) : TS := fun D σ H => t σ H fun vs H1 => sp (vs ++ dvs) H1 (fun _ H2 => D.nx σ H2)
  (fun C _ H2 => PySem.W.exmOne K C (.ref CT) = some true/\∀ x, H2 x = none->D.nx (((σ.set i (some (.ref x))).set j (some (.ref x))).set i none) (upd H2 x (exO x C)))
end L2
namespace L2
open PySem PySem.Spec PyProof.Rows PySem.W Builtin Builtin.ObjectAttr Builtin.Getset_descriptor
structure XIs (K : PySem.W.Frag) (C : Addr) : Prop where
  ga : PySem.W.findIn K (.ref C) "__getattribute__" = some (some (.builtin "BaseException.__getattribute__"))
  gn : PySem.W.findIn K (.ref C) "__getattr__" = some none
  cl : PySem.W.findIn K (.ref C) "__class__" = some (some (.builtin "object.__class__"))
  mo : PySem.W.mroIn K C (.type "object") = some true
  mb : PySem.W.mroIn K C (.type "BaseException") = some true
section
variable {prog : Program} {w : World} {A : Around} {E : Value->Shared->Prop} {hh : Heap} {g : Array GenState} {dr : Drawn} {t : Nat} {os : OsState} {x C : Addr} {ob : Obj} {K : PySem.W.Frag}
theorem exc_typ {M : Model} (hx : hh.get? x = some ob) (hc : ob.cls = .ref C) : Looks M hh (typeOf (.ref x)) (.ref C) := hc ▸ (Looks.ld hx).andThen .now
theorem exc_cget {tp : Value} {R : Result->Shared->Prop} (X : K.In hh) (Z : XIs K C) (hx : hh.get? x = some ob) (hc : ob.cls = .ref C) (hq : R (.ok (.ret (.ref C))) ⟨hh, g, dr, t, os⟩) : codeAny (model prog w) A (.call (.builtin "getset_descriptor.__get__") ⟨[.builtin "object.__class__", .ref x, tp], []⟩) R ⟨hh, g, dr, t, os⟩ := by
  have y1 := exc_typ (M := model prog w) hx hc
  have y2 := looks_mroIn (M := model prog w) X Z.mo
  refine codeAny_call_builtin F.slot_gs_get.plain F.entry_gs_get (F.slot_gs_get.check _ _ _ _ _ _ _ _ F.typeOf_object_class (F.args_gs_get _ _ _) ?_)
  unfold Builtin.«getset_descriptor.__get__» descrGet
  rw [dga_obj]
  refine wpAny_bind (wpAny_pure ?_)
  unfold descrGetter descrCheckInstance descrNameAndClass isInstance
  simp only [KF.owner_class]
  repeat lk
  refine ⟨Code.quiet_builtin _ (by decide +kernel), codeAny_builtin F.entry_object_class ?_⟩
  unfold Builtin.«object.__class__» shownTypeOf
  repeat lk
  exact hq
theorem exc_entry {tk : Tok} {Q : Fin->Shared->Prop} (X : K.In hh) (Z : XIs K C) (hx : hh.get? x = some ob) (hc : ob.cls = .ref C) (hq : Q (.done (.ret (.ref C))) ⟨hh, g, dr, t, os⟩) : wpAny (model prog w) A (Builtin.«object.__getattribute__» ⟨[.ref x, .str "__class__" tk], []⟩) Q E ⟨hh, g, dr, t, os⟩ := by
  have y1 := exc_typ (M := model prog w) hx hc
  have y2 := looks_findIn (M := model prog w) X Z.cl
  have y5 := F.typeOf_object_class
  have y6 := F.slot_gs_get.lookup
  have y7 := F.slot_gs_set.lookup
  repeat (any_goals (first | assumption | with_reducible refine Looks.at (by assumption) ?_ | wp_step))
  refine exc_cget X Z hx hc ?_
  repeat (any_goals (first | assumption | lk | wp_step))
theorem exc_check {nameV : Value} {M : Model} {Q : Unit->Shared->Prop} (X : K.In hh) (Z : XIs K C) (hx : hh.get? x = some ob) (hc : ob.cls = .ref C) (hq : Q () ⟨hh, g, dr, t, os⟩) : wpAny M A (checkBuiltinCall "BaseException.__getattribute__" ⟨[.ref x, nameV], []⟩) Q E ⟨hh, g, dr, t, os⟩ := by
  have z1 : builtinKind "BaseException.__getattribute__" = some .slot := by decide +kernel
  have z2 : splitId "BaseException.__getattribute__" = some ("BaseException", "__getattribute__") := by decide +kernel
  have y1 := exc_typ (M := M) hx hc
  have y2 := looks_mroIn (M := M) X Z.mb
  have z3 := F.args_bexc_ga (.ref x) nameV
  simp only [checkBuiltinCall, z1, z2]
  refine wpAny_bind ?_
  unfold isInstance
  repeat (first | lk | wp_step)
  exact hq
theorem exc_call {tk : Tok} {R : Result->Shared->Prop} (X : K.In hh) (Z : XIs K C) (hx : hh.get? x = some ob) (hc : ob.cls = .ref C) (hq : R (.ok (.ret (.ref C))) ⟨hh, g, dr, t, os⟩) : codeAny (model prog w) A (.call (.builtin "BaseException.__getattribute__") ⟨[.ref x, .str "__class__" tk], []⟩) R ⟨hh, g, dr, t, os⟩ :=
  codeAny_call_builtin F.attrBase_ValueError.ga.plain F.entry_bexc_ga (exc_check X Z hx hc (exc_entry X Z hx hc hq))
theorem exc_by {tk : Tok} {Q : Value->Shared->Prop} (X : K.In hh) (Z : XIs K C) (hx : hh.get? x = some ob) (hc : ob.cls = .ref C) (hq : Q (.ref C) ⟨hh, g, dr, t, os⟩) : wpAny (model prog w) A (getAttrBy (.ref x) (.str "__class__" tk) false) Q E ⟨hh, g, dr, t, os⟩ := by
  have f3 := F.attrBase_ValueError.ga.bind (.ref x)
  have y1 := exc_typ (M := model prog w) hx hc
  have y2 := looks_findIn (M := model prog w) X Z.ga
  have y3 := looks_findIn (M := model prog w) X Z.gn
  have z2 : (Value.builtin "BaseException.__getattribute__" == Value.builtin "object.__getattribute__") = false := by decide +kernel
  have z1 : (onTheHeap (Value.ref C) && Value.builtin "BaseException.__getattribute__" == Value.builtin "object.__getattribute__") = false := by rw [z2]; rfl
  repeat (any_goals (first | assumption | with_reducible refine Looks.at (by assumption) ?_ | wp_step))
  refine exc_call X Z hx hc ?_
  repeat (any_goals (first | assumption | lk | wp_step))
theorem exc_attr {Q : Option Value->Shared->Prop} (X : K.In hh) (Z : XIs K C) (hx : hh.get? x = some ob) (hc : ob.cls = .ref C) (hq : Q (some (.ref C)) ⟨hh, g, dr, t + 1, os⟩) : wpAny (model prog w) A (getAttr? (.ref x) "__class__") Q E ⟨hh, g, dr, t, os⟩ := by
  unfold getAttr? getAttrBy?
  repeat (any_goals (first | assumption | with_reducible apply exc_by X Z hx hc | wp_step))
theorem kitx_exc (Z : XIs K C) : KitX K (.ref x) (.ref C) (fun h => ∃ o vs, h.get? x = some o/\o.cls = .ref C/\o.data = .fields vs) where
  ty := fun M h _ ⟨o, _, ho, hc, _⟩ => exc_typ ho hc
  it := fun M h X _ => by
    have z := Z.mo
    unfold mroIn at z
    obtain ⟨cd, e, _⟩ := Option.bind_eq_some_iff.mp z
    unfold clsIn at e
    split at e
    · rename_i ho
      intro A' Q' E' s' k q
      unfold isType loadHead
      exact wpAny_bind (wpAny_loadPart (k _ _ (X _ _ ho)) (wpAny_pure q))
    · cases e
  ne := fun h tp dd its n sl X htp => by
    refine Bool.eq_false_iff.mpr fun q => ?_
    obtain rfl : C = tp := Value.ref.inj (beq_iff_eq.mp q)
    have z := Z.mo
    unfold mroIn at z
    obtain ⟨cd, e, _⟩ := Option.bind_eq_some_iff.mp z
    unfold clsIn at e
    split at e
    · rename_i ho
      have z := (X _ _ ho).symm.trans htp
      cases z
    · cases e
  ca := fun {prog w A E Q s} X ⟨o, _, ho, hc, _⟩ k => by
    obtain ⟨h, g, d, t, os⟩ := s
    exact exc_attr X Z ho hc k
end
section
variable {X : Cx}
def rIsx (K : Frag) : List V->Hp->VK->Prop := fun xs H Q => ∃ (x C : Addr) (y : V) (b : Bool), xs = [.ref x, y]/\H x = some (exO x (.ref C))/\XIs K C ∧
  ((∃ D, y = .ref D/\kitOne K (.ref C) (.ref D) = some b) ∨ (∃ n, y = .ty n/\kitOne K (.ref C) (.type n) = some b) ∨ (∃ (p : Addr) (ds : List Addr), y = .ref p/\H p = some (.tup (ds.map V.ref))/\kitAny K (.ref C) (ds.map Value.ref) = some b))/\Q (.bl b) H
theorem vals_refs : ∀ {ds : List Addr} {us : List Value}, Vals (ds.map V.ref) us->us = ds.map Value.ref
  | [], _, .nil => rfl
  | _ :: _, _, .cons r t => by
    cases r
    rw [vals_refs t]; rfl
theorem call_isx : CallR X (.builtin "isinstance") (rIsx X.K) := by
  intro pins s σ H xs us Q I r h
  obtain ⟨x, C, y, b, rfl, hx, Z, hy, q⟩ := h
  obtain ⟨u, w', rfl, ru, rw'⟩ := vals2 r
  cases ru
  have ho := (I.hok x _ hx).1
  rcases hy with ⟨D, rfl, e⟩ | ⟨n, rfl, e⟩ | ⟨p, ds, rfl, hp, e⟩
  · cases rw'
    exact kia_one (kitx_exc (x := x) Z) I.kIn ho e (by intro z; cases z) fun tk => ⟨.bl b, H, I.tok tk, rfl, q⟩
  · cases rw'
    exact kia_one (kitx_exc (x := x) Z) I.kIn ho e (by intro z; cases z) fun tk => ⟨.bl b, H, I.tok tk, rfl, q⟩
  · cases rw'
    obtain ⟨_, its, rv, ob, htp, hcl, hdt⟩ := I.hok p _ hp
    have ei := vals_refs rv
    subst ei
    obtain ⟨c1, d1, e1, s1⟩ := ob
    cases hcl
    obtain ⟨n1, hdt⟩ := hdt
    cases hdt
    exact kia_tup (kitx_exc (x := x) Z) I.kIn ho htp e (by intro z; cases z) fun tk => ⟨.bl b, H, I.tok tk, rfl, q⟩
end
end L2
namespace L2
open PySem PySem.Spec PyProof.Rows
section
variable {P : Program} {w : World} {K : PySem.W.Frag} {mg : Str->Option Value} {base : Heap} {k : Nat} {f : Addr} {fd : FuncData} {ps : List Str} {sp sp' : Sp} {CX : CXT}
theorem Fun.okE {x qual : Str} {st : Stmt} {N : List Str} (F : Fun K x qual st f fd) (S : FnScope N ps (defScope st)) (len : ∀ vs H Q E, sp vs H Q E->vs.length = ps.length) (hbody : ∀ (cdv : Value) (A : Around) (outer : List Env) (s : Shared) (H : Hp) (vs : List V) (Q : VK) (E : XK), Room k (A.deeper (envOfC qual (defScope st) s.heap.objs.size f cdv))->sp vs H Q E->∃ t, PSs (cxOf (CXE P w) P w K mg base N qual (defScope st) f cdv A outer s H E) (defBody st) t/\t { nx := fun _ H' => Q .non H', rt := Q } (start N vs) H) : FnOk P w K mg base (CXE P w) (k + 1) f fd ps sp := by
  obtain ⟨oc, od, kV, doc, pm, an, cdv, ct, osl, rfl, lk, hcd⟩ := F.ex
  exact fn_of lk hcd S len fun A outer s H vs Q E hr hsp => hbody cdv A outer s H vs Q E hr hsp
end
theorem PS.nox {X : Cx} {st : Stmt} {t : TS} (h : PS X.nox st t) : PS X st t := fun pins s σ H D I hw =>
  wpAny_mono (h pins s σ H D (I.wish _) hw) (fun _ _ q => q.unwish) fun _ _ z => False.elim z
structure Err (K : PySem.W.Frag) (mg : Str->Option Value) (x : Str) (C : Addr) : Prop where
  mg : mg x = some (.ref C)
  cls : XCls K C
  is : XIs K C
theorem err_mk {K : PySem.W.Frag} {h : Heap} {mg : Str->Option Value} {x : Str} {C : Addr} (X : K.In h) (G : h.Ns mainGlobals mg) (a : PySem.W.nsIn K mainGlobals x = some (some (.ref C))) (c : PySem.W.excIn K C veB "ValueError.__new__" = true) (f1 : PySem.W.findIn K (.ref C) "__getattribute__" = some (some (.builtin "BaseException.__getattribute__"))) (f2 : PySem.W.findIn K (.ref C) "__getattr__" = some none) (f3 : PySem.W.findIn K (.ref C) "__class__" = some (some (.builtin "object.__class__"))) (f4 : PySem.W.mroIn K C (.type "object") = some true) (f5 : PySem.W.mroIn K C (.type "BaseException") = some true) : Err K mg x C := ⟨PySem.W.mg_of X G a, c, f1, f2, f3, f4, f5⟩
end L2
namespace L2
open PySem PySem.Spec PyProof.Rows
theorem boot_VE : bootBuiltins "ValueError" = some (.type "ValueError") := by first | kernel_rfl | decide +kernel
section
variable {X : Cx}
end
structure Nam (mg : Str->Option Value) (x : Str) (C : Addr) : Prop where
  mg : mg x = some (.ref C)
end L2
namespace L2
open PySem PySem.Spec PyProof.Rows
section
variable {X : Cx}
end
end L2
namespace Tw
open PySem L2
section
variable {K : PySem.W.Frag}
theorem comp_map {α : Type} {a D : Addr} {xs : List α} {el fv : α->V} {te : TE} {σ : St} {H : Hp} {Q : Hp->Prop} (ha : H a = some (.lst (xs.map el))) (hD : H D = none) (hl : xs.length ≤ 1000) (hs : ∀ (i : Nat) (x : α), xs[i]? = some x->∀ (H4 : Hp) (Qv : VK), Same H H4->(∀ H5, Same H4 H5->Qv (fv x) H5)->te (σ ++ [some (el x)]) H4 Qv) (hq : ∀ H2, H2 D = some (.lst (xs.map fv))->Same H H2->Q H2) : ∃ W : Nat->Nat->List V->Hp->Prop, (∃ m, W 0 m [] (upd H D (.lst [])))/\∀ i m ys H2, W i m ys H2->H2 D = some (.lst ys)/\(((Itl K a).stop i H2/\Q H2) ∨ ((Itl K a).go i H2/\∃ N : List V->Hp->Prop, (∀ ys' H', N ys' H'->∃ m', m' < m/\W (i + 1) m' ys' H')/\∀ y H3, (Itl K a).yld i H2 y H3->tYes (σ ++ [some y]) H3 fun c H4 => if c = true then te (σ ++ [some y]) H4 fun z H5 => H5 D = some (.lst ys)/\ys.length < sizeLine/\N (ys ++ [z]) (upd H5 D (.lst (ys ++ [z]))) else N ys H4)) := by
  refine comp_list (K := K) (a := a) (xs := xs.map el) (fun i ys H2 => ys = (xs.take i).map fv/\H2 D = some (.lst ys)/\Same H H2) (fun _ _ _ h => ⟨h.2.1, SqL.of (h.2.2 _ _ ha)⟩) ⟨rfl, upd_same, same_upd hD⟩ ?_ ?_
  · rintro i y ys H2 hi ⟨rfl, hD2, s2⟩
    rw [List.getElem?_map] at hi
    cases e : xs[i]? with
    | none => rw [e] at hi; cases hi
    | some x =>
      rw [e] at hi
      cases hi
      have hil := (List.getElem?_eq_some_iff.mp e).1
      refine yesI (hs i x e H2 _ s2 fun H5 s5 => ⟨s5 _ _ hD2, by rw [List.length_map, List.length_take]; exact small1000 (by omega), by rw [List.take_add_one, e, List.map_append]; rfl, upd_same, fun b o e => by rw [upd_ne (ne_of_none e hD)]; exact s5 b o (s2 b o e)⟩)
  · rintro ys H2 ⟨rfl, hD2, s2⟩
    rw [List.take_of_length_le (by rw [List.length_map]; exact Nat.le_refl _)] at hD2
    exact hq H2 hD2 s2
end
end Tw
namespace L2
open PySem PySem.Spec PyProof.Rows
section
variable {X : Cx}
end
end L2
namespace Tw
open PySem L2
section
variable {K : PySem.W.Frag}
end
end Tw
namespace L2
open PySem PySem.Spec PyProof.Rows
section
variable {X : Cx}
end
end L2
namespace L2
open PySem PySem.Spec PyProof.Rows
section
variable {X : Cx}
def rNeTR (K : PySem.W.Frag) : R2 := fun x y H Q => ∃ (a b p q : Addr) (m : Int) (as bs : List Addr) (xss : List (List V)), x = .ref a/\y = .ref b/\SqT K H a [.int m, .ref p]/\SqT K H b [.int m, .ref q]/\Rows2 K H p as xss/\Rows2 K H q bs xss/\(∀ p ∈ as, p ∉ bs)/\p ≠ q ∧
  ((List.range xss.length).all fun j => eqVs (xss.getD j []) (xss.getD j [])) = true/\Q (.bl false) H
theorem op_neTR (K : PySem.W.Frag) (hu : X.A.units + 2 < cLine) (hK : X.K = K := by rfl) : OpR X (compareOp .NotEq) (rNeTR K) := by
  subst hK
  intro pins s σ H x y v u Q I rx ry h
  obtain ⟨a, b, p, q, m, as, bs, xss, rfl, rfl, ha, hb, hp, hq, hd, np, hall, k⟩ := h
  cases rx; cases ry
  obtain ⟨us, ru, iu, _⟩ := I.tuple ha
  obtain ⟨vs, rv, iv, _⟩ := I.tuple hb
  obtain ⟨i0, i1, rfl, r0, r1⟩ : ∃ i0 i1, us = [i0, i1]/\RelV (.int m) i0/\RelV (.ref p) i1 := by
    cases ru with
    | cons r0 t => cases t with
      | cons r1 t => cases t; exact ⟨_, _, rfl, r0, r1⟩
  obtain ⟨j0, j1, rfl, t0, t1⟩ : ∃ j0 j1, vs = [j0, j1]/\RelV (.int m) j0/\RelV (.ref q) j1 := by
    cases rv with
    | cons r0 t => cases t with
      | cons r1 t => cases t; exact ⟨_, _, rfl, r0, r1⟩
  cases r1; cases t1
  have e : false = (!((List.range (min [i0, Value.ref p].toArray.size [j0, Value.ref q].toArray.size)).all (fun j => if j = 0 then eqV (.int m) (.int m) else ((List.range xss.length).all fun j => eqVs (xss.getD j []) (xss.getD j []))) && [i0, Value.ref p].toArray.size == [j0, Value.ref q].toArray.size)) := by
    show _ = (!((List.range 2).all _ && true))
    rw [show List.range 2 = [0, 1] from rfl, List.all_cons, List.all_cons, List.all_nil, Bool.and_true, Bool.and_true]
    show false = !((m == m) && _)
    rw [beq_self_eq_true, Bool.true_and, if_neg (by decide), hall]; rfl
  rw [e] at k
  refine SeqAt.RcNeAt.tuples iu iv (by omega) (fun j h1 h2 => ?_) _ _ _ _ ⟨.bl _, H, I, rfl, k⟩
  match j, h1, h2 with
  | 0, _, _ => exact eqAt_V r0 t0 rfl rfl
  | 1, _, _ => exact SeqAt.EqAt.of_refs np (rc_rows (A := X.A.in1) I hp hq hd rfl (by show X.A.units + 1 + 1 < cLine; exact hu))
  | j + 2, h1, _ => exact absurd h1 (by simp)
end
end L2
namespace L2
open PySem PySem.Spec PyProof.Rows
section
variable {X : Cx}
end
end L2
namespace L2
open PySem PySem.Spec PyProof.Rows
open PySem.Builtin PySem.Builtin.Str
section
variable {X : Cx}
theorem vals_str : ∀ {l : List (Str × Tok)} {ys : List Str}, l.map (·.1) = ys->Vals (ys.map V.str) (strValues l)
  | [], _, e => by subst e; exact .nil
  | p :: l, _, e => by subst e; exact .cons ⟨p.2, rfl⟩ (vals_str rfl)
theorem str_vals : ∀ {ys : List Str} {its : List Value}, Vals (ys.map V.str) its->∃ l : List (Str × Tok), its = strValues l/\l.map (·.1) = ys
  | [], _, .nil => ⟨[], rfl, rfl⟩
  | y :: ys, _, .cons h r => by
    obtain ⟨t, e⟩ := h
    obtain ⟨l, e1, e2⟩ := str_vals r
    subst e e1 e2
    exact ⟨(y, t) :: l, rfl, rfl⟩
def rJoin (K : PySem.W.Frag) : V->List V->Hp->VK->Prop := fun x vs H Q => ∃ a p ys, x = .str a/\vs = [.ref p]/\SqL K H p (ys.map V.str)/\JoinOk a ys = true/\Q (.str (Str.join a ys)) H
theorem mt_joinK (K : PySem.W.Frag) (hK : X.K = K := by rfl) : MtM X "str.join" (rJoin K) := by
  subst hK
  intro pins s σ H x vs v us Q I rx rv h
  obtain ⟨a, p, ys, rfl, rfl, hp, ok, q⟩ := h
  obtain ⟨t, rfl⟩ := rx
  obtain ⟨u, rfl, ru⟩ := rv.one
  cases ru
  obtain ⟨its, r, pl, _⟩ := I.list hp
  obtain ⟨l, rfl, e⟩ := str_vals r
  refine SC.join pl.isList e ok fun t' k => ⟨.str (Str.join a ys), H, I.tok _, ⟨t', ?_⟩, q⟩
  rw [show Txt.join a ys = Str.join a ys from StrLaws.glued_eq_join a ys]
def rSplit : V->List V->Hp->VK->Prop := fun x vs H Q => ∃ a b, x = .str a/\vs = [.str b]/\(b.length == 0) = false/\a.length + 2 ≤ sizeLine/\∀ l, H l = none->Q (.ref l) (upd H l (.lst ((Txt.split a b).map V.str)))
theorem mt_split : MtM X "str.split" rSplit := by
  intro pins s σ H x vs v us Q I rx rv h
  obtain ⟨a, b, rfl, rfl, hb, hz, q⟩ := h
  obtain ⟨t, rfl⟩ := rx
  obtain ⟨u, rfl, ru⟩ := rv.one
  obtain ⟨t', rfl⟩ := ru
  have hsp := split_le a b
  cases h1 : (decide (a.length < b.length) || decide (strKind a < strKind b))
  · cases hf : (occurrences a b 0 a.length (a.length + 1)).isEmpty
    · have e : Txt.split a b = partsBetween a (occurrences a b 0 a.length (a.length + 1)) b.length := (if_neg (ne_true_of_eq_false h1)).trans (if_neg (ne_true_of_eq_false hf))
      rw [e] at hsp q
      refine call_meets F.slot_str_split (typeIs_str _ _ _) F.entry_str_split (F.args_str_split_2 _ _) (meets_str_split_sep a b t t' h1 hb hf (by omega) (by omega)) ?_
      rw [strsFrom_eq]
      exact ⟨.ref s.heap.objs.size, _, I.lnew (vals_str (numbered_texts _ _)) (by rw [List.length_map]; omega), rfl, q _ I.fresh⟩
    · have e : Txt.split a b = [a] := (if_neg (ne_true_of_eq_false h1)).trans (if_pos hf)
      rw [e] at q
      exact call_meets F.slot_str_split (typeIs_str _ _ _) F.entry_str_split (F.args_str_split_2 _ _) (meets_str_split_not_found a b t t' h1 hb hf)
        ⟨.ref s.heap.objs.size, _, I.lnew (ys := [V.str a]) (t' := s.toks) (its := [.str a t]) (.cons ⟨t, rfl⟩ .nil) (by show 1 ≤ sizeLine; omega), rfl, q _ I.fresh⟩
  · have e : Txt.split a b = [a] := if_pos h1
    rw [e] at q
    exact call_meets F.slot_str_split (typeIs_str _ _ _) F.entry_str_split (F.args_str_split_2 _ _) (meets_str_split_cannot_occur a b t t' h1)
      ⟨.ref s.heap.objs.size, _, I.lnew (ys := [V.str a]) (t' := s.toks) (its := [.str a t]) (.cons ⟨t, rfl⟩ .nil) (by show 1 ≤ sizeLine; omega), rfl, q _ I.fresh⟩
def rStarts : V->List V->Hp->VK->Prop := fun x vs H Q => ∃ a b, x = .str a/\vs = [.str b]/\Q (.bl (Txt.startswith a b)) H
theorem mt_startswith : MtM X "str.startswith" rStarts := by
  intro pins s σ H x vs v us Q I rx rv h
  obtain ⟨a, b, rfl, rfl, q⟩ := h
  obtain ⟨t, rfl⟩ := rx
  obtain ⟨u, rfl, ru⟩ := rv.one
  obtain ⟨t', rfl⟩ := ru
  exact SC.startswith ⟨.bl _, H, I, rfl, q⟩
theorem call_intS : CallR X (.type "int") (fun xs H Q => ∃ a n, xs = [.str a]/\PySem.intText? a = some n/\a.length ≤ 640/\Q (.int n) H) := by
  intro pins s σ H xs us Q I r h
  obtain ⟨a, n, rfl, hn, hl, q⟩ := h
  obtain ⟨u, rfl, t, rfl⟩ := vals1 r
  exact PySem.W.KIN.call_text hn hl ⟨.int n, H, I.tok _, ⟨_, rfl⟩, q⟩
def rSlS : V->Option Int->Option Int->Hp->VK->Prop := fun x lo hi H Q => ∃ (a : Str) (i : Nat), x = .str a/\lo = some (i : Int)/\hi = none/\i ≤ a.length/\a.length ≤ sizeLine/\Q (.str ⟨(a.cps.toList.drop i).toArray⟩) H
theorem sl_str : SlR X rSlS := by
  intro pins s σ H x v vl vu lo hi sl Q I rx hs pl pu h
  obtain ⟨a, i, rfl, rfl, rfl, hi, hz, q⟩ := h
  obtain ⟨t, rfl⟩ := rx
  cases pl with
  | int _ tl =>
  cases pu
  have la : a.cps.toList.length = a.length := Array.length_toList
  refine ⟨"str", _, F.slot_str_getitem.lookup, typeIs_str _ _ _, ?_⟩
  have e : StrLaws.sliceText a (some (i : Int)) none = ⟨(a.cps.toList.drop i).toArray⟩ := by
    rw [StrLaws.sliceText_from ⟨by omega, by omega⟩, Int.toNat_natCast, List.take_of_length_le (by rw [List.length_drop]; omega)]
  refine wpAny_getItem_str_slice (l := some ((i : Int), tl)) (u := none) (st := none) hs rfl ?_
  rw [← e] at q
  unfold StrLaws.sliceText at q
  show (if ((1 : Int) == 1 && (strSliceIndices (some (i : Int)) none 1 a.length).length == a.length) = true then Made.val (.str a t) else Made.str ⟨((strSliceIndices (some (i : Int)) none 1 a.length).filterMap (a.cps[·]?)).toArray⟩).post (EP X pins σ Q) s
  by_cases hc : ((1 : Int) == 1 && (strSliceIndices (some (i : Int)) none 1 a.length).length == a.length) = true
  · rw [if_pos hc] at q
    rw [if_pos hc]
    exact ⟨.str a, H, I, ⟨t, rfl⟩, q⟩
  · rw [if_neg hc] at q
    rw [if_neg hc]
    have hl : (⟨((strSliceIndices (some (i : Int)) none 1 a.length).filterMap (a.cps[·]?)).toArray⟩ : Str).length ≤ sizeLine := by
      have e2 : StrLaws.sliceText a (some (i : Int)) none = ⟨((strSliceIndices (some (i : Int)) none 1 a.length).filterMap (a.cps[·]?)).toArray⟩ := by unfold StrLaws.sliceText; rw [if_neg hc]
      rw [← e2, e]
      show (a.cps.toList.drop i).toArray.size ≤ sizeLine
      rw [List.size_toArray, List.length_drop]; omega
    exact ⟨hl, .str _, H, I.tok _, ⟨_, rfl⟩, q⟩
def Its (x : Str) : It := ⟨fun i _ => i < x.cps.toList.length, fun i H y H' => H' = H/\∃ c, x.cps.toList[i]? = some c/\y = .str ⟨#[c]⟩, fun i _ => x.cps.toList.length ≤ i⟩
theorem cps_get {x : Str} {i c : Nat} (h : x.cps.toList[i]? = some c) : x.cps[i]? = some c := by simpa using h
theorem cps_none {x : Str} {i : Nat} (h : x.cps.toList.length ≤ i) : x.cps[i]? = none := by simpa using h
theorem turn_ascii {P : Program} {w : World} {K : PySem.W.Frag} {tg : Expr} (x : Str) (t : Tok) (it : Addr) : Turn P w K tg (Its x) [it] it (fun i h => h.IsStrIter it "str_ascii_iterator" x t i) where
  mem := by simp
  obj := fun i h st b hb => by
    have e : b = it := by simpa using hb
    subst e
    obtain ⟨o, e, c, d⟩ := st
    exact ⟨o, e, fun v z => by rw [d] at z; cases z⟩
  keep := fun i h h' st k => let ⟨o, e, r⟩ := st; ⟨o, k it (by simp) o e, r⟩
  item := by
    intro X hP hw hK hc i pins s σ H E I hf st hg
    subst hP hw hK
    obtain ⟨f0, f1, f2, f3, f4, f5⟩ := hf it (by simp)
    obtain ⟨c, ec⟩ : ∃ c, x.cps.toList[i]? = some c := ⟨_, List.getElem?_eq_getElem hg⟩
    refine wpAny_pyNext_ascii_item st (cps_get ec) fun h' st' sb => ?_
    have I1 : Inv X pins σ H { s with heap := h', toks := s.toks + 1 } := I.turned (fun b o hb e => (sb.2 b hb).trans e) f0 f1 f3 f4 f5
    obtain ⟨o, e, c', d⟩ := id st'
    exact ⟨_, rfl, go_of (s := { s with heap := h', toks := s.toks + 1 }) e c' d (by decide) ⟨.str ⟨#[c]⟩, H, I1, ⟨_, rfl⟩, ⟨rfl, c, ec, rfl⟩, st', fun b hb => (hf b hb).1⟩⟩
  done := by
    intro X hP hw hK hc i pins s σ H E I hf st hg
    subst hP hw hK
    obtain ⟨f0, f1, f2, f3, f4, f5⟩ := hf it (by simp)
    exact wpAny_pyNext_ascii_end (I.ok.hd hc) st (cps_none hg) fun h' eb => ⟨rfl, I.turned (t' := s.toks) (fun b o hb e => eb b o hb e) f0 f1 f3 f4 f5⟩
  self := fun _ _ _ _ _ st h => wpAny_pyIter_striter_ascii st h
theorem turn_wide {P : Program} {w : World} {K : PySem.W.Frag} {tg : Expr} (x : Str) (t : Tok) (it : Addr) : Turn P w K tg (Its x) [it] it (fun i h => h.IsStrIter it "str_iterator" x t i) where
  mem := by simp
  obj := fun i h st b hb => by
    have e : b = it := by simpa using hb
    subst e
    obtain ⟨o, e, c, d⟩ := st
    exact ⟨o, e, fun v z => by rw [d] at z; cases z⟩
  keep := fun i h h' st k => let ⟨o, e, r⟩ := st; ⟨o, k it (by simp) o e, r⟩
  item := by
    intro X hP hw hK hc i pins s σ H E I hf st hg
    subst hP hw hK
    obtain ⟨f0, f1, f2, f3, f4, f5⟩ := hf it (by simp)
    obtain ⟨c, ec⟩ : ∃ c, x.cps.toList[i]? = some c := ⟨_, List.getElem?_eq_getElem hg⟩
    refine wpAny_pyNext_wide_item st (cps_get ec) fun h' st' sb => ?_
    have I1 : Inv X pins σ H { s with heap := h', toks := s.toks + 1 } := I.turned (fun b o hb e => (sb.2 b hb).trans e) f0 f1 f3 f4 f5
    obtain ⟨o, e, c', d⟩ := id st'
    exact ⟨_, rfl, go_of (s := { s with heap := h', toks := s.toks + 1 }) e c' d (by decide) ⟨.str ⟨#[c]⟩, H, I1, ⟨_, rfl⟩, ⟨rfl, c, ec, rfl⟩, st', fun b hb => (hf b hb).1⟩⟩
  done := by
    intro X hP hw hK hc i pins s σ H E I hf st hg
    subst hP hw hK
    obtain ⟨f0, f1, f2, f3, f4, f5⟩ := hf it (by simp)
    exact wpAny_pyNext_wide_end (I.ok.hd hc) st (cps_none hg) fun h' eb => ⟨rfl, I.turned (t' := s.toks) (fun b o hb e => eb b o hb e) f0 f1 f3 f4 f5⟩
  self := fun _ _ _ _ _ st h => wpAny_pyIter_striter_wide st h
def iStr (tl : TE) : TI := fun σ H R => tl σ H fun x H1 => ∃ a, x = .str a/\R (Its a) H1
theorem pi_str {tg l : Expr} {tl : TE} (hl : PE X l tl) : PI X tg l (iStr tl) := by
  intro pins s σ H R I h
  refine thn (hl pins s σ H _ I h) fun v s1 ⟨x, H1, I1, r1, q1⟩ => ?_
  obtain ⟨a, e, q⟩ := q1
  subst e
  obtain ⟨t, rfl⟩ := r1
  have fp : ∀ b ∈ [s1.heap.objs.size], FpOk X pins H1 b := fun b hb => by
    have e : b = s1.heap.objs.size := by simpa using hb
    subst e
    exact I1.fpOk (Nat.le_refl _) (I1.hok.fresh (Nat.le_refl _))
  cases ha : a.cps.all (· < 128)
  · exact wpAny_pyIter_wide ha ⟨s1.heap.objs.size, [s1.heap.objs.size], _, _, H1, rfl, I1.kept (t' := s1.toks) fun b o e => Heap.get?_push_of_some _ e, turn_wide a t _, ⟨_, Heap.get?_push_size _ rfl, rfl, rfl⟩, fp, q⟩
  · exact wpAny_pyIter_ascii ha ⟨s1.heap.objs.size, [s1.heap.objs.size], _, _, H1, rfl, I1.kept (t' := s1.toks) fun b o e => Heap.get?_push_of_some _ e, turn_ascii a t _, ⟨_, Heap.get?_push_size _ rfl, rfl, rfl⟩, fp, q⟩
end
end L2
namespace Tw
open PySem L2
section
variable {K : PySem.W.Frag}
theorem comp_signs {x : Str} {D : Addr} {fv : Nat->V} {te : TE} {σ : St} {H : Hp} {Q : Hp->Prop} (hD : H D = none) (hl : x.cps.toList.length ≤ 1000) (hs : ∀ c ∈ x.cps.toList, ∀ (H4 : Hp) (Qv : VK), Same H H4->(∀ H5, Same H4 H5->Qv (fv c) H5)->te (σ ++ [some (.str ⟨#[c]⟩)]) H4 Qv) (hq : ∀ H2, H2 D = some (.lst (x.cps.toList.map fv))->Same H H2->Q H2) : ∃ W : Nat->Nat->List V->Hp->Prop, (∃ m, W 0 m [] (upd H D (.lst [])))/\∀ i m ys H2, W i m ys H2->H2 D = some (.lst ys)/\(((Its x).stop i H2/\Q H2) ∨ ((Its x).go i H2/\∃ N : List V->Hp->Prop, (∀ ys' H', N ys' H'->∃ m', m' < m/\W (i + 1) m' ys' H')/\∀ y H3, (Its x).yld i H2 y H3->tYes (σ ++ [some y]) H3 fun c H4 => if c = true then te (σ ++ [some y]) H4 fun z H5 => H5 D = some (.lst ys)/\ys.length < sizeLine/\N (ys ++ [z]) (upd H5 D (.lst (ys ++ [z]))) else N ys H4)) := by
  refine ⟨fun i m ys H2 => m = x.cps.toList.length - i/\i ≤ x.cps.toList.length/\ys = (x.cps.toList.take i).map fv/\H2 D = some (.lst ys)/\Same H H2, ⟨_, rfl, Nat.zero_le _, rfl, upd_same, same_upd hD⟩, ?_⟩
  rintro i m ys H2 ⟨rfl, hi, rfl, hD2, s2⟩
  refine ⟨hD2, ?_⟩
  by_cases hlt : i < x.cps.toList.length
  · refine .inr ⟨hlt, fun ys' H' => i + 1 ≤ x.cps.toList.length/\ys' = (x.cps.toList.take (i + 1)).map fv/\H' D = some (.lst ys')/\Same H H', fun ys' H' ⟨a, b, c, d⟩ => ⟨x.cps.toList.length - (i + 1), by omega, rfl, a, b, c, d⟩, fun y H3 yl => ?_⟩
    obtain ⟨rfl, c, ec, rfl⟩ := yl
    refine yesI (hs c (List.mem_of_getElem? ec) H3 _ s2 fun H5 s5 => ⟨s5 _ _ hD2, by rw [List.length_map, List.length_take]; exact small1000 (by omega), hlt, by rw [List.take_add_one, ec, List.map_append]; rfl, upd_same, fun b o e => by rw [upd_ne (ne_of_none e hD)]; exact s5 b o (s2 b o e)⟩)
  · have e : i = x.cps.toList.length := by omega
    subst e
    rw [List.take_length] at hD2
    exact .inl ⟨Nat.le_refl _, hq H2 hD2 s2⟩
end
end Tw
namespace Tw
open PySem L2 PySem.StrLaws PySem.Builtin.Str PySem.NumText
theorem lenS (x : Str) : x.cps.toList.length = x.length := Array.length_toList
theorem str_ext {a b : Str} (h : a.cps.toList = b.cps.toList) : a = b := Str.ext' (Array.toList_inj.mp h)
def body (sp : List Nat) : List (List Nat)->List Nat
  | [] => []
  | [p] => p
  | p :: q :: r => p ++ sp ++ body sp (q :: r)
theorem join_body (sep : Str) : ∀ ps : List Str, (Str.join sep ps).cps.toList = body sep.cps.toList (ps.map (·.cps.toList))
  | [] => rfl
  | [p] => rfl
  | p :: q :: r => by
    show (p ++ sep ++ Str.join sep (q :: r)).cps.toList = p.cps.toList ++ sep.cps.toList ++ body sep.cps.toList ((q :: r).map (·.cps.toList))
    rw [Str.cps_append, Str.cps_append, Array.toList_append, Array.toList_append, join_body sep (q :: r)]
theorem at_sign {x y : Str} {n k m c : Nat} (h : At x y n k) (hm : y.cps.toList[m]? = some c) : x.cps.toList[k + m]? = some c := by
  have e := h.2
  rw [subAt_eq] at e
  have e := eq_of_beq e
  have l : m < y.cps.toList.length := (List.getElem?_eq_some_iff.mp hm).1
  have ly := lenS y
  rw [← e, List.getElem?_take_of_lt (by omega), List.getElem?_drop] at hm
  exact hm
theorem at_mk {x y : Str} {A B : List Nat} (h : x.cps.toList = A ++ (y.cps.toList ++ B)) : At x y x.length A.length := by
  have lx := lenS x
  have ly := lenS y
  refine ⟨?_, ?_⟩
  · rw [← lx, h, ← ly]; simp only [List.length_append]; omega
  · rw [subAt_eq, h, List.drop_left, ← ly, List.take_left]; exact beq_self_eq_true _
theorem parts_body {x y : Str} {m c : Nat} (hm : y.cps.toList[m]? = some c) (hb : ∀ i, i < m->y.cps.toList[i]? ≠ some c) :
    ∀ (ps : List (List Nat)) (A : List Nat) (cuts : List Nat) (f : Nat), ps ≠ []->(∀ p ∈ ps, c ∉ p)->x.cps.toList = A ++ body y.cps.toList ps->ChainG x y x.length A.length cuts f->(∀ k, f ≤ k->¬ At x y x.length k) →
      (partsFrom x y.length A.length cuts).map (·.cps.toList) = ps
  | [], _, _, _, h, _, _, _, _ => absurd rfl h
  | [p], A, cuts, f, _, hc, hx, hg, hf => by
    have hx : x.cps.toList = A ++ p := hx
    have lx := lenS x
    rw [hx, List.length_append] at lx
    have no : ∀ k, A.length ≤ k->¬ At x y x.length k := fun k hk ha => by
      have e := at_sign ha hm
      rw [hx, List.getElem?_append_right (by omega)] at e
      exact hc p List.mem_cons_self (List.mem_of_getElem? e)
    cases cuts with
    | nil =>
      show [(strSub x A.length x.length).cps.toList] = [p]
      rw [strSub_toList, hx, List.drop_left, List.take_of_length_le (by omega)]
    | cons a r => exact absurd hg.2.1 (no a hg.1)
  | p :: q :: r, A, cuts, f, _, hc, hx, hg, hf => by
    have hx' : x.cps.toList = A ++ (p ++ (y.cps.toList ++ body y.cps.toList (q :: r))) := by
      rw [hx]
      show A ++ (p ++ y.cps.toList ++ body y.cps.toList (q :: r)) = _
      rw [List.append_assoc p]
    have yes : At x y x.length (A.length + p.length) := by
      have := at_mk (x := x) (y := y) (A := A ++ p) (B := body y.cps.toList (q :: r)) (by rw [hx', List.append_assoc])
      rw [List.length_append] at this; exact this
    have no : ∀ k, A.length ≤ k->k < A.length + p.length->¬ At x y x.length k := fun k h0 h1 ha => by
      have e := at_sign ha hm
      rw [hx', List.getElem?_append_right (by omega)] at e
      by_cases h2 : k + m - A.length < p.length
      · rw [List.getElem?_append_left h2] at e
        exact hc p List.mem_cons_self (List.mem_of_getElem? e)
      · rw [List.getElem?_append_right (by omega)] at e
        have l : m < y.cps.toList.length := (List.getElem?_eq_some_iff.mp hm).1
        rw [List.getElem?_append_left (by omega)] at e
        exact hb _ (by omega) e
    cases cuts with
    | nil =>
      have e : f = A.length := hg
      exact absurd yes (hf _ (by omega))
    | cons a t =>
      obtain ⟨h1, h2, h3, h4⟩ := hg
      have e : a = A.length + p.length := by
        rcases Nat.lt_trichotomy a (A.length + p.length) with h | h | h
        · exact absurd h2 (no a h1 h)
        · exact h
        · exact absurd yes (h3 _ (by omega) h)
      subst e
      have ly := lenS y
      have ih := parts_body hm hb (q :: r) (A ++ p ++ y.cps.toList) t f (by simp) (fun z hz => hc z (List.mem_cons_of_mem _ hz)) (by rw [hx']; simp only [List.append_assoc]) (by rw [List.length_append, List.length_append, ly]; exact h4) hf
      show (strSub x A.length (A.length + p.length)).cps.toList :: (partsFrom x y.length (A.length + p.length + y.length) t).map (·.cps.toList) = _
      rw [List.length_append, List.length_append, ly] at ih
      rw [ih, strSub_toList, hx', List.drop_left, Nat.add_sub_cancel_left, List.take_left]
theorem map_sinj : ∀ {a b : List Str}, a.map (·.cps.toList) = b.map (·.cps.toList)->a = b
  | [], [], _ => rfl
  | [], _ :: _, h => by cases h
  | _ :: _, [], h => by cases h
  | x :: a, y :: b, h => by
    rw [List.map_cons, List.map_cons] at h
    injection h with h1 h2
    rw [str_ext h1, map_sinj h2]
theorem sub_whole (x : Str) : strSub x 0 x.length = x := str_ext (by rw [strSub_toList, List.drop_zero, List.take_of_length_le (by rw [lenS]; omega)])
theorem split_join {y : Str} {m c : Nat} (hm : y.cps.toList[m]? = some c) (hb : ∀ i, i < m->y.cps.toList[i]? ≠ some c) (hk : Builtin.Str.strKind y = 1) {ps : List Str} (hp : ps ≠ []) (hc : ∀ p ∈ ps, c ∉ p.cps.toList) : Txt.split (Str.join y ps) y = ps := by
  have hy : 1 ≤ y.length := by
    have := (List.getElem?_eq_some_iff.mp hm).1
    have := lenS y
    omega
  have hj := join_body y ps
  generalize Str.join y ps = x at hj
  obtain ⟨f, hg, hf⟩ := occ_tight x y hy
  have key := parts_body (x := x) hm hb (ps.map (·.cps.toList)) [] _ f (by simpa using hp) (by intro p h; obtain ⟨q, hq, rfl⟩ := List.mem_map.mp h; exact hc q hq) (by rw [hj]; rfl) hg hf
  have key2 : partsFrom x y.length 0 (occurrences x y 0 x.length (x.length + 1)) = ps := map_sinj key
  have none : occurrences x y 0 x.length (x.length + 1) = []->[x] = ps := fun h => by
    rw [h] at key2
    have e : partsFrom x y.length 0 [] = [x] := by show [strSub x 0 x.length] = [x]; rw [sub_whole]
    rw [e] at key2; exact key2
  unfold Txt.split
  split
  · rename_i h
    have h0 : x.length < y.length := by
      rw [Bool.or_eq_true, decide_eq_true_eq, decide_eq_true_eq] at h
      rcases h with h | h
      · exact h
      · rw [hk] at h
        exfalso
        unfold Builtin.Str.strKind at h
        split at h
        · omega
        · split at h <;> omega
    refine none ?_
    cases e : occurrences x y 0 x.length (x.length + 1) with
    | nil => rfl
    | cons a t =>
      rw [e] at hg
      exact absurd hg.2.1.1 (by omega)
  · split
    · rename_i h
      exact none (List.isEmpty_iff.mp h)
    · rw [partsBetween_eq]; exact key2
def dgs (m : Nat) : List Nat := (Nat.toDigits 10 m).map Char.toNat
theorem dgs_all (m : Nat) : AllDigits (dgs m) := by
  intro c hc
  obtain ⟨ch, hch, e⟩ := List.mem_map.mp hc
  rw [← e]
  exact PyProof.Rows.digit_range (Nat.isDigit_of_mem_toDigits (by decide) (by decide) hch)
theorem dgs_ne (m : Nat) : dgs m ≠ [] := fun e => by
  have h := PySem.toDigits_len_ge 10 m
  rw [List.map_eq_nil_iff.mp e] at h
  exact absurd h (by decide)
theorem dgs_more {m : Nat} (h : ¬ m < 10) : dgs m = dgs (m / 10) ++ dgs (m % 10) := by
  have hm : m % 10 < 10 := Nat.mod_lt m (by decide)
  have t : Nat.toDigits 10 (m / 10) ++ Nat.toDigits 10 (m % 10) = Nat.toDigits 10 (10 * (m / 10) + m % 10) := Nat.toDigits_append_toDigits (by decide) (by omega) hm
  rw [Nat.div_add_mod] at t
  unfold dgs
  rw [← t, List.map_append]
theorem dgs_one {m : Nat} (h : m < 10) : dgs m = [48 + m] := by
  unfold dgs
  rw [Nat.toDigits_of_lt_base h]
  show [(Nat.digitChar m).toNat] = [48 + m]
  have : ∀ d : Nat, d < 10->(Nat.digitChar d).toNat = 48 + d := by decide
  rw [this m h]
theorem dgs_head (m : Nat) : 1 ≤ m->∃ c r, dgs m = c :: r/\49 ≤ c := by
  induction m using Nat.strongRecOn with
  | _ m ih =>
    intro h1
    by_cases h : m < 10
    · exact ⟨48 + m, [], dgs_one h, by omega⟩
    · obtain ⟨c, r, e, hc⟩ := ih (m / 10) (by omega) (by omega)
      exact ⟨c, r ++ dgs (m % 10), by rw [dgs_more h, e]; rfl, hc⟩
theorem dgs_len (k m : Nat) : m < 10 ^ (k + 1)->(dgs m).length ≤ k + 1 := by
  induction k generalizing m with
  | zero =>
    intro h
    rw [dgs_one (by omega)]; exact Nat.le_refl _
  | succ k ih =>
    intro h
    by_cases h1 : m < 10
    · rw [dgs_one h1]; simp
    · have h2 : m / 10 < 10 ^ (k + 1) := by
        rw [Nat.pow_succ] at h
        omega
      rw [dgs_more h1, List.length_append, dgs_one (Nat.mod_lt m (by decide))]
      have := ih (m / 10) h2
      simp only [List.length_cons, List.length_nil]; omega
def num (n : Int) : Str := Str.ofString (toString n)
theorem num_pos (m : Nat) : (num (m : Int)).cps.toList = dgs m := PySem.W.KIN.signs_num m
theorem num_neg (m : Nat) : (num (Int.negSucc m)).cps.toList = 45 :: dgs (m + 1) := by
  unfold num dgs
  rw [PyProof.Rows.signs_ofString]
  show ("-" ++ Nat.repr (m + 1)).toList.map Char.toNat = _
  rw [String.toList_append, List.map_append, Nat.toList_repr]
  rfl
def Fit (n : Int) : Prop := -(10 ^ 60) < n/\n < 10 ^ 60
theorem num_cases {n : Int} (h : Fit n) : (∃ m : Nat, n = m/\m < 10 ^ 60) ∨ ∃ m : Nat, n = Int.negSucc m/\m + 1 < 10 ^ 60 := by
  obtain ⟨h1, h2⟩ := h
  cases n with
  | ofNat m => exact .inl ⟨m, rfl, by have h2 : (m : Int) < 10 ^ 60 := h2; omega⟩
  | negSucc m => exact .inr ⟨m, rfl, by omega⟩
theorem num_signs {n : Int} (h : Fit n) : ∀ c ∈ (num n).cps.toList, c = 45 ∨ (48 ≤ c/\c ≤ 57) := by
  intro c hc
  rcases num_cases h with ⟨m, rfl, _⟩ | ⟨m, rfl, _⟩
  · rw [num_pos] at hc; exact .inr (dgs_all m c hc)
  · rw [num_neg] at hc
    rcases List.mem_cons.mp hc with e | e
    · exact .inl e
    · exact .inr (dgs_all _ c e)
theorem num_digit {n : Int} (h : Fit n) : ∃ c ∈ (num n).cps.toList, 48 ≤ c := by
  rcases num_cases h with ⟨m, rfl, _⟩ | ⟨m, rfl, _⟩
  · obtain ⟨c, hc⟩ := List.exists_mem_of_ne_nil _ (dgs_ne m)
    exact ⟨c, by rw [num_pos]; exact hc, (dgs_all m c hc).1⟩
  · obtain ⟨c, hc⟩ := List.exists_mem_of_ne_nil _ (dgs_ne (m + 1))
    exact ⟨c, by rw [num_neg]; exact List.mem_cons_of_mem _ hc, (dgs_all _ c hc).1⟩
theorem num_len {n : Int} (h : Fit n) : (num n).length ≤ 61 := by
  rw [← lenS]
  rcases num_cases h with ⟨m, rfl, hm⟩ | ⟨m, rfl, hm⟩
  · rw [num_pos]; exact Nat.le_trans (dgs_len 59 m hm) (by decide)
  · rw [num_neg, List.length_cons]; have := dgs_len 59 (m + 1) hm; omega
theorem num_reads {n : Int} (h : Fit n) : PySem.intText? (num n) = some n := by
  have hl := num_len h
  rcases num_cases h with ⟨m, rfl, hm⟩ | ⟨m, rfl, hm⟩
  · rw [intText_digits (by rw [num_pos]; exact dgs_all m) (by rw [num_pos]; exact dgs_ne m) (by omega), num_pos]
    exact congrArg (fun z : Nat => some (z : Int)) (PySem.W.KIN.val_back m)
  · rw [intText_neg (num_neg m) (dgs_all _) (dgs_ne _) (by omega)]
    have : digitsVal (dgs (m + 1)) = m + 1 := PySem.W.KIN.val_back (m + 1)
    rw [this]; rfl
theorem bits_num {n : Int} (h : Fit n) : n.natAbs.log2 < 1920 := by
  obtain ⟨h1, h2⟩ := h
  have : n.natAbs < 2 ^ 1920 := Nat.lt_of_lt_of_le (show n.natAbs < 10 ^ 60 by omega) (by decide +kernel)
  by_cases h0 : n.natAbs = 0
  · rw [h0]; decide
  · exact (Nat.log2_lt h0).mpr this
structure Figs (x : Str) : Prop where
  all : AllDigits x.cps.toList
  ne : x.cps.toList ≠ []
  len : x.length ≤ 60
  zero : x.cps.toList = [48] ∨ x.cps.toList[0]? ≠ some 48
theorem figs_of {x : Str} {m : Nat} (hm : m < 10 ^ 60) (h : x.cps.toList = dgs m) : Figs x := by
  refine ⟨by rw [h]; exact dgs_all m, by rw [h]; exact dgs_ne m, by rw [← lenS, h]; exact dgs_len 59 m hm, ?_⟩
  rw [h]
  by_cases h0 : m = 0
  · subst h0; exact .inl rfl
  · obtain ⟨c, r, e, hc⟩ := dgs_head m (by omega)
    rw [e]
    refine .inr ?_
    show some c ≠ some 48
    intro e; cases e; omega
theorem starts_one (x : Str) (c : Nat) : Txt.startswith x ⟨#[c]⟩ = decide (x.cps.toList[0]? = some c) := by
  rw [Bool.eq_iff_iff, decide_eq_true_eq]
  have h := subAt_one x c 0
  unfold Txt.startswith
  rw [Bool.and_eq_true, decide_eq_true_eq]
  exact h
def sB : Str := ⟨#[32]⟩
def sS : Str := ⟨#[32, 47, 32]⟩
def sD : Str := ⟨#[46]⟩
def sM : Str := ⟨#[45]⟩
def rowT (z : List Int) : Str := if z = [] then sD else Str.join sB (z.map num)
def rowsT (zss : List (List Int)) : Str := if zss = [] then sM else Str.join sS (zss.map rowT)
theorem mem_body {sp : List Nat} : ∀ {ps : List (List Nat)} {c : Nat}, c ∈ body sp ps->c ∈ sp ∨ ∃ p ∈ ps, c ∈ p
  | [], c, h => by cases h
  | [p], c, h => .inr ⟨p, List.mem_cons_self, h⟩
  | p :: q :: r, c, h => by
    rcases List.mem_append.mp h with h | h
    · rcases List.mem_append.mp h with h | h
      · exact .inr ⟨p, List.mem_cons_self, h⟩
      · exact .inl h
    · rcases mem_body h with h | ⟨p', hp, h⟩
      · exact .inl h
      · exact .inr ⟨p', List.mem_cons_of_mem _ hp, h⟩
theorem body_mem {sp : List Nat} : ∀ {ps : List (List Nat)} {c : Nat} {p : List Nat}, p ∈ ps->c ∈ p->c ∈ body sp ps
  | [q], c, p, hp, h => by rw [List.mem_singleton.mp hp] at h; exact h
  | q :: q' :: r, c, p, hp, h => by
    rcases List.mem_cons.mp hp with e | hp
    · subst e; exact List.mem_append_left _ (List.mem_append_left _ h)
    · exact List.mem_append_right _ (body_mem hp h)
theorem mem_join {sep : Str} {ps : List Str} {c : Nat} (h : c ∈ (Str.join sep ps).cps.toList) : c ∈ sep.cps.toList ∨ ∃ p ∈ ps, c ∈ p.cps.toList := by
  rw [join_body] at h
  rcases mem_body h with h | ⟨p, hp, h⟩
  · exact .inl h
  · obtain ⟨q, hq, rfl⟩ := List.mem_map.mp hp
    exact .inr ⟨q, hq, h⟩
theorem join_mem {sep : Str} {ps : List Str} {p : Str} {c : Nat} (hp : p ∈ ps) (h : c ∈ p.cps.toList) : c ∈ (Str.join sep ps).cps.toList := by
  rw [join_body]
  exact body_mem (List.mem_map.mpr ⟨p, hp, rfl⟩) h
def FitR (z : List Int) : Prop := (∀ n ∈ z, Fit n)/\z.length ≤ 4
theorem row_slash {z : List Int} (h : FitR z) : 47 ∉ (rowT z).cps.toList := by
  unfold rowT
  split
  · decide
  · intro hm
    rcases mem_join hm with e | ⟨p, hp, e⟩
    · revert e; decide
    · obtain ⟨n, hn, rfl⟩ := List.mem_map.mp hp
      have := num_signs (h.1 n hn) 47 e
      omega
theorem row_digit {z : List Int} (h : FitR z) (h0 : z ≠ []) : ∃ c ∈ (rowT z).cps.toList, 48 ≤ c := by
  obtain ⟨n, hn⟩ := List.exists_mem_of_ne_nil _ h0
  obtain ⟨c, hc, c48⟩ := num_digit (h.1 n hn)
  refine ⟨c, ?_, c48⟩
  unfold rowT
  rw [if_neg h0]
  exact join_mem (List.mem_map.mpr ⟨n, hn, rfl⟩) hc
theorem row_some {z : List Int} (h : FitR z) : ∃ c ∈ (rowT z).cps.toList, 46 ≤ c := by
  by_cases h0 : z = []
  · subst h0; exact ⟨46, by decide, by decide⟩
  · obtain ⟨c, hc, h1⟩ := row_digit h h0
    exact ⟨c, hc, by omega⟩
theorem row_dot {z : List Int} (h : FitR z) (h0 : z ≠ []) : rowT z ≠ sD := fun e => by
  obtain ⟨c, hc, h1⟩ := row_digit h h0
  rw [e] at hc
  have : c = 46 := by simpa [sD] using hc
  omega
theorem split_row {z : List Int} (h : FitR z) (h0 : z ≠ []) : Txt.split (rowT z) sB = z.map num := by
  unfold rowT
  rw [if_neg h0]
  refine split_join (m := 0) (c := 32) rfl (fun i hi => absurd hi (by omega)) (by decide +kernel) (by simpa using h0) fun p hp hm => ?_
  obtain ⟨n, hn, rfl⟩ := List.mem_map.mp hp
  have := num_signs (h.1 n hn) 32 hm
  omega
theorem row_len {z : List Int} (h : FitR z) : (rowT z).length ≤ 248 := by
  unfold rowT
  split
  · show 1 ≤ 248; decide
  · have h1 := StrLaws.join_length_le sB (z.map num)
    have h2 := sumLen_le (B := 61) (z.map num) fun y hy => by
      obtain ⟨n, hn, rfl⟩ := List.mem_map.mp hy
      exact num_len (h.1 n hn)
    rw [List.length_map] at h1 h2
    have h3 : sB.length = 1 := rfl
    rw [h3] at h1
    have h4 := h.2
    omega
theorem join_ok {sep : Str} {ps : List Str} {B : Nat} (hB : ∀ y ∈ ps, y.length ≤ B) (h : ps.length * B + ps.length * sep.length ≤ 16777216) : JoinOk sep ps = true := by
  unfold JoinOk
  rw [joinFits hB h]; rfl
theorem joinOk_row {z : List Int} (h : FitR z) : JoinOk sB (z.map num) = true := by
  refine join_ok (B := 61) (fun y hy => ?_) ?_
  · obtain ⟨n, hn, rfl⟩ := List.mem_map.mp hy
    exact num_len (h.1 n hn)
  · rw [List.length_map, show sB.length = 1 from rfl]; have := h.2; omega
theorem join_snoc (sep z : Str) : ∀ {ps : List Str}, ps ≠ []->Str.join sep (ps ++ [z]) = Str.join sep ps ++ sep ++ z
  | [], h => absurd rfl h
  | [p], _ => rfl
  | p :: q :: r, _ => by
    show p ++ sep ++ Str.join sep ((q :: r) ++ [z]) = p ++ sep ++ Str.join sep (q :: r) ++ sep ++ z
    rw [join_snoc sep z (by simp)]
    simp only [Str.append_assoc]
end Tw
namespace Tw
open PySem L2 PySem.StrLaws
end Tw
namespace L2
open PySem PySem.Spec PyProof.Rows
theorem note_any {M : Model} {A : Around} {E : Value->Shared->Prop} {s : Shared} {base : Heap} {env : Env} {outer : List Env} {L e T : Addr} {oe oT : Obj} {vs ts : Array Value} {v3 : Value} {Q : Unit->Shared->Prop} (hfr : A.frames = some (env :: outer)) (hl : s.heap.FunFrames base (env :: outer)) (hf : env.frame = some L) (he : s.heap.get? e = some oe) (hd : oe.data = .fields vs) (h1 : vs[1]? = some (.ref T)) (hnT : base.get? T = none) (hTe : T ≠ e) (hT : s.heap.get? T = some oT) (hdT : oT.data = .fields ts) (h3 : ts[3]? = some v3) (hkb : base.StaysIn s.heap) (hen : base.get? e = none) (h : ∀ (h' : Heap) (T' : Addr) (oe' oT' : Obj) (vs' ts' : Array Value) (v' : Value), (T' = T ∨ s.heap.get? T' = none)->base.StaysIn h'->h'.get? e = some oe'->oe'.cls = oe.cls->oe'.data = .fields vs'->vs'[1]? = some (.ref T')->T' ≠ e->h'.get? T' = some oT'->oT'.data = .fields ts'->ts'[3]? = some v'->(∀ b o, s.heap.get? b = some o->(∀ vs, o.data ≠ .fields vs)->∃ sl, h'.get? b = some { o with slots := sl })->Q () { s with heap := h' }) : wpAny M A (noteFrame (.ref e) env) Q E s := by
  have l3 := (Array.getElem?_eq_some_iff.mp h3).1
  have l1 := (Array.getElem?_eq_some_iff.mp h1).1
  have oth : ∀ b, b ≠ T->(s.heap.update T (Obj.mapFields (·.setIfInBounds 3 Value.none))).get? b = s.heap.get? b := fun b hb => Heap.get?_update_other _ _ (Ne.symm hb)
  have nrec : ∀ b o, s.heap.get? b = some o->(∀ vs, o.data ≠ .fields vs)->b ≠ T := fun b o hb hnf q => by
    rw [q, hT] at hb; cases hb; exact hnf ts hdT
  have nree : ∀ b o, s.heap.get? b = some o->(∀ vs, o.data ≠ .fields vs)->b ≠ e := fun b o hb hnf q => by
    rw [q, he] at hb; cases hb; exact hnf vs hd
  have nb : ∀ b o, base.get? b = some o->b ≠ T := fun b o hb q => by rw [q, hnT] at hb; cases hb
  have nbe : ∀ b o, base.get? b = some o->b ≠ e := fun b o hb q => by rw [q, hen] at hb; cases hb
  unfold noteFrame
  simp only [hf]
  refine wpAny_bind (wpAny_field he hd h1 ?_)
  rw [if_pos (show (Value.ref T != Value.none) = true from by simp)]
  refine wpAny_bind (wpAny_field hT hdT h3 ?_)
  by_cases hv : (v3 == rawInt L) = true
  · rw [if_pos hv]
    exact wpAny_pure (h s.heap T oe oT vs ts v3 (.inl rfl) hkb he rfl hd h1 hTe hT hdT h3 fun b o hb _ => ⟨o.slots, hb⟩)
  · rw [if_neg hv]
    refine wpAny_bind (wpAny_setField hT hdT l3 ?_)
    have hl2 : (s.heap.update T (Obj.mapFields (·.setIfInBounds 3 Value.none))).FunFrames base (env :: outer) := hl.of_keeps fun b o hb hnf => ⟨o, (oth b (nrec b o hb hnf)).trans hb, rfl⟩
    have he2 := (oth e (Ne.symm hTe)).trans he
    have nfr : ∀ b ∈ (env :: outer).filterMap (·.frame), b ≠ e/\base.get? b = none := fun b hb => by
      obtain ⟨z, o, ho, hnf⟩ := hl.mem hb
      exact ⟨nree b o ho hnf, z⟩
    generalize hg : s.heap.update T (Obj.mapFields (·.setIfInBounds 3 Value.none)) = ha at hl2 he2 oth
    refine wpAny_bind (wpAny_frameOf_fun (s := { s with heap := ha }) hfr hl2 hf fun hb sl => ?_)
    refine wpAny_bind (wpAny_entryPlaceOf fun pl hpl => ?_)
    unfold EntryCells.newEntry newFields
    refine wpAny_bind (wpAny_newObj_type ?_ (hpl.sizeOk5 _ _ _ _ _))
    have heb : hb.get? e = some oe := (sl.2.1 e fun z => (nfr e z).1 rfl).trans he2
    generalize hob : ({ cls := .type "traceback", dict := none, data := .fields ([Value.ref T, .ref L, .none, rawInt L, .none] ++ (if pl.isEmpty then List.replicate 6 Value.none else pl)).toArray } : Obj) = ob
    have hec := Heap.get?_push_of_some (h := hb) ob heb
    refine wpAny_setField hec hd l1 ?_
    have nTe : hb.objs.size ≠ e := Nat.ne_of_gt (Heap.lt_size heb)
    have hd3 := Obj.data_mapFields hd (·.setIfInBounds 1 (Value.ref hb.objs.size))
    have kp : ∀ b o, b ≠ e->hb.get? b = some o->((hb.push ob).update e (Obj.mapFields (·.setIfInBounds 1 (Value.ref hb.objs.size)))).get? b = some o := fun b o n q => by
      rw [Heap.get?_update_other _ _ (Ne.symm n)]; exact Heap.get?_push_of_some _ q
    have hfree : ob.isFreed = false := by rw [← hob]; rfl
    refine h _ hb.objs.size _ ob _ _ _ (.inr ?_) (fun b o q => ?_) (Heap.get?_update_self _ hec (Obj.isFreed_of_fields hd3)) (Obj.cls_mapFields _ _) hd3 (by simp [l1]) nTe ?_ (by rw [← hob]) (show _ = some (rawInt L) from ?_) fun b o q hnf => ?_
    · cases z : s.heap.get? hb.objs.size with
      | none => rfl
      | some o =>
        have : s.heap.objs.size = hb.objs.size := by rw [sl.1]; show _ = ha.objs.size; rw [← hg, Heap.size_after_update]
        exact absurd (Heap.lt_size z) (by rw [this]; exact Nat.lt_irrefl _)
    · exact kp b o (nbe b o q) ((sl.2.1 b fun z => by rw [(nfr b z).2] at q; cases q).trans ((oth b (nb b o q)).trans (hkb b o q)))
    · rw [Heap.get?_update_other _ _ (Ne.symm nTe)]; exact Heap.get?_push_size hb hfree
    · simp
    · obtain ⟨s1, q1⟩ := sl.2.2 b o ((oth b (nrec b o q hnf)).trans q)
      exact ⟨s1, kp b _ (nree b o q hnf) q1⟩
theorem note_like {e : Value} {env cenv : Env} (h : cenv.frame = env.frame) : noteFrame e cenv = noteFrame e env := by
  unfold noteFrame PySem.frameOf
  rw [h]
theorem Un.flownX {P : Program} {w : World} {fs ex hid : List Addr} {H H' : Hp} {h h1 h2 : Heap} (u : Un fs ex H H' h h1) (hok : HOk P w H' h1) (hh : ∀ b ∈ hid, ((h.get? b = none ∨ b ∈ ex)/\H' b = none) ∨ (b ∈ fs/\H' b = none)) (hf : ∀ b ∈ fs, ∃ o, h1.get? b = some o/\∀ vs, o.data ≠ .fields vs) (kp : ∀ b, b ∉ hid->∀ o, h1.get? b = some o->h2.get? b = some o) (sl : ∀ b ∈ fs, ∀ o, h1.get? b = some o->∃ l, h2.get? b = some { o with slots := l }) : Un fs ex H H' h h2/\HOk P w H' h2 := by
  have old : ∀ b o, h.get? b = some o->b ∉ fs->b ∉ ex->b ∉ hid := fun b o e nb nx hb => by
    rcases hh b hb with ⟨z | z, _⟩ | ⟨z, _⟩
    · rw [e] at z; cases z
    · exact nx z
    · exact nb z
  have trk : ∀ b v, H' b = some v->b ∉ hid := fun b v e hb => by
    rcases hh b hb with ⟨_, z⟩ | ⟨_, z⟩
    · rw [z] at e; cases e
    · rw [z] at e; cases e
  refine ⟨⟨fun b o e n nb nx => kp b (old b o e nb nx) o (u.keep b o e n nb nx), fun b o e n nb nx => ?_, u.free, fun b o e nx => ?_, u.tups, u.frzs, u.tbls⟩, fun a o e => ?_⟩
  · obtain ⟨l1, z⟩ := u.slot b o e n nb nx
    obtain ⟨l2, z2⟩ := sl b nb _ z
    exact ⟨l2, z2⟩
  · by_cases hb : b ∈ fs
    · obtain ⟨o', z', nd⟩ := hf b hb
      obtain ⟨l2, z2⟩ := sl b hb _ z'
      exact ⟨_, z2⟩
    · obtain ⟨o', z'⟩ := u.there b o e nx
      exact ⟨o', kp b (old b o e hb nx) o' z'⟩
  · refine (hok a o e).stay (fun b v hb z => kp b ?_ v z) (fun _ z => z) fun _ _ _ z => z
    rcases hb with rfl | hb
    · exact trk _ _ e
    · exact trk _ _ hb
def FlyC (new : Addr->Prop) (H : Hp) (h : Heap) (x : Addr) (C : Value) : Prop :=
  ∃ oe vs T oT ts v3, new x/\H x = none/\h.get? x = some oe/\oe.cls = C/\oe.data = .fields vs/\vs[1]? = some (.ref T)/\T ≠ x/\new T/\H T = none/\h.get? T = some oT/\oT.data = .fields ts/\ts[3]? = some v3
def compXe (X : Cx) (E : XK) (scope : Scope) (cl : List (Str × Addr)) (M : List Str) (s : Shared) (H : Hp) (fp : List Addr) : Value->Shared->Prop := fun e s' =>
  ∃ x C H' pl τ, e = .ref x/\Inv (compOf X scope cl M s H fp) pl τ H' s'/\FlyC (fun b => s.heap.get? b = none ∨ b ∈ fp) H' s'.heap x C/\E C none H'
abbrev compX (X : Cx) (E : XK) (scope : Scope) (cl : List (Str × Addr)) (M : List Str) (s : Shared) (H : Hp) (fp : List Addr) : Cx := (compOf X scope cl M s H fp).wish (compXe X E scope cl M s H fp)
theorem compX_passes {X : Cx} {E : XK} {scope : Scope} {cl : List (Str × Addr)} {M : List Str} {s : Shared} {H : Hp} {fp : List Addr} : Passes (CXE X.prog X.w) (compX X E scope cl M s H fp) E := by
  intro pins σ H1 s1 e s' I h
  obtain ⟨a, C, H', rfl, os, bare, un, hok, f, q⟩ := h
  have I1 : Inv (compOf X scope cl M s H fp) pins σ H1 s1 := I.unwish
  have I' := I1.call' (s' := s') (ch := []) os un hok bare (fun b z => absurd z (by simp))
  have nw : ∀ b, s1.heap.get? b = none->s.heap.get? b = none ∨ b ∈ fp := fun b e => by
    by_cases hb : b ∈ fp
    · exact .inr hb
    · left
      cases z : s.heap.get? b with
      | none => rfl
      | some o =>
        obtain ⟨o', z'⟩ := I1.base.there b o z hb
        rw [e] at z'; cases z'
  obtain ⟨oe, vs, T, oT, ts, f1, f2, f3, f4, f5, f6, f7, f8, f9, f10, f11, f12⟩ := f
  exact ⟨a, C, H', pins, σ, rfl, I', ⟨oe, vs, T, oT, ts, .none, nw a f1, f2, f3, f4, f5, f6, f7, nw T f8, f9, f10, f11, f12⟩, q⟩
theorem compLoop_anyX {prog : Program} {w : World} {A : Around} {R : Result->Shared->Prop} {s : Shared} {elt target iter : Expr} {ifs : List Expr} {scope : Scope} {pos : Pos} {it acc : Value} {env : Env} (I : Nat->Shared->Prop) (Z : Value->Shared->Prop)
    (hZ : ∀ x s', Z x s'->notedBy (model prog w) A env (fun x s' => R (.error x) s') x s')
    (turn : ∀ n s, I n s->wpAny (model prog w) A (pyNext it) (fun r s₁ => match r with
      | none => R (.ok .next) s₁
      | some v => wpAny (model prog w) A (letOwnedTupleGo target it v) (fun _ s₀ => wpAny (model prog w) A (assign target env v) (fun _ s₂ =>
          wpAny (model prog w) A (forIn ifs true fun c r => if r = true then do let ok ← isTrue c env (eval c env); pure (ForInStep.yield ok) else pure (ForInStep.yield r)) (fun ok s₃ =>
            if ok = true then wpAny (model prog w) A (eval elt env) (fun x s₄ =>
              wpAny (model prog w) A (call (.builtin "list.append") [acc, x]) (fun _ s₅ => ∃ m, m < n/\I m s₅) Z s₄) Z s₃
            else ∃ m, m < n/\I m s₃) Z s₂) Z s₀) Z s₁) Z s)
    (n : Nat) (h : I n s) :
    codeAny (model prog w) A (.compLoop (.ListComp elt [⟨target, iter, ifs, 0⟩] scope pos) 0 it acc env) R s := by
  refine codeAny_loop rfl I (fun n s hI => ?_) n h
  show wpAny _ A ((compTurn (.ListComp elt [⟨target, iter, ifs, 0⟩] scope pos) 0 it acc env).onRaise (fun x => do noteFrame x env; theTreesLotGoes x)) _ _ s
  refine wpAny_noted ?_
  rw [compTurn_list]
  refine wpAny_bind (wpAny_standAt (wpAny_bind (wpAny_mono (turn n s hI) (fun r s₁ h₁ => ?_) fun _ _ h' => hZ _ _ h')))
  cases r with
  | none => exact wpAny_pure h₁
  | some v =>
    refine wpAny_bind (wpAny_mono h₁ (fun _ s₀ h₀ => ?_) fun _ _ h' => hZ _ _ h')
    refine wpAny_bind (wpAny_mono h₀ (fun _ s₂ h₂ => wpAny_bind (wpAny_mono h₂ (fun ok s₃ h₃ => ?_) fun _ _ h' => hZ _ _ h')) fun _ _ h' => hZ _ _ h')
    cases ok with
    | false => exact wpAny_pure ⟨rfl, h₃⟩
    | true =>
      exact wpAny_bind (wpAny_bind (wpAny_mono h₃ (fun x s₄ h₄ => wpAny_bind (wpAny_mono h₄ (fun _ s₅ h₅ => wpAny_pure (wpAny_pure ⟨rfl, h₅⟩)) fun _ _ h' => hZ _ _ h')) fun _ _ h' => hZ _ _ h'))
section
variable {X : Cx} {elt iter : Expr} {ifs : List Expr} {scope : Scope} {pos px : Pos} {x : Str} {wi : TI} {tf : TT} {te : TE}
theorem comp_turnsX {Y : Cx} {pins : List (Addr × Obj)} {σ : St} {H2 : Hp} {s : Shared} {it D : Addr} {fp : List Addr} {tn : Nat->Heap->Prop} {J : It} {R : Result->Shared->Prop} {Q : Hp->Prop} {n : Nat} (hc : Y.calm = true) (hZ : ∀ x s', Y.xe x s'->notedBy (model Y.prog Y.w) Y.A Y.env (fun x s' => R (.error x) s') x s') (hN : Y.N.Nodup) (hσ : σ.length = n) (hx : Y.N[n]? = some x) (hl : Loc Y.env.scope x) (hf : Y.fn x = true ∨ Y.env.scope.names.lookup x = some .local) (T : Turn Y.prog Y.w Y.K (.Name x px) J fp it tn) (f2 : ∀ b ∈ fp, FpOk Y pins H2 b) (st2 : tn 0 s.heap) (I2 : Inv Y pins (σ ++ [none]) H2 s) (hif : PF Y ifs tf) (hel : PE Y elt te) (W : Nat->Nat->List V->Hp->Prop) (w0 : ∃ m, W 0 m [] H2) (turn : ∀ i m ys H2, W i m ys H2->H2 D = some (.lst ys)/\((J.stop i H2/\Q H2) ∨ (J.go i H2/\∃ N : List V->Hp->Prop, (∀ ys' H', N ys' H'->∃ m', m' < m/\W (i + 1) m' ys' H')/\∀ y H3, J.yld i H2 y H3->tf (σ ++ [some y]) H3 fun c H4 => if c = true then te (σ ++ [some y]) H4 fun z H5 => H5 D = some (.lst ys)/\ys.length < sizeLine/\N (ys ++ [z]) (upd H5 D (.lst (ys ++ [z]))) else N ys H4))) (hR : ∀ H' s', Inv Y pins (σ ++ [none]) H' s'->Q H'->R (.ok .next) s') : codeAny (model Y.prog Y.w) Y.A (.compLoop (.ListComp elt [⟨.Name x px, iter, ifs, 0⟩] scope pos) 0 (.ref it) (.ref D) Y.env) R s := by
  have stat : ∀ {H' : Hp}, (∀ b ∈ fp, H' b = none)->∀ b ∈ fp, FpOk Y pins H' b := fun hn b hb => ⟨hn b hb, (f2 b hb).2⟩
  obtain ⟨m0, w0⟩ := w0
  refine compLoop_anyX (fun k s' => ∃ i ys H', Inv Y pins (σ ++ [none]) H' s'/\tn i s'.heap/\(∀ b ∈ fp, H' b = none)/\W i k ys H') Y.xe hZ ?_ m0 ⟨0, [], H2, I2, st2, fun b hb => (f2 b hb).1, w0⟩
  rintro k s3 ⟨i, ys, H3, I3, st3, fr3, w3⟩
  obtain ⟨hD, hcase⟩ := turn i k ys H3 w3
  rcases hcase with ⟨stop, q⟩ | ⟨go, N, hN', step⟩
  · refine thn (T.done Y rfl rfl rfl hc i pins s3 _ H3 _ I3 (stat fr3) st3 stop) fun r s4 ⟨hr, I4⟩ => ?_
    subst hr
    exact hR H3 s4 I4 q
  · refine thn (T.item Y rfl rfl rfl hc i pins s3 _ H3 _ I3 (stat fr3) st3 go) fun r s4 ⟨u, hr, h4⟩ => ?_
    subst hr
    refine thn h4 fun _ s5 ⟨y, H5, I5, r5, y5, st5, fr5⟩ => ?_
    have I5' := I5.pinned (stat fr5) (T.obj _ _ st5)
    have hset : (σ ++ [none]).set n (some y) = σ ++ [some y] := by
      rw [List.set_append_right _ _ (by omega)]
      rw [hσ, Nat.sub_self]; rfl
    refine wpAny_assign_Name (store_ok I5' hN hx hl r5 (fun s6 I6 => ?_) hf)
    rw [hset] at I6
    refine thn (hif _ s6 _ H5 _ I6 (step y H5 y5)) fun c s7 ⟨H7, I7, q7⟩ => ?_
    have back : ∀ {s' : Shared} {ys' : List V} {H' : Hp}, Inv Y (pins ++ pinsAt fp s5.heap) (σ ++ [some y]) H' s'->N ys' H'->∃ m, m < k/\∃ i ys H', Inv Y pins (σ ++ [none]) H' s'/\tn i s'.heap/\(∀ b ∈ fp, H' b = none)/\W i m ys H' := fun {s' ys' H'} I' n' => by
      obtain ⟨m', hm, w'⟩ := hN' ys' H' n'
      refine ⟨m', hm, i + 1, ys', H', I'.unpinned.weak (by simp) (fun j v e => ?_), T.keep _ _ _ st5 fun b hb o e => (I'.pin (b, o) (List.mem_append_right _ (List.mem_append_right _ (mem_pinsAt hb e)))).1, fun b hb => ?_, w'⟩
      · by_cases hj : j < σ.length
        · rw [List.getElem?_append_left hj] at e ⊢; exact e
        · rw [List.getElem?_append_right (by omega)] at e
          cases hjj : j - σ.length with
          | zero => rw [hjj] at e; cases e
          | succ t => rw [hjj] at e; simp at e
      · obtain ⟨o, e, d⟩ := T.obj _ _ st5 b hb
        exact (I'.pin (b, o) (List.mem_append_right _ (List.mem_append_right _ (mem_pinsAt hb e)))).2.1
    cases c with
    | false =>
      rw [if_neg Bool.false_ne_true] at q7 ⊢
      exact back I7 q7
    | true =>
      rw [if_pos rfl] at q7 ⊢
      refine thn (hel _ s7 _ H7 _ I7 q7) fun v s8 ⟨z, H8, I8, r8, hD8, hl8, n8⟩ => ?_
      have mt : MtM Y "list.append" rAppend := mt_append
      exact thn (mt _ s8 _ H8 (.ref D) [z] (.ref D) [v] (fun _ H' => N (ys ++ [z]) H') I8 rfl (.cons r8 .nil) ⟨D, ys, z, rfl, rfl, hD8, hl8, n8⟩) fun _ s9 ⟨_, H9, I9, _, n9⟩ => back I9 n9
theorem get_beyond {h : Heap} {b : Addr} (hb : h.objs.size ≤ b) : h.get? b = none := by
  cases z : h.get? b with
  | none => rfl
  | some o => exact absurd (Heap.lt_size z) (Nat.not_lt.mpr hb)
theorem comp_flown {E : XK} {M : List Str} {pins : List (Addr × Obj)} {σ : St} {H3 : Hp} {s3 : Shared} {fp : List Addr} {cl : List (Str × Addr)} {use : Option (Value->Sem Unit)} {Z : Value->Shared->Prop} {acc e : Value} {s' : Shared} (hx : XE X E) (hX : X.ex = []) (hst : X.stack = X.env :: X.outer) (hlf : X.env.frame = some X.env.locals) (I3 : Inv X pins σ H3 s3) (f3 : ∀ b ∈ fp, FpOk X pins H3 b) (h : compXe X E scope cl M s3 H3 fp e s') : notedBy (model X.prog X.w) X.A (compOf X scope cl M s3 H3 fp).env (fun x s' => compPost (model X.prog X.w) X.A X.xe use Z acc s3.heap.objs.size (.error x) s') e s' := by
  obtain ⟨x, Cc, H', pl, τ, rfl, J, ⟨oe, vs, T, oT, ts, v3, n1, n2, n3, n4, n5, n6, n7, n8, n9, n10, n11, n12⟩, q⟩ := h
  have JX := comp_back I3 f3 J
  have hfr : X.A.frames = some (X.env :: X.outer) := by rw [I3.ok.frames, hst]
  have nw : ∀ b, s'.heap.get? b = none->s3.heap.get? b = none ∨ b ∈ fp := fun b e => by
    by_cases hb : b ∈ fp
    · exact .inr hb
    · left
      cases z : s3.heap.get? b with
      | none => rfl
      | some o =>
        obtain ⟨o', z'⟩ := J.base.there b o z hb
        rw [e] at z'; cases z'
  have old : ∀ b, s3.heap.get? b = none ∨ b ∈ fp->X.s₀.heap.get? b = none := fun b hb => by
    rcases hb with z | z
    · exact I3.gone hX z
    · rcases (f3 b z).2.2.2.1 with y | y
      · rw [hX] at y; cases y
      · exact get_beyond y
  have stk : ∀ b ∈ frs X.stack, ∃ o, s'.heap.get? b = some o/\∀ vs, o.data ≠ .fields vs := fun b hb => (JX.stack.mem hb).2
  have hin : s'.heap.FunFrames (PySem.W.hideAll s'.heap (x :: T :: frs X.stack)) (X.env :: X.outer) := by
    refine PySem.W.funFrames_hide (hst ▸ JX.stack) fun env hm a ha => .tail _ (.tail _ ?_)
    rw [hst]
    exact List.mem_filterMap.mpr ⟨env, hm, ha⟩
  obtain ⟨m, hN, _⟩ := J.loc
  obtain ⟨oC, es, ep, hoC, hdC, hrC⟩ := hN
  have hoC : s'.heap.get? s3.heap.objs.size = some oC := hoC
  have cx : x ≠ s3.heap.objs.size := fun z => by rw [z, hoC] at n3; cases n3; rw [hdC] at n5; cases n5
  have cT : T ≠ s3.heap.objs.size := fun z => by rw [z, hoC] at n10; cases n10; rw [hdC] at n11; cases n11
  have cS : ∀ b ∈ frs X.stack, b ≠ s3.heap.objs.size := fun b hb z => by
    obtain ⟨o, ho, _⟩ := (I3.stack.mem hb).2
    exact absurd (Heap.lt_size ho) (by rw [z]; exact Nat.lt_irrefl _)
  have nC : s3.heap.objs.size ∉ x :: T :: frs X.stack := fun z => by
    rcases List.mem_cons.mp z with z | z
    · exact cx z.symm
    · rcases List.mem_cons.mp z with z | z
      · exact cT z.symm
      · exact cS _ z rfl
  show wpAny _ _ (noteFrame (.ref x) (compOf X scope cl M s3 H3 fp).env) _ _ s'
  rw [note_like (env := X.env) (cenv := (compOf X scope cl M s3 H3 fp).env) rfl]
  refine note_any (base := PySem.W.hideAll s'.heap (x :: T :: frs X.stack)) hfr hin hlf n3 n5 n6 (PySem.W.hideAll_none _ (.tail _ (.head _))) n7 n10 n11 n12 (fun b o z => PySem.W.of_hideAll _ z) (PySem.W.hideAll_none _ (.head _)) fun h1 T' oe' oT' vs' ts' v' t0 kp1 e1 e2 e3 e4 e5 e6 e7 e8 sl1 => ?_
  have hC1 := kp1 _ _ (PySem.W.hideAll_get _ hoC nC)
  have cT' : T' ≠ s3.heap.objs.size := fun z => by rw [z, hC1] at e6; cases e6; rw [hdC] at e7; cases e7
  have newT' : (s3.heap.get? T' = none ∨ T' ∈ fp)/\H' T' = none := by
    rcases t0 with z | z
    · rw [z]; exact ⟨n8, n9⟩
    · exact ⟨nw T' z, J.hok.untracked z⟩
  have out : ∃ m, h1.Ns s3.heap.objs.size m/\∀ h2, Heap.SameBut s3.heap.objs.size h1 h2->∀ cenv : Env, cenv.locals = s3.heap.objs.size->wpAny (model X.prog X.w) X.A (PySem.passOn "comprehension.variables-let-go" (.ref x) cenv : Sem Value) (fun _ _ => False) X.xe { s' with heap := h2 } := by
    refine ⟨m, ⟨oC, es, ep, hC1, hdC, hrC⟩, fun h2 hs2 cenv _ => ?_⟩
    have ex2 : h2.get? x = some oe' := (hs2.2 x cx).trans e1
    have eT2 : h2.get? T' = some oT' := (hs2.2 T' cT').trans e6
    have l8 := (Array.getElem?_eq_some_iff.mp e8).1
    unfold PySem.passOn
    refine wpAny_bind (wpAny_field (s := { s' with heap := h2 }) ex2 e3 e4 ?_)
    rw [if_neg (show ¬ ((Value.ref T' == Value.none) = true) from by simp)]
    unfold setFlight
    refine wpAny_bind (wpAny_bind (wpAny_field (s := { s' with heap := h2 }) ex2 e3 e4 ?_))
    rw [if_pos (show (Value.ref T' != Value.none) = true from by simp)]
    refine wpAny_setField (s := { s' with heap := h2 }) eT2 e7 l8 ?_
    generalize hv : (cenv.frame.elim Value.none fun f => rawInt f) = vn
    have hd3 := Obj.data_mapFields e7 (·.setIfInBounds 3 vn)
    have oth : ∀ b, b ≠ T'->(h2.update T' (Obj.mapFields (·.setIfInBounds 3 vn))).get? b = h2.get? b := fun b hb => Heap.get?_update_other _ _ (Ne.symm hb)
    have eT3 := Heap.get?_update_self (Obj.mapFields (·.setIfInBounds 3 vn)) eT2 (Obj.isFreed_of_fields hd3)
    generalize h2.update T' (Obj.mapFields (·.setIfInBounds 3 vn)) = h3 at oth eT3
    refine wpAny_throw ?_
    obtain ⟨u', hok'⟩ := J.base.flownX J.hok (hid := x :: T :: T' :: s3.heap.objs.size :: frs X.stack) (h2 := h3) (fun b hb => by
        rcases List.mem_cons.mp hb with rfl | z
        · exact .inl ⟨n1, n2⟩
        · rcases List.mem_cons.mp z with rfl | z
          · exact .inl ⟨n8, n9⟩
          · rcases List.mem_cons.mp z with rfl | z
            · exact .inl newT'
            · rcases List.mem_cons.mp z with rfl | z
              · exact .inl ⟨.inl (get_beyond (Nat.le_refl _)), J.free⟩
              · exact .inr ⟨z, JX.stkFree b z⟩) stk (fun b nb o z => by
        have b1 : b ≠ s3.heap.objs.size := fun y => nb (by rw [y]; simp)
        have b2 : b ≠ T' := fun y => nb (by rw [y]; simp)
        have b3 : b ∉ x :: T :: frs X.stack := fun y => nb (by
          rcases List.mem_cons.mp y with y | y
          · rw [y]; simp
          · rcases List.mem_cons.mp y with y | y
            · rw [y]; simp
            · simp [y])
        rw [oth b b2, hs2.2 b b1]
        exact kp1 b o (PySem.W.hideAll_get _ z b3)) (fun b hb o z => by
        obtain ⟨o', z', nf⟩ := stk b hb
        rw [z] at z'; cases z'
        obtain ⟨l, z2⟩ := sl1 b o z nf
        have b2 : b ≠ T' := fun y => by rw [y, e6] at z2; cases z2; exact nf _ e7
        exact ⟨l, by rw [oth b b2, hs2.2 b (cS b hb)]; exact z2⟩)
    have If : Inv X pins σ H' { s' with heap := h3 } := I3.call' (s' := { s' with heap := h3 }) (ch := fp) J.os u' hok' J.bare fun b hb => let ⟨_, g1, _, g3, g4, g5⟩ := f3 b hb; ⟨g3, g1, g4, g5⟩
    refine hx pins σ H' _ x Cc If ⟨oe', vs', .ref T', old x n1, n2, (oth x (Ne.symm e5)).trans ex2, e2.trans n4, e3, e4, .inr ⟨T', _, _, vn, rfl, e5, old T' newT'.1, newT'.2, eT3, hd3, by simp [l8]⟩⟩ q
  cases use <;> exact out
theorem comp_coreX {E : XK} {M : List Str} {scN : List (Str × NameKind)} {pins : List (Addr × Obj)} {s : Shared} {σ : St} {H : Hp} {use : Option (Value->Sem Unit)} {Z : Value->Shared->Prop} {G : VK} {pos2 : Pos} (hxE : XE X E) (hX : X.ex = []) (hst : X.stack = X.env :: X.outer) (hlf : X.env.frame = some X.env.locals) (S : CompS scN X.N M x scope) (hsc : X.env.scope.names = scN) (hc : X.calm = true) (hi : PI X (.Name x px) iter wi) (hif : ∀ cl s H fp, PF (compX X E scope cl M s H fp) ifs tf) (hel : ∀ cl s H fp, PE (compX X E scope cl M s H fp) elt te) (hs : ∀ v, foldedSetIterable iter X.env v = pure v) (I : Inv X pins σ H s) (h : tComp wi tf te σ H G) (fin : ∀ (s3 : Shared) (H3 : Hp) (fp : List Addr) (cl : List (Str × Addr)) (D : Addr) (H' : Hp) (s' : Shared), Inv X pins σ H3 s3->(∀ b ∈ fp, FpOk X pins H3 b)->Inv (compOf X scope cl M s3 H3 fp) pins (σ ++ [none]) H' s'->G (.ref D) H'->compPost (model X.prog X.w) X.A X.xe use Z (.ref D) s3.heap.objs.size (.ok .next) s') : wpAny (model X.prog X.w) X.A (comprehension (.ListComp elt [⟨.Name x px, iter, ifs, 0⟩] scope pos) scope X.env pos2 (newList []) false (eval iter X.env) use) Z X.xe s := by
  obtain ⟨cl, hclo, hcl1, hcl2⟩ := closure_ok (scope := scope) (env := X.env) fun p hp hf => I.ok.has p.1 (by have q := S.fr p hp hf; rw [← hsc] at q; exact q)
  refine wpAny_comprehension_free rfl hs hclo S.kind (fun y hy hl => by rw [lookup_of_mem S.keys hy, hl]) (thn (hi pins s σ H _ I h) fun v s1 h1 => thn h1 fun itv s2 h2 => ?_)
  obtain ⟨it, fp, tn, J, H2, e, I2, T, st2, f2, q⟩ := h2
  subst e
  refine wpAny_newObj_type ?_
  have fr : H2 s2.heap.objs.size = none := I2.hok.fresh (Nat.le_refl _)
  have I3 : Inv X pins σ (upd H2 s2.heap.objs.size (.lst [])) { s2 with heap := s2.heap.push { cls := .type "list", dict := none, data := .seq ([] : List Value).toArray } } :=
    I2.laid (t' := s2.toks) (fun b u e => Heap.get?_push_of_some _ e) (Nat.le_refl _) ⟨Nat.zero_le _, [], 0, .nil, Heap.get?_push_size _ rfl⟩
  obtain ⟨W, w0, turn⟩ := q s2.heap.objs.size fr
  have hlt2 : ∀ b ∈ fp, b < s2.heap.objs.size := fun b hb => let ⟨o, e, _⟩ := T.obj 0 _ st2 b hb; Heap.lt_size e
  have f3 : ∀ b ∈ fp, FpOk X pins (upd H2 s2.heap.objs.size (.lst [])) b := fun b hb => ⟨by rw [upd_ne (Nat.ne_of_lt (hlt2 b hb))]; exact (f2 b hb).1, (f2 b hb).2⟩
  refine newEnv_comp fun h4 hns hk hcell cenv hcenv hloc => ?_
  rw [hcenv, hloc]
  have hlt3 : ∀ b ∈ fp, b < ({ s2 with heap := s2.heap.push { cls := .type "list", dict := none, data := .seq ([] : List Value).toArray } } : Shared).heap.objs.size := fun b hb => by
    show b < (s2.heap.push _).objs.size
    rw [Heap.size_push]; exact Nat.lt_succ_of_lt (hlt2 b hb)
  have J4 := comp_start I3 S hsc hcl1 hcl2 f3 hlt3 hns hk hcell
  have st4 : tn 0 h4 := T.keep 0 _ _ st2 fun b hb o e => hk b o (Heap.get?_push_of_some _ e)
  have f4 : ∀ b ∈ fp, FpOk (compOf X scope cl M { s2 with heap := s2.heap.push { cls := .type "list", dict := none, data := .seq ([] : List Value).toArray } } (upd H2 s2.heap.objs.size (.lst [])) fp) pins (upd H2 s2.heap.objs.size (.lst [])) b := fun b hb =>
    ⟨(f3 b hb).1, (J4.ok.exf b hb).1, J4.ok.exfs b hb, .inl hb, (J4.ok.exf b hb).2, (f3 b hb).2.2.2.2.2⟩
  have loc : Loc (relabel scope X.env) x/\((compOf X scope cl M { s2 with heap := s2.heap.push { cls := .type "list", dict := none, data := .seq ([] : List Value).toArray } } (upd H2 s2.heap.objs.size (.lst [])) fp).fn x = true ∨ (relabel scope X.env).names.lookup x = some .local) := by
    rcases S.own with z | z
    · have q := lookup_relabel_local (env := X.env) z
      exact ⟨.inl q, .inr q⟩
    · refine ⟨.inr ?_, .inl ?_⟩
      · exact lookup_relabel_cell z
      · show (scope.names.lookup x == some NameKind.cell) = true
        rw [z]; rfl
  have loop : ∀ s5 : Shared, s5 = { ({ s2 with heap := s2.heap.push { cls := .type "list", dict := none, data := .seq ([] : List Value).toArray } } : Shared) with heap := h4 } →
      codeAny (model X.prog X.w) X.A (.compLoop (.ListComp elt [⟨.Name x px, iter, ifs, 0⟩] scope pos) 0 (.ref it) (.ref s2.heap.objs.size) (compEnvC scope (cellsFrom (({ s2 with heap := s2.heap.push { cls := .type "list", dict := none, data := .seq ([] : List Value).toArray } } : Shared).heap.objs.size + 1) scope.names cl) ({ s2 with heap := s2.heap.push { cls := .type "list", dict := none, data := .seq ([] : List Value).toArray } } : Shared).heap.objs.size X.env))
        (compPost (model X.prog X.w) X.A X.xe use Z (.ref s2.heap.objs.size) ({ s2 with heap := s2.heap.push { cls := .type "list", dict := none, data := .seq ([] : List Value).toArray } } : Shared).heap.objs.size) s5 := by
    rintro s5 rfl
    exact comp_turnsX (Y := compX X E scope cl M { s2 with heap := s2.heap.push { cls := .type "list", dict := none, data := .seq ([] : List Value).toArray } } (upd H2 s2.heap.objs.size (.lst [])) fp)
      (Q := fun H' => G (.ref s2.heap.objs.size) H') hc (fun e s' z => comp_flown hxE hX hst hlf I3 f3 z) S.nd I.len S.last loc.1 loc.2 T f4 st4 (J4.wish _) (hif _ _ _ _) (hel _ _ _ _) W w0 turn fun H' s' J' g => fin _ _ fp cl _ H' s' I3 f3 J'.unwish g
  exact codeAny_compStart_list (loop _ rfl) (T.self _ 0 _ _ _ st4 (loop _ rfl))
theorem pe_compX {E : XK} (hxE : XE X E) (hX : X.ex = []) (hst : X.stack = X.env :: X.outer) (hlf : X.env.frame = some X.env.locals) (scN : List (Str × NameKind)) (N M : List Str) (hi : PI X (.Name x px) iter wi) (hif : ∀ cl s H fp, PF (compX X E scope cl M s H fp) ifs tf) (hel : ∀ cl s H fp, PE (compX X E scope cl M s H fp) elt te) (S : CompS scN N M x scope := by first | exact ⟨rfl, by decide +kernel, by decide +kernel, by decide +kernel, rfl, rfl, .inl rfl, by decide +kernel⟩ | exact ⟨rfl, by decide +kernel, by decide +kernel, by decide +kernel, rfl, rfl, .inr rfl, by decide +kernel⟩)
    (hN : X.N = N := by rfl) (hsc : X.env.scope.names = scN := by rfl) (hc : X.calm = true := by rfl) (hs : ∀ v, foldedSetIterable iter X.env v = pure v := by intro _; rfl) : PE X (.ListComp elt [⟨.Name x px, iter, ifs, 0⟩] scope pos) (tComp wi tf te) := by
  intro pins s σ H Q I h
  subst hN
  rw [eval_ListComp]
  refine comp_coreX (use := none) hxE hX hst hlf S hsc hc hi hif hel hs I h fun s3 H3 fp cl D H' s' I3 f3 J' g => ?_
  obtain ⟨m, hn, _⟩ := J'.loc
  exact ⟨m, hn, fun h' hs' => ⟨.ref D, H', comp_gone I3 (comp_back I3 f3 J') J'.free hs', rfl, g⟩⟩
end
end L2
namespace Tw
open PySem L2 PySem.StrLaws PySem.Builtin.Str PySem.NumText
def digB (c : Nat) : Bool := decide (48 ≤ c/\c ≤ 57)
def figB (cs : List Nat) : Bool := decide (cs ≠ []) && decide (cs.length ≤ 60) && cs.all digB && (decide (cs = [48]) || decide (cs[0]? ≠ some 48))
def numB (x : Str) : Bool := if x.cps.toList[0]? = some 45 then figB (x.cps.toList.drop 1) && decide (x.cps.toList.drop 1 ≠ [48]) else figB x.cps.toList
def valW (x : Str) : Int := (PySem.intText? x).getD 0
theorem figB_iff {cs : List Nat} : figB cs = true<->cs ≠ []/\cs.length ≤ 60/\AllDigits cs/\(cs = [48] ∨ cs[0]? ≠ some 48) := by
  unfold figB
  rw [Bool.and_eq_true, Bool.and_eq_true, Bool.and_eq_true, decide_eq_true_eq, decide_eq_true_eq, Bool.or_eq_true, decide_eq_true_eq, decide_eq_true_eq, List.all_eq_true, and_assoc, and_assoc]
  have e : (∀ x ∈ cs, digB x = true)<->AllDigits cs := forall_congr' fun c => imp_congr_right fun _ => by unfold digB; rw [decide_eq_true_eq]
  rw [e]
theorem num_text {x : Str} (h : numB x = true) : x.length ≤ 61/\PySem.intText? x = some (valW x)/\(∀ c ∈ x.cps.toList, c = 45 ∨ (48 ≤ c/\c ≤ 57))/\∃ c ∈ x.cps.toList, 48 ≤ c := by
  have lx := lenS x
  unfold numB at h
  by_cases h0 : x.cps.toList[0]? = some 45
  · rw [if_pos h0, Bool.and_eq_true] at h
    obtain ⟨ne, hl, hd, _⟩ := figB_iff.mp h.1
    have e : x.cps.toList = 45 :: x.cps.toList.drop 1 := by
      cases hc : x.cps.toList with
      | nil => rw [hc] at h0; cases h0
      | cons a t => rw [hc] at h0; cases h0; rfl
    have l61 : x.length ≤ 61 := by rw [List.length_drop] at hl; omega
    have hv := intText_neg e hd ne (by omega)
    refine ⟨l61, by unfold valW; rw [hv]; rfl, fun c hc => ?_, ?_⟩
    · rw [e] at hc
      rcases List.mem_cons.mp hc with q | q
      · exact .inl q
      · exact .inr (hd c q)
    · obtain ⟨c, hc⟩ := List.exists_mem_of_ne_nil _ ne
      exact ⟨c, List.mem_of_mem_drop hc, (hd c hc).1⟩
  · rw [if_neg h0] at h
    obtain ⟨ne, hl, hd, _⟩ := figB_iff.mp h
    have hv := intText_digits hd ne (by omega)
    refine ⟨by omega, by unfold valW; rw [hv]; rfl, fun c hc => .inr (hd c hc), ?_⟩
    obtain ⟨c, hc⟩ := List.exists_mem_of_ne_nil _ ne
    exact ⟨c, hc, (hd c hc).1⟩
def sSl : Str := ⟨#[47]⟩
theorem num_ne_dot {x : Str} (h : numB x = true) : x ≠ sD := fun e => by
  obtain ⟨_, _, h1, _⟩ := num_text h
  have := h1 46 (by rw [e]; decide)
  omega
theorem num_ne_slash {x : Str} (h : numB x = true) : x ≠ sSl := fun e => by
  obtain ⟨_, _, h1, _⟩ := num_text h
  have := h1 47 (by rw [e]; decide)
  omega
def stepL : List (List Int)->List Int->Bool->List Str->Option (List (List Int))
  | rows, _, _, [] => some rows
  | rows, row, d, w :: ws => if w = sSl then (if (row = []/\d = false) ∨ (row ≠ []/\d = true) then none else stepL (rows ++ [row]) [] false ws)
      else if w = sD/\d = false/\row = [] then stepL rows row true ws
      else if numB w = true then stepL rows (row ++ [valW w]) d ws else none
def okG (g : List Str) : Prop := g = [sD] ∨ (g ≠ []/\∀ w ∈ g, numB w = true)
def valG (g : List Str) : List Int := if g = [sD] then [] else g.map valW
def flat : List (List Str)->List Str
  | [] => []
  | g :: gs => g ++ sSl :: flat gs
theorem sD_sSl : sD ≠ sSl := by decide
theorem step_nums {rows : List (List Int)} {rest : List Str} : ∀ (g : List Str) (row : List Int), (∀ w ∈ g, numB w = true)->¬ (row = []/\g = [])->stepL rows row false (g ++ sSl :: rest) = stepL (rows ++ [row ++ g.map valW]) [] false rest
  | [], row, _, h => by
    have hr : row ≠ [] := fun e => h ⟨e, rfl⟩
    show stepL rows row false (sSl :: rest) = _
    rw [stepL, if_pos rfl, if_neg (by rintro (⟨a, _⟩ | ⟨_, b⟩); exact hr a; cases b), List.map_nil, List.append_nil]
  | w :: g, row, hg, _ => by
    have hw := hg w List.mem_cons_self
    show stepL rows row false (w :: (g ++ sSl :: rest)) = _
    rw [stepL, if_neg (num_ne_slash hw), if_neg (fun q => num_ne_dot hw q.1), if_pos hw, step_nums g _ (fun v hv => hg v (List.mem_cons_of_mem _ hv)) (fun q => by simp at q), List.append_assoc]; rfl
theorem step_flat : ∀ (gs : List (List Str)) (rows : List (List Int)), (∀ g ∈ gs, okG g)->stepL rows [] false (flat gs) = some (rows ++ gs.map valG)
  | [], rows, _ => by rw [List.map_nil, List.append_nil]; rfl
  | g :: gs, rows, h => by
    have ih := step_flat gs (rows ++ [valG g]) fun q hq => h q (List.mem_cons_of_mem _ hq)
    rw [List.append_assoc] at ih
    rcases h g List.mem_cons_self with e | ⟨ne, hn⟩
    · subst e
      have e2 : valG [sD] = [] := if_pos rfl
      show stepL rows [] false (sD :: sSl :: flat gs) = _
      rw [stepL, if_neg sD_sSl, if_pos ⟨rfl, rfl, rfl⟩, stepL, if_pos rfl, if_neg (by rintro (⟨_, b⟩ | ⟨a, _⟩); cases b; exact a rfl)]
      rw [e2] at ih
      exact ih.trans (by rw [List.map_cons, e2]; rfl)
    · have e2 : valG g = g.map valW := if_neg fun e => num_ne_dot (hn sD (by rw [e]; exact List.mem_cons_self)) rfl
      show stepL rows [] false (g ++ sSl :: flat gs) = _
      rw [step_nums g [] hn (fun q => ne q.2), List.nil_append, ← e2]
      exact ih
def inter : List (List Str)->List Str
  | [] => []
  | [g] => g
  | g :: g' :: r => g ++ sSl :: inter (g' :: r)
theorem flat_inter : ∀ {gs : List (List Str)}, gs ≠ []->flat gs = inter gs ++ [sSl]
  | [], h => absurd rfl h
  | [g], _ => rfl
  | g :: g' :: r, _ => by
    show g ++ sSl :: flat (g' :: r) = g ++ sSl :: inter (g' :: r) ++ [sSl]
    rw [flat_inter (by simp), List.append_assoc]; rfl
theorem join_app (sep : Str) : ∀ {a b : List Str}, a ≠ []->b ≠ []->Str.join sep (a ++ b) = Str.join sep a ++ sep ++ Str.join sep b
  | [], _, h, _ => absurd rfl h
  | [p], b, _, hb => by
    cases b with
    | nil => exact absurd rfl hb
    | cons q r => rfl
  | p :: q :: r, b, _, hb => by
    show p ++ sep ++ Str.join sep ((q :: r) ++ b) = p ++ sep ++ Str.join sep (q :: r) ++ sep ++ Str.join sep b
    rw [join_app sep (by simp) hb]
    simp only [Str.append_assoc]
theorem okG_ne {g : List Str} (h : okG g) : g ≠ [] := by
  rcases h with e | ⟨e, _⟩
  · rw [e]; simp
  · exact e
theorem inter_ne : ∀ {gs : List (List Str)}, gs ≠ []->(∀ g ∈ gs, okG g)->inter gs ≠ []
  | [], h, _ => absurd rfl h
  | [g], _, h => okG_ne (h g List.mem_cons_self)
  | g :: g' :: r, _, _ => by show g ++ sSl :: inter (g' :: r) ≠ []; simp
theorem join_inter : ∀ {gs : List (List Str)}, gs ≠ []->(∀ g ∈ gs, okG g)->Str.join sB (inter gs) = Str.join sS (gs.map (Str.join sB))
  | [], h, _ => absurd rfl h
  | [g], _, _ => rfl
  | g :: g' :: r, _, h => by
    have hr : ∀ q ∈ g' :: r, okG q := fun q hq => h q (List.mem_cons_of_mem _ hq)
    have ih := join_inter (gs := g' :: r) (by simp) hr
    show Str.join sB (g ++ sSl :: inter (g' :: r)) = Str.join sB g ++ sS ++ Str.join sS ((g' :: r).map (Str.join sB))
    rw [← ih, join_app sB (okG_ne (h g List.mem_cons_self)) (by simp), show sSl :: inter (g' :: r) = [sSl] ++ inter (g' :: r) from rfl, join_app sB (by simp) (inter_ne (by simp) hr)]
    have e : sS = sB ++ sSl ++ sB := by decide
    rw [e]
    simp only [Str.append_assoc]
    rfl
theorem word_signs {g : List Str} (h : okG g) : ∀ w ∈ g, 32 ∉ w.cps.toList/\47 ∉ w.cps.toList := by
  intro w hw
  rcases h with e | ⟨_, hn⟩
  · rw [e] at hw
    rw [List.mem_singleton.mp hw]
    exact ⟨by decide, by decide⟩
  · obtain ⟨_, _, h1, _⟩ := num_text (hn w hw)
    exact ⟨fun q => by have := h1 _ q; omega, fun q => by have := h1 _ q; omega⟩
theorem inter_blank : ∀ {gs : List (List Str)}, (∀ g ∈ gs, okG g)->∀ w ∈ inter gs, 32 ∉ w.cps.toList
  | [], _, w, hw => nomatch hw
  | [g], h, w, hw => (word_signs (h g List.mem_cons_self) w hw).1
  | g :: g' :: r, h, w, hw => by
    rcases List.mem_append.mp hw with q | q
    · exact (word_signs (h g List.mem_cons_self) w q).1
    · rcases List.mem_cons.mp q with e | q
      · rw [e]; decide
      · exact inter_blank (fun z hz => h z (List.mem_cons_of_mem _ hz)) w q
def rowOk (p : Str) : Prop := p = sD ∨ ∀ w ∈ Txt.split p sB, numB w = true
def rowVal (p : Str) : List Int := if p = sD then [] else (Txt.split p sB).map valW
theorem words_of {x : Str} {gs : List (List Str)} (h0 : gs ≠ []) (hg : ∀ g ∈ gs, okG g) (hx : x = Str.join sS (gs.map (Str.join sB))) : Txt.split x sB ++ [sSl] = flat gs := by
  rw [hx, ← join_inter h0 hg, split_join (m := 0) (c := 32) rfl (fun i hi => absurd hi (by omega)) (by decide +kernel) (inter_ne h0 hg) (inter_blank hg), flat_inter h0]
theorem split_ne (x y : Str) : Txt.split x y ≠ [] := fun e => by
  have := PyProof.Rows.split_pos x y
  rw [e] at this
  exact absurd this (by decide)
theorem read_ok {x : Str} (h : ∀ p ∈ Txt.split x sS, rowOk p) : stepL [] [] false (Txt.split x sB ++ [sSl]) = some ((Txt.split x sS).map rowVal) := by
  have key : ∀ p, rowOk p->∃ g, okG g/\Str.join sB g = p/\valG g = rowVal p := fun p hp => by
    by_cases hd : p = sD
    · exact ⟨[sD], .inl rfl, hd.symm, by unfold valG rowVal; rw [if_pos rfl, if_pos hd]⟩
    · have hn : ∀ w ∈ Txt.split p sB, numB w = true := by
        rcases hp with q | q
        · exact absurd q hd
        · exact q
      have ho : okG (Txt.split p sB) := .inr ⟨split_ne _ _, hn⟩
      refine ⟨Txt.split p sB, ho, join_split p sB, ?_⟩
      unfold valG rowVal
      rw [if_neg hd, if_neg (fun e => ?_)]
      have := hn sD (by rw [e]; exact List.mem_cons_self)
      exact num_ne_dot this rfl
  have all : ∀ ps : List Str, (∀ p ∈ ps, rowOk p)->∃ gs : List (List Str), (∀ g ∈ gs, okG g)/\gs.map (Str.join sB) = ps/\gs.map valG = ps.map rowVal := fun ps => by
    induction ps with
    | nil => exact fun _ => ⟨[], fun g hg => (nomatch hg), rfl, rfl⟩
    | cons p t ih =>
      intro hp
      obtain ⟨g, h1, h2, h3⟩ := key p (hp p List.mem_cons_self)
      obtain ⟨gs, h4, h5, h6⟩ := ih fun q hq => hp q (List.mem_cons_of_mem _ hq)
      refine ⟨g :: gs, fun q hq => ?_, by rw [List.map_cons, h2, h5], by rw [List.map_cons, h3, h6]; rfl⟩
      rcases List.mem_cons.mp hq with e | e
      · rw [e]; exact h1
      · exact h4 q e
  obtain ⟨gs, hg, e1, e2⟩ := all _ h
  have h0 : gs ≠ [] := fun e => by
    rw [e, List.map_nil] at e1
    exact split_ne x sS e1.symm
  rw [words_of h0 hg (x := x) (by rw [e1, join_split]), step_flat gs [] hg, List.nil_append, e2]
end Tw
namespace Tw
open PySem L2 PySem.StrLaws PySem.Builtin.Str PySem.NumText
def FitW (zss : List (List Int)) : Prop := (∀ z ∈ zss, FitR z)/\zss.length ≤ 16
theorem rows_minusW {zss : List (List Int)} (h : FitW zss) (h0 : zss ≠ []) : rowsT zss ≠ sM := fun e => by
  obtain ⟨z, hz⟩ := List.exists_mem_of_ne_nil _ h0
  obtain ⟨c, hc, h1⟩ := row_some (h.1 z hz)
  have hm : c ∈ (rowsT zss).cps.toList := by
    unfold rowsT
    rw [if_neg h0]
    exact join_mem (List.mem_map.mpr ⟨z, hz, rfl⟩) hc
  rw [e] at hm
  have : c = 45 := by simpa [sM] using hm
  omega
theorem split_rowsW {zss : List (List Int)} (h : FitW zss) (h0 : zss ≠ []) : Txt.split (rowsT zss) sS = zss.map rowT := by
  unfold rowsT
  rw [if_neg h0]
  refine split_join (m := 1) (c := 47) rfl (fun i hi => ?_) (by decide +kernel) (by simpa using h0) fun p hp hm => ?_
  · have : i = 0 := by omega
    subst this
    show some 32 ≠ some 47
    intro e; cases e
  · obtain ⟨z, hz, rfl⟩ := List.mem_map.mp hp
    exact row_slash (h.1 z hz) hm
theorem rows_lenW {zss : List (List Int)} (h : FitW zss) : (rowsT zss).length ≤ 4016 := by
  unfold rowsT
  split
  · show 1 ≤ 4016; decide
  · have h1 := StrLaws.join_length_le sS (zss.map rowT)
    have h2 := sumLen_le (B := 248) (zss.map rowT) fun y hy => by
      obtain ⟨z, hz, rfl⟩ := List.mem_map.mp hy
      exact row_len (h.1 z hz)
    rw [List.length_map] at h1 h2
    have h3 : sS.length = 3 := rfl
    rw [h3] at h1
    have h4 := h.2
    omega
theorem joinOk_rowsW {zss : List (List Int)} (h : FitW zss) : JoinOk sS (zss.map rowT) = true := by
  refine join_ok (B := 248) (fun y hy => ?_) ?_
  · obtain ⟨z, hz, rfl⟩ := List.mem_map.mp hy
    exact row_len (h.1 z hz)
  · rw [List.length_map, show sS.length = 3 from rfl]; have := h.2; omega
theorem figs_B {x : Str} (f : Figs x) : figB x.cps.toList = true := figB_iff.mpr ⟨f.ne, by rw [lenS]; exact f.len, f.all, f.zero⟩
theorem num_numB {n : Int} (h : Fit n) : numB (num n) = true := by
  rcases num_cases h with ⟨m, rfl, hm⟩ | ⟨m, rfl, hm⟩
  · have e := num_pos m
    have f := figs_of hm e
    unfold numB
    rw [if_neg, figs_B f]
    intro q
    have := f.all 45 (List.mem_of_getElem? q)
    omega
  · have e := num_neg m
    have f : Figs ⟨(dgs (m + 1)).toArray⟩ := figs_of hm rfl
    have fb := figs_B f
    unfold numB
    rw [e, if_pos (show (45 :: dgs (m + 1))[0]? = some 45 from rfl)]
    show (figB (dgs (m + 1)) && decide (dgs (m + 1) ≠ [48])) = true
    have fb : figB (dgs (m + 1)) = true := fb
    obtain ⟨c, r, e2, hc⟩ := dgs_head (m + 1) (by omega)
    have nz : dgs (m + 1) ≠ [48] := fun q => by rw [e2] at q; injection q with q; omega
    rw [fb, Bool.true_and]
    exact decide_eq_true nz
theorem num_valW {n : Int} (h : Fit n) : valW (num n) = n := by unfold valW; rw [num_reads h]; rfl
theorem row_rowOk {z : List Int} (h : FitR z) : rowOk (rowT z) := by
  by_cases h0 : z = []
  · subst h0; exact .inl rfl
  · refine .inr fun w hw => ?_
    rw [split_row h h0] at hw
    obtain ⟨n, hn, rfl⟩ := List.mem_map.mp hw
    exact num_numB (h.1 n hn)
theorem row_rowVal {z : List Int} (h : FitR z) : rowVal (rowT z) = z := by
  unfold rowVal
  by_cases h0 : z = []
  · subst h0; rfl
  · rw [if_neg (row_dot h h0), split_row h h0, List.map_map]
    refine (List.map_congr_left fun n hn => ?_).trans (List.map_id z)
    exact num_valW (h.1 n hn)
theorem rows_ok {zss : List (List Int)} (h : FitW zss) (h0 : zss ≠ []) : (∀ p ∈ Txt.split (rowsT zss) sS, rowOk p)/\(Txt.split (rowsT zss) sS).map rowVal = zss := by
  rw [split_rowsW h h0]
  refine ⟨fun p hp => ?_, ?_⟩
  · obtain ⟨z, hz, rfl⟩ := List.mem_map.mp hp
    exact row_rowOk (h.1 z hz)
  · rw [List.map_map]
    refine (List.map_congr_left fun z hz => ?_).trans (List.map_id zss)
    exact row_rowVal (h.1 z hz)
theorem step_words : ∀ (ws : List Str) (rows : List (List Int)) (row : List Int) (d : Bool) (R : List (List Int)), stepL rows row d ws = some R->∀ w ∈ ws, w = sSl ∨ w = sD ∨ numB w = true
  | [], _, _, _, _, _, _, h => nomatch h
  | v :: ws, rows, row, d, R, h, w, hw => by
    rw [stepL] at h
    by_cases h1 : v = sSl
    · rw [if_pos h1] at h
      split at h
      · cases h
      · rcases List.mem_cons.mp hw with e | e
        · exact .inl (e.trans h1)
        · exact step_words ws _ _ _ _ h w e
    · rw [if_neg h1] at h
      split at h
      · rename_i h2
        rcases List.mem_cons.mp hw with e | e
        · exact .inr (.inl (e.trans h2.1))
        · exact step_words ws _ _ _ _ h w e
      · split at h
        · rename_i h3
          rcases List.mem_cons.mp hw with e | e
          · exact .inr (.inr (by rw [e]; exact h3))
          · exact step_words ws _ _ _ _ h w e
        · cases h
theorem step_two : ∀ (ws : List Str) (rows : List (List Int)) (row : List Int) (d : Bool), stepL rows row d (ws ++ [sSl, sSl]) = none
  | [], rows, row, d => by
    show stepL rows row d [sSl, sSl] = none
    rw [stepL, if_pos rfl]
    split
    · rfl
    · rw [stepL, if_pos rfl, if_pos (.inl ⟨rfl, rfl⟩)]
  | v :: ws, rows, row, d => by
    show stepL rows row d (v :: (ws ++ [sSl, sSl])) = none
    rw [stepL]
    split
    · split
      · rfl
      · exact step_two ws _ _ _
    · split
      · exact step_two ws _ _ _
      · split
        · exact step_two ws _ _ _
        · rfl
def gOf (z : List Int) : List Str := if z = [] then [sD] else z.map num
theorem gOf_ok {z : List Int} (h : FitR z) : okG (gOf z) := by
  unfold gOf
  split
  · exact .inl rfl
  · rename_i h0
    refine .inr ⟨by simpa using h0, fun w hw => ?_⟩
    obtain ⟨n, hn, rfl⟩ := List.mem_map.mp hw
    exact num_numB (h.1 n hn)
theorem gOf_join (z : List Int) : Str.join sB (gOf z) = rowT z := by
  unfold gOf rowT
  split <;> rfl
theorem word_some {g : List Str} (h : okG g) : ∀ w ∈ g, w.cps.toList ≠ [] := by
  intro w hw e
  rcases h with q | ⟨_, hn⟩
  · rw [q] at hw
    rw [List.mem_singleton.mp hw] at e; cases e
  · obtain ⟨_, _, _, c, hc, _⟩ := num_text (hn w hw)
    rw [e] at hc; cases hc
theorem inter_some : ∀ {gs : List (List Str)}, (∀ g ∈ gs, okG g)->∀ w ∈ inter gs, w.cps.toList ≠ []
  | [], _, w, hw => nomatch hw
  | [g], h, w, hw => word_some (h g List.mem_cons_self) w hw
  | g :: g' :: r, h, w, hw => by
    rcases List.mem_append.mp hw with q | q
    · exact word_some (h g List.mem_cons_self) w q
    · rcases List.mem_cons.mp q with e | q
      · rw [e]; decide
      · exact inter_some (fun z hz => h z (List.mem_cons_of_mem _ hz)) w q
theorem words_ex {zss : List (List Int)} (h : FitW zss) : ∃ (l : List Str) (p : Str), rowsT zss = Str.join sB (l ++ [p])/\(∀ w ∈ l ++ [p], 32 ∉ w.cps.toList)/\p.cps.toList ≠ [] := by
  by_cases h0 : zss = []
  · subst h0
    exact ⟨[], sM, rfl, fun w hw => by rw [List.mem_singleton.mp hw]; decide, by decide⟩
  · have hg : ∀ g ∈ zss.map gOf, okG g := fun g hg => by
      obtain ⟨z, hz, rfl⟩ := List.mem_map.mp hg
      exact gOf_ok (h.1 z hz)
    have hn : zss.map gOf ≠ [] := by simpa using h0
    have wn := inter_ne hn hg
    have e : rowsT zss = Str.join sB (inter (zss.map gOf)) := by
      rw [join_inter hn hg, List.map_map]
      unfold rowsT
      rw [if_neg h0]
      congr 1
      exact List.map_congr_left fun z _ => (gOf_join z).symm
    have el := (List.dropLast_concat_getLast wn).symm
    refine ⟨(inter (zss.map gOf)).dropLast, (inter (zss.map gOf)).getLast wn, by rw [← el]; exact e, fun w hw => ?_, inter_some hg _ (List.getLast_mem wn)⟩
    rw [← el] at hw
    exact inter_blank hg w hw
theorem str_app_toList (a b : Str) : (a ++ b).cps.toList = a.cps.toList ++ b.cps.toList := by
  show (a.cps ++ b.cps).toList = _
  exact Array.toList_append
theorem no_read {y : Str} {ws : List Str} (hy : y = Str.join sB ws) (h0 : ws ≠ []) (hb : ∀ w ∈ ws, 32 ∉ w.cps.toList) (bad : ∀ R, stepL [] [] false (ws ++ [sSl]) ≠ some R) : ¬ ∀ p ∈ Txt.split y sS, rowOk p := fun h => by
  have e := read_ok h
  rw [hy, split_join (m := 0) (c := 32) rfl (fun i hi => absurd hi (by omega)) (by decide +kernel) h0 hb] at e
  exact bad _ e
theorem spoil_word {x : Str} {l : List Str} {p z : Str} (hx : x = Str.join sB (l ++ [p])) (hb : ∀ w ∈ l ++ [p], 32 ∉ w.cps.toList) (hz : 32 ∉ z.cps.toList) (hbad : z = sSl ∨ (z ≠ sSl/\z ≠ sD/\numB z = false)) : ¬ ∀ q ∈ Txt.split (x ++ sB ++ z) sS, rowOk q := by
  refine no_read (ws := (l ++ [p]) ++ [z]) (by rw [hx, join_snoc sB z (by simp)]) (by simp) (fun w hw => ?_) fun R e => ?_
  · rcases List.mem_append.mp hw with q | q
    · exact hb w q
    · rw [List.mem_singleton.mp q]; exact hz
  · rcases hbad with rfl | ⟨n1, n2, n3⟩
    · rw [List.append_assoc] at e
      rw [show ([sSl] ++ [sSl] : List Str) = [sSl, sSl] from rfl, step_two] at e
      cases e
    · rcases step_words _ _ _ _ _ e z (by simp) with q | q | q
      · exact n1 q
      · exact n2 q
      · rw [n3] at q; cases q
theorem spoil_sign {x : Str} {l : List Str} {p t : Str} {c : Nat} (hx : x = Str.join sB (l ++ [p])) (hb : ∀ w ∈ l ++ [p], 32 ∉ w.cps.toList) (hp : p.cps.toList ≠ []) (ht : 32 ∉ t.cps.toList) (hc : c ∈ t.cps.toList) (h1 : c ≠ 45) (h2 : ¬ (48 ≤ c/\c ≤ 57)) : ¬ ∀ q ∈ Txt.split (x ++ t) sS, rowOk q := by
  have tn : t.cps.toList ≠ [] := fun e => by rw [e] at hc; cases hc
  have two : ∀ d : Nat, (p ++ t).cps.toList ≠ [d] := fun d e => by
    rw [str_app_toList] at e
    have := congrArg List.length e
    rw [List.length_append] at this
    have a := List.length_pos_iff.mpr hp
    have b := List.length_pos_iff.mpr tn
    have c1 : ([d] : List Nat).length = 1 := rfl
    omega
  refine no_read (ws := l ++ [p ++ t]) ?_ (by simp) (fun w hw => ?_) fun R e => ?_
  · rw [hx]
    cases l with
    | nil => rfl
    | cons a r => rw [join_snoc sB p (by simp), join_snoc sB (p ++ t) (by simp)]; simp only [Str.append_assoc]
  · rcases List.mem_append.mp hw with q | q
    · exact hb w (List.mem_append_left _ q)
    · rw [List.mem_singleton.mp q, str_app_toList]
      intro m
      rcases List.mem_append.mp m with m | m
      · exact hb p (by simp) m
      · exact ht m
  · rcases step_words _ _ _ _ _ e (p ++ t) (by simp) with q | q | q
    · exact two 47 (by rw [q]; rfl)
    · exact two 46 (by rw [q]; rfl)
    · obtain ⟨_, _, h3, _⟩ := num_text q
      have := h3 c (by rw [str_app_toList]; exact List.mem_append_right _ hc)
      omega
theorem spoilt {zss : List (List Int)} (h : FitW zss) {t : Str} (ht : t ∈ [(" " : Str), " /", "x", " +1", " -0", "."]) : rowsT zss ++ t ≠ sM/\¬ ∀ q ∈ Txt.split (rowsT zss ++ t) sS, rowOk q := by
  obtain ⟨l, p, e, hb, hp⟩ := words_ex h
  have tn : 0 < t.cps.toList.length := by
    simp only [List.mem_cons, List.not_mem_nil, or_false] at ht
    rcases ht with rfl | rfl | rfl | rfl | rfl | rfl <;> decide
  refine ⟨fun q => ?_, ?_⟩
  · have q2 := congrArg (fun s : Str => s.cps.toList.length) q
    have q3 : (rowsT zss).cps.toList.length + t.cps.toList.length = 1 := by
      have : (rowsT zss ++ t).cps.toList.length = 1 := q2
      rw [str_app_toList, List.length_append] at this; exact this
    obtain ⟨c, hc⟩ := List.exists_mem_of_ne_nil _ hp
    have hm : c ∈ (rowsT zss).cps.toList := by rw [e]; exact join_mem (by simp) hc
    have := List.length_pos_of_mem hm
    omega
  · simp only [List.mem_cons, List.not_mem_nil, or_false] at ht
    rcases ht with rfl | rfl | rfl | rfl | rfl | rfl
    · have := spoil_word (z := Str.empty) e hb (by decide) (.inr ⟨by decide, by decide, by decide⟩)
      rw [Str.append_assoc] at this; exact this
    · have := spoil_word (z := sSl) e hb (by decide) (.inl rfl)
      rw [Str.append_assoc] at this; exact this
    · exact spoil_sign (c := 120) e hb hp (by decide) (by decide) (by decide) (by decide)
    · have := spoil_word (z := ⟨#[43, 49]⟩) e hb (by decide) (.inr ⟨by decide, by decide, by decide⟩)
      rw [Str.append_assoc] at this; exact this
    · have := spoil_word (z := ⟨#[45, 48]⟩) e hb (by decide) (.inr ⟨by decide, by decide, by decide⟩)
      rw [Str.append_assoc] at this; exact this
    · exact spoil_sign (c := 46) e hb hp (by decide) (by decide) (by decide) (by decide)
end Tw
namespace Tw
open PySem
end Tw
namespace L2
open PySem PySem.Spec PyProof.Rows
open PySem.Builtin PySem.Builtin.Str
section
variable {X : Cx}
end
end L2
namespace Tw
end Tw
namespace Tw
end Tw
namespace Tw
end Tw
namespace Tw
structure Marks (n : Nat) (rs : List Road) (ms : List Int) : Prop where
  len : ms.length = n
  alike : ∀ r ∈ rs, ms[r.1.toNat]? = ms[r.2.1.toNat]?
  sound : ∀ (u v : Nat) (x : Int), ms[u]? = some x->ms[v]? = some x->∀ P : Int->Prop, (∀ r ∈ rs, P r.1<->P r.2.1)->(P (u : Int)<->P (v : Int))
theorem Marks.start {n : Nat} : Marks n [] (pl n) := by
  refine ⟨pl_length n, (fun r hr => nomatch hr), fun u v x h1 h2 P _ => ?_⟩
  have hu : u < n := by have := (List.getElem?_eq_some_iff.mp h1).1; rw [pl_length] at this; exact this
  have hv : v < n := by have := (List.getElem?_eq_some_iff.mp h2).1; rw [pl_length] at this; exact this
  rw [pl_get hu] at h1
  rw [pl_get hv] at h2
  have e1 : (u : Int) = x := Option.some.inj h1
  have e2 : (v : Int) = x := Option.some.inj h2
  rw [e1, e2]
def remark (a b m : Int) : Int := if m = b then a else m
theorem Marks.step {n : Nat} {rs : List Road} {ms : List Int} (k : Marks n rs ms) {r : Road} (v : Valid n r) {a b : Int} (ha : ms[r.1.toNat]? = some a) (hb : ms[r.2.1.toNat]? = some b) : Marks n (rs ++ [r]) (ms.map (remark a b)) := by
  have v1 := v.a0; have v2 := v.b0
  refine ⟨by rw [List.length_map]; exact k.len, fun q hq => ?_, fun u w x h1 h2 P hP => ?_⟩
  · rw [List.getElem?_map, List.getElem?_map]
    rcases List.mem_append.mp hq with h | h
    · rw [k.alike q h]
    · have e : q = r := by simpa using h
      subst e
      rw [ha, hb]
      show some (remark a b a) = some (remark a b b)
      unfold remark
      rw [if_pos rfl]
      split <;> rfl
  · have hP' : ∀ q ∈ rs, P q.1<->P q.2.1 := fun q hq => hP q (List.mem_append_left _ hq)
    have hr : P r.1<->P r.2.1 := hP r (List.mem_append_right _ (by simp))
    have e1 : ((r.1.toNat : Nat) : Int) = r.1 := by omega
    have e2 : ((r.2.1.toNat : Nat) : Int) = r.2.1 := by omega
    rw [List.getElem?_map] at h1 h2
    cases eu : ms[u]? with
    | none => rw [eu] at h1; cases h1
    | some y =>
      cases ew : ms[w]? with
      | none => rw [ew] at h2; cases h2
      | some z =>
        rw [eu] at h1
        rw [ew] at h2
        have g1 : remark a b y = x := Option.some.inj h1
        have g2 : remark a b z = x := Option.some.inj h2
        have ofb : ∀ {i : Nat}, ms[i]? = some b->(P (i : Int)<->P r.2.1) := fun hi => by rw [← e2]; exact k.sound _ _ b hi hb P hP'
        have ofa : ∀ {i : Nat}, ms[i]? = some a->(P (i : Int)<->P r.1) := fun hi => by rw [← e1]; exact k.sound _ _ a hi ha P hP'
        unfold remark at g1 g2
        by_cases yb : y = b <;> by_cases zb : z = b
        · rw [yb] at eu; rw [zb] at ew
          exact (ofb eu).trans (ofb ew).symm
        · rw [if_pos yb] at g1; rw [if_neg zb] at g2
          rw [yb] at eu; rw [g2, ← g1] at ew
          exact (ofb eu).trans (hr.symm.trans (ofa ew).symm)
        · rw [if_neg yb] at g1; rw [if_pos zb] at g2
          rw [zb] at ew; rw [g1, ← g2] at eu
          exact (ofa eu).trans (hr.trans (ofb ew).symm)
        · rw [if_neg yb] at g1; rw [if_neg zb] at g2
          rw [g1] at eu; rw [g2] at ew
          exact k.sound u w x eu ew P hP'
theorem Marks.conn {n : Nat} {rs : List Road} {ms : List Int} (k : Marks n rs ms) (h1 : 1 ≤ n) (hv : ∀ r ∈ rs, Valid n r) : (∃ x, ∀ y ∈ ms, y = x)<->Conn n rs := by
  have kl := k.len
  constructor
  · rintro ⟨x, hx⟩ P p0 hP v v0 vn
    have at' : ∀ i : Nat, i < n->ms[i]? = some x := fun i hi => by
      have e : ms[i]? = some ms[i] := List.getElem?_eq_getElem (by omega)
      rw [e, hx _ (List.getElem_mem (by omega))]
    have := (k.sound 0 v.toNat x (at' 0 (by omega)) (at' v.toNat (by omega)) P hP).mp p0
    rw [show ((v.toNat : Nat) : Int) = v by omega] at this; exact this
  · intro c
    obtain ⟨x, hx⟩ : ∃ x, ms[0]? = some x := ⟨ms[0]'(by omega), List.getElem?_eq_getElem _⟩
    refine ⟨x, fun y hy => ?_⟩
    obtain ⟨i, hi⟩ := List.mem_iff_getElem?.mp hy
    have hil : i < n := by have := (List.getElem?_eq_some_iff.mp hi).1; omega
    have := c (fun v => ms[v.toNat]? = some x) hx (fun r hr => by
      show ms[r.1.toNat]? = some x<->ms[r.2.1.toNat]? = some x
      rw [k.alike r hr]) (i : Int) (by omega) (by omega)
    have this' : ms[i]? = some x := by simpa using this
    rw [hi] at this'
    exact Option.some.inj this'
end Tw
namespace Tw
end Tw
namespace Tw
section
variable {n : Nat} {rs : List Road} {f : Int->Int->Int}
end
end Tw
namespace Tw
section
variable {n : Nat} {rs : List Road} {f : Int->Int->Int}
end
end Tw
namespace Tw
section
variable {n : Nat} {rs : List Road} {f : Int->Int->Int}
end
end Tw
namespace Tw
section
variable {n : Nat} {rs : List Road} {f : Int->Int->Int}
end
end Tw
namespace Tw
section
variable {n : Nat} {rs : List Road} {f : Int->Int->Int}
end
end Tw
namespace Tw
section
variable {n : Nat} {rs : List Road} {f : Int->Int->Int}
end
end Tw
namespace Tw
section
variable {n : Nat} {rs : List Road} {f : Int->Int->Int}
end
end Tw
namespace Tw
section
variable {n : Nat} {rs : List Road} {f : Int->Int->Int}
instance decJ16 (r : Road) (u v : Int) : Decidable (Joins r u v) := by unfold Joins; infer_instance
end
end Tw
namespace Tw
section
variable {n : Nat} {rs : List Road} {f : Int->Int->Int}
end
end Tw
namespace Tw
end Tw
namespace Tw
end Tw
namespace Tw
variable {n : Nat} {rs : List Road} {f : Int->Int->Int}
end Tw
namespace Tw
end Tw
namespace Tw
end Tw
namespace Tw
section
variable {n : Nat} {rs : List Road} {f : Int->Int->Int}
end
end Tw
namespace Tw
section
variable {n : Nat} {rs : List Road} {f : Int->Int->Int}
end
end Tw
namespace Tw
section
variable {sv : Nat->List Int} {g : Nat->Int} {w : Nat->Int}
end
end Tw
namespace Tw
variable {f : Int->Int->Int} {hs ss hs' ss' : List Int} {c c' r R R' : Int}
end Tw
namespace Tw
end Tw
namespace Tw
variable {n : Nat} {rs : List Road} {f : Int->Int->Int}
end Tw
namespace Tw
variable {n : Nat} {rs : List Road} {f : Int->Int->Int}
end Tw
namespace Tw
variable {n : Nat} {rs : List Road} {f : Int->Int->Int}
end Tw
namespace L2
open PySem PySem.Spec PyProof.Rows
end L2
namespace L2
open PySem PySem.Spec PyProof.Rows
def TB (X : Cx) (hs : List ExceptHandler) (sts : List Stmt) (t : TS) : Prop :=
  ∀ (pins : List (Addr × Obj)) (s : Shared) (σ : St) (H : Hp) (D : Ends), Inv X pins σ H s->t D σ H →
    wpAny (model X.prog X.w) X.A (execs sts X.env) (fun f s₁ => match f with | .next => wpAny (model X.prog X.w) X.A (execs [] X.env) (SP X pins D) X.xe s₁ | f => SP X pins D f s₁)
      (fun e s₁ => wpAny (model X.prog X.w) X.A (noteFrame e X.env) (fun _ s₂ => wpAny (model X.prog X.w) X.A (setFlight e none) (fun _ s₃ => wpAny (model X.prog X.w) X.A (handleBy e X.env hs) (SP X pins D) X.xe s₃) X.xe s₂) X.xe s₁) s
theorem ps_tryB {X : Cx} {h : ExceptHandler} {sts : List Stmt} {t : TS} {pos : Pos} (hb : TB X [h] sts t) : PS X (.Try sts [h] [] [] pos) t := fun pins s σ H D I q => wpAny_Try_except (hb pins s σ H D I q)
theorem tb_if {X : Cx} {hs : List ExceptHandler} {c : Expr} {a b : List Stmt} {tc : TT} {t u : TS} {p : Pos} (hc : PT X.nox c tc) (ha : TB X hs a t) (hb : TB X hs b u) : TB X hs [.If c a b p] (tIfS tc t u) := by
  intro pins s σ H D I h
  refine wpAny_execs_cons (wpAny_If (wpAny_mono (hc pins s σ H _ (I.wish _) h) (fun d s1 z => ?_) (fun _ _ z => False.elim z)))
  obtain ⟨H1, I1', q1⟩ := z
  have I1 := I1'.unwish
  cases d with
  | true => exact wpAny_mono (ha pins s1 σ H1 D I1 q1) (fun fl s' z => by cases fl <;> first | exact z | exact wpAny_execs_nil z) (fun _ _ z => z)
  | false => exact wpAny_mono (hb pins s1 σ H1 D I1 q1) (fun fl s' z => by cases fl <;> first | exact z | exact wpAny_execs_nil z) (fun _ _ z => z)
theorem tb_call {X : Cx} {k : Nat} {f CT : Addr} {fd : FuncData} {ps : List Str} {sp : Sp} {dvs : List V} {ds : List Value} {x0 cT n y : Str} {p cpos xpos tp yp np ap hpos : Pos} {e : Expr} {es : List Expr} {t : TA} {i j : Nat} (F : FnOk X.prog X.w X.K X.mg X.base (CXE X.prog X.w) k f fd ps sp) (hr : Room k X.A) (hg : Gl X x0) (hm : X.mg x0 = some (.ref f)) (hk : PySem.W.keepIn X.K (.ref f) = true) (hb : Binds X.K fd ps ds) (hd : Vals dvs ds) (ha : PA X.nox (e :: es) t) (hgT : Gl X cT) (hmT : X.mg cT = some (.ref CT)) (hst : X.stack = X.env :: X.outer) (hlf : X.env.frame = some X.env.locals) (hX : X.ex = []) (hN : X.N.Nodup) (hi : X.N[i]? = some n) (hn : X.env.scope.names.lookup n = some .local) (hj : X.N[j]? = some y) (hy : X.env.scope.names.lookup y = some .local) (hdb : (x0 == ("__debug__" : Str)) = false := by decide) (he : starEach (e :: es) X.env = (false, eval e X.env) :: starEach es X.env := by rfl) (hpl : (backTo cpos (starEach es X.env)).any (·.1) = false := by rfl)
    (hsw : swapsWith (.Call (.Name x0 p) (e :: es) [] cpos) none xpos.line X.env = pure false := by rfl) (hdT : (cT == ("__debug__" : Str)) = false := by decide) (hdn : (n == ("__debug__" : Str)) = false := by decide) (hcn : (n == ("__classdict__" : Str)) = false := by decide)
    (hs2 : swapsWith (.Name n np) (some (.Name y yp)) ap.line X.env = pure false := by rfl) :
    TB X [.ExceptHandler (some (.Name cT tp)) (some n) [.Assign [.Name y yp] (.Name n np) ap] hpos] [.Expr (.Call (.Name x0 p) (e :: es) [] cpos) xpos] (tTry X.K CT i j sp dvs t) := by
  intro pins s σ H D I h
  refine wpAny_execs_cons (wpAny_Expr_any ?_ I.quiet hsw)
  refine wpAny_Call_Name_kw (ld_glob I hg hm ?_ hdb)
  refine PySem.W.callWith_K (h₀ := X.base) I.ok.mod.kin hk (wpAny_mono (ha cpos pins s σ H _ (I.wish _) h) (fun us s1 z => ?_) (fun _ _ z => False.elim z)) he hpl
  obtain ⟨vs, H1, I1', r, q⟩ := z
  have I1 := I1'.unwish
  clear I1'
  have r2 : Vals (vs ++ dvs) (us ++ ds) := r.append hd
  have hl : (us ++ ds).length = ps.length := by rw [← r2.length]; exact F.len _ _ _ _ q
  refine ⟨I1.kIn, wpAny_call (codeAny_mono (F.run X.A X.stack s1 H1 ⟨us, []⟩ (us ++ ds) (vs ++ dvs) _ _ hr I1.env0 (hb s1 us I1.kIn hl) r2 q) fun rr s' hq => ?_)⟩
  cases rr with
  | ok fl =>
    cases fl with
    | ret u =>
      obtain ⟨v, H2, I2, rv, q2⟩ := I1.after hq
      exact wpAny_execs_nil (wpAny_execs_nil ⟨σ, H2, I2, q2⟩)
    | next => exact False.elim hq
    | brk => exact False.elim hq
    | cont => exact False.elim hq
  | error ev =>
    obtain ⟨x, C, H2, rfl, os, bare, un, hok, fl, hcls, hnx⟩ := hq
    obtain ⟨oe, fs, T, oT, ts, n1, nH, hx, hc, hdx, hv1, hTx, nT, nTH, hT, hdT', hts⟩ := fl
    have hv0 : ∃ a0, fs[0]? = some a0 := by
      have : 1 < fs.size := (Array.getElem?_eq_some_iff.mp hv1).1
      exact ⟨fs[0], Array.getElem?_eq_some_iff.mpr ⟨by omega, rfl⟩⟩
    obtain ⟨a0, hv0⟩ := hv0
    have I2 : Inv X pins σ H2 s' := I1.call' (ch := []) os un hok bare (fun b z => absurd z (by simp))
    have hfr : X.A.frames = some (X.env :: X.outer) := by rw [I.ok.frames, hst]
    have hin : s'.heap.FunFrames (PySem.W.hideAll s'.heap (x :: T :: frs X.stack)) (X.env :: X.outer) := by
      refine PySem.W.funFrames_hide (hst ▸ I2.stack) fun env hm' a ha' => .tail _ (.tail _ ?_)
      rw [hst]
      exact List.mem_filterMap.mpr ⟨env, hm', ha'⟩
    have hfl : Heap.FlyingW (PySem.W.hideAll s'.heap (x :: T :: frs X.stack)) (X.env :: X.outer) x C a0 s'.heap :=
      ⟨fun b o z => PySem.W.of_hideAll _ z, PySem.W.hideAll_none _ (.head _), hin, oe, fs, T, oT, ts, hx, ⟨hc, hv0⟩, hdx, hv1, PySem.W.hideAll_none _ (.tail _ (.head _)), hTx, hT, hdT', hts⟩
    have land : ∀ h', Heap.FlyingW (PySem.W.hideAll s'.heap (x :: T :: frs X.stack)) (X.env :: X.outer) x C a0 h'->s'.heap.UpToSlots h'->Inv X pins σ H2 { s' with heap := h' } := fun h' hf' hs' => by
      obtain ⟨u', hok'⟩ := un.flown hok (hid := x :: T :: frs X.stack) (fun b hb' => by
        rcases List.mem_cons.mp hb' with rfl | z
        · exact .inl ⟨n1, nH⟩
        · rcases List.mem_cons.mp z with rfl | z
          · exact .inl ⟨nT, nTH⟩
          · exact .inr ⟨z, I2.stkFree b z⟩) (fun b hb' => (I2.stack.mem hb').2) hf'.1 hs'
      exact I1.call' (s' := { s' with heap := h' }) (ch := []) os u' hok' bare (fun b z => absurd z (by simp))
    refine wpAny_looks_onW (L := X.env.locals) hfr hlf hfl fun h4 held4 sm4 => ?_
    refine wpAny_landsW held4 fun h5 fl5 sm5 => ?_
    have J5 := land h5 fl5 (sm4.trans sm5)
    obtain ⟨ob5, hob5, hoc5⟩ := fl5.there
    have LT : ∀ M : Model, PySem.W.Looks M h5 (typeOf (.ref x)) C := fun M => hoc5 ▸ (PySem.W.Looks.ld hob5).andThen .now
    refine wpAny_handleBy_cons (codeAny_handlers_test (ld_glob (X := X.suite x) (J5.suite x) hgT hmT ?_ hdT)) (by intro z; cases z)
    refine PySem.W.exm_one J5.kIn (LT _) hcls _ _ _ _ (fun _ _ z => z) ?_
    refine codeAny_handlers_suite_as ?_
    refine lands_againW fl5 fun h6 fl6 sm6 => ?_
    have J6 := land h6 fl6 ((sm4.trans sm5).trans sm6)
    obtain ⟨oe6, vs6, hx6, hc6, hd6, _⟩ := fl6.first
    have J7 := (J6.keepExc (I1.gone hX n1) nH hx6 hc6 hd6 (fun p hp z => by
      have := (I1.pin p hp).1
      rw [z, n1] at this; cases this)).suite x
    refine store_ok (X := X.suite x) (v := .ref x) J7 hN hi (.inl hn) rfl (fun s8 I8 => ?_) (.inr hn)
    have hsσ : (σ.set i (some (V.ref x)))[i]? = some (some (V.ref x)) := List.getElem?_set_self (by rw [I.len]; exact (List.getElem?_eq_some_iff.mp hi).1)
    refine wpAny_mono (pss_cons (X := X.suite x) (ps_set (pos := ap) hN hj (.inl hy) (pe_var hi (.inl hn) hdn hcn) hs2 (.inr hy)) pss_nil pins s8 _ _ { nx := fun σ' H' => σ' = (σ.set i (some (V.ref x))).set j (some (V.ref x))/\H' = upd H2 x (exO x C), rt := fun _ _ => False } I8 ?_) (fun fl s9 z => ?_) (fun _ _ z => False.elim z)
    · exact ⟨_, hsσ, rfl, rfl⟩
    · cases fl with
      | next =>
        obtain ⟨σ', H', I9, rfl, rfl⟩ := z
        exact name_gone (I9.unsuite I.ok) hN hi hn fun s10 I10 _ => ⟨_, _, I10, hnx x nH⟩
      | brk => obtain ⟨_, _, _, z⟩ := z; exact False.elim z
      | cont => obtain ⟨_, _, _, z⟩ := z; exact False.elim z
      | ret u => obtain ⟨_, _, _, _, _, z⟩ := z; exact False.elim z
end L2
namespace L2
open PySem PySem.Spec PyProof.Rows Tw
open PySem.W (tabObj CodeHd kla_obj kla_fn envX)
section
variable {X : Cx} {pins : List (Addr × Obj)} {σ : St} {H : Hp} {s : Shared} {h' : Heap}
end
end L2
namespace L2
open PySem PySem.Spec PyProof.Rows Tw
open PySem.W (tabObj CodeHd kla_obj kla_fn envX)
end L2
namespace L2
open PySem PySem.Spec PyProof.Rows Tw
open PySem.W (tabObj CodeHd kla_obj kla_fn envX)
section
variable {X : Cx} {pins : List (Addr × Obj)} {σ : St} {H : Hp} {s : Shared}
end
end L2
namespace L2
open PySem PySem.Spec PyProof.Rows
section
variable {X : Cx}
end
end L2
namespace Tw
open PySem PyProof.Rows
section
variable {M : Model} {A : Around} {E : Value->Shared->Prop} {s : Shared} {kd : SortKind} {k : Keyed->Int} {P : Keyed->Prop}
end
end Tw
namespace Tw
open PySem PyProof.Rows
section
variable {M : Model} {A : Around} {E : Value->Shared->Prop} {s : Shared} {kd : SortKind} {k : Keyed->Int} {P : Keyed->Prop}
end
end Tw
namespace Tw
open PySem PyProof.Rows
section
variable {k : Keyed->Int} {l o x y : List Keyed}
end
section
variable {k : Keyed->Int} {a b o : Array Keyed} {i j : Nat}
end
end Tw
namespace Tw
open PySem PyProof.Rows
section
variable {M : Model} {A : Around} {E : Value->Shared->Prop} {s : Shared} {kd : SortKind} {k : Keyed->Int} {P : Keyed->Prop} {a b o : Array Keyed} {i j mg ca cb : Nat} {st : SortSt}
end
end Tw
namespace Tw
open PySem PyProof.Rows
section
variable {k : Keyed->Int} {a b o : Array Keyed} {i j : Nat}
end
section
variable {M : Model} {A : Around} {E : Value->Shared->Prop} {s : Shared} {kd : SortKind} {k : Keyed->Int} {P : Keyed->Prop} {a b o : Array Keyed} {i j mg ca cb : Nat} {st : SortSt}
end
end Tw
namespace Tw
open PySem PyProof.Rows
section
variable {M : Model} {A : Around} {E : Value->Shared->Prop} {s : Shared} {kd : SortKind} {k : Keyed->Int} {P : Keyed->Prop} {st : SortSt}
end
end Tw
namespace Tw
open PySem PyProof.Rows
section
variable {M : Model} {A : Around} {E : Value->Shared->Prop} {s : Shared} {kd : SortKind} {k : Keyed->Int} {a₀ : Array Keyed} {st : SortSt} {lo : Nat}
end
end Tw
namespace L2
open PySem PySem.Spec PyProof.Rows Tw
section
variable {prog : Program} {w : World} {A : Around} {E : Value->Shared->Prop} {s : Shared} {g0 : Heap} {L : Addr} {mm : Str->Option Value} {ws : List (Addr × Obj)} {D kS : Addr} {b : Bool} {us : List Value} {zs : List Int} {ks : Array Value} {e e1 : Nat} {R : PySem.Fin->Shared->Prop}
end
end L2
namespace L2
open PySem PySem.Spec PyProof.Rows Tw
section
variable {prog : Program} {w : World} {A : Around} {E : Value->Shared->Prop} {s : Shared}
end
section
variable {X : Cx}
end
end L2
namespace L2
open PySem PySem.Spec PyProof.Rows Tw
section
variable {prog : Program} {w : World} {A : Around} {E : Value->Shared->Prop} {s : Shared}
end
section
variable {X : Cx}
end
end L2
namespace L2
open PySem PySem.Spec PyProof.Rows Tw
open PySem.AutoSeq1 (wpAny_loadPart')
open PySem.MeetsSeq PySem.MeetsSeq2 PySem.MeetsSeq3
section
variable {prog : Program} {w : World} {A : Around} {E : Value->Shared->Prop} {s : Shared}
end
end L2
namespace Tw
open L2
end Tw
namespace L2
open PySem PySem.Spec PyProof.Rows Tw
section
variable {prog : Program} {w : World} {A : Around} {E : Value->Shared->Prop} {s : Shared}
end
section
variable {prog : Program} {w : World} {A : Around} {E : Value->Shared->Prop} {s : Shared} {g0 : Heap} {L : Addr} {mm : Str->Option Value} {ws : List (Addr × Obj)} {D kS : Addr} {us : List Value} {ks : Array Value} {e e1 : Nat} {R : PySem.Fin->Shared->Prop} {lf : Value->List Int}
end
end L2
namespace L2
open PySem PySem.Spec PyProof.Rows Tw
open PySem.AutoSeq1 (wpAny_loadPart')
open PySem.MeetsSeq PySem.MeetsSeq2 PySem.MeetsSeq3
open PySem.SeqAt (EqAt RcAt)
section
variable {A : Around} {s : Shared}
end
end L2
namespace L2
open PySem PySem.Spec PyProof.Rows Tw
open PySem.AutoSeq1 (wpAny_loadPart')
open PySem.MeetsSeq PySem.MeetsSeq2 PySem.MeetsSeq3
open PySem.SeqAt (EqAt RcAt)
section
variable {A : Around} {s : Shared}
end
section
variable {prog : Program} {w : World} {A : Around} {E : Value->Shared->Prop} {s : Shared}
end
end L2
namespace Tw
open L2
end Tw
namespace L2
open PySem PySem.Spec PyProof.Rows Tw
section
variable {prog : Program} {w : World} {A : Around} {E : Value->Shared->Prop} {s : Shared}
end
section
variable {prog : Program} {w : World} {A : Around} {E : Value->Shared->Prop} {s : Shared} {g0 : Heap} {L : Addr} {mm : Str->Option Value} {ws : List (Addr × Obj)} {D kS : Addr} {us : List Value} {ks : Array Value} {e e1 : Nat} {R : PySem.Fin->Shared->Prop} {lf : Value->List Int}
end
end L2
namespace L2
open PySem PySem.Spec PyProof.Rows Tw
open PySem.W (tabObj CodeHd kla_obj kla_fn envX)
section
variable {X : Cx} {pins : List (Addr × Obj)} {σ : St} {H : Hp} {s : Shared} {h' : Heap}
end
end L2
namespace L2
open PySem PySem.Spec PyProof.Rows Tw
open PySem.W (tabObj CodeHd kla_obj kla_fn envX)
section
variable {X : Cx} {pins : List (Addr × Obj)} {σ : St} {H : Hp} {s : Shared}
end
end L2
namespace L2
open PySem PySem.Spec PyProof.Rows Tw
open PySem.W (tabObj CodeHd kla_obj kla_fn envX)
section
variable {X : Cx}
end
end L2
namespace L2
open PySem PySem.Spec PyProof.Rows Tw
open PySem.W (tabObj CodeHd tabIn)
section
variable {P : Program} {w : World} {K : PySem.W.Frag} {mg : Str->Option Value} {base : Heap}
end
end L2
namespace L2
open PySem PySem.Spec PyProof.Rows Tw
open PySem.W (tabObj CodeHd kla_obj kla_fn envX)
end L2
namespace L2
open PySem PySem.Spec PyProof.Rows Tw
open PySem.W (tabObj CodeHd kla_obj kla_fn envX)
section
variable {X : Cx} {pins : List (Addr × Obj)} {σ : St} {H : Hp} {s : Shared} {h' : Heap}
end
section
variable {X : Cx} {pins : List (Addr × Obj)} {σ : St} {H : Hp} {s : Shared}
end
end L2
namespace L2
open PySem PySem.Spec PyProof.Rows Tw
open PySem.W (tabObj CodeHd kla_obj kla_fn envX)
section
variable {X : Cx} {pins : List (Addr × Obj)} {σ : St} {H : Hp} {s : Shared} {h' : Heap}
end
section
variable {X : Cx} {pins : List (Addr × Obj)} {σ : St} {H : Hp} {s : Shared}
end
end L2
namespace L2
open PySem PySem.Spec PyProof.Rows
section
variable {prog : Program} {w : World} {A : Around} {E : Value->Shared->Prop} {s : Shared} {L : Bool} {a : Addr}
end
section
variable {prog : Program} {w : World} {A : Around} {R : Result->Shared->Prop} {I : Addr} {fp wr : List Addr} {G : Array GenState->Array GenState->Prop} {n : Nat} {P : Nat->Value->Prop} {St : Nat->Shared->Prop} {L : Bool}
end
section
variable {prog : Program} {w : World} {A : Around} {E : Value->Shared->Prop} {s : Shared}
end
end L2
namespace L2
open PySem PySem.Spec PyProof.Rows
section
variable {prog : Program} {w : World} {A : Around} {E : Value->Shared->Prop} {s : Shared} {L : Bool} {a : Addr}
end
section
variable {prog : Program} {w : World} {A : Around} {R : Result->Shared->Prop} {I : Addr} {fp wr : List Addr} {G : Array GenState->Array GenState->Prop} {n : Nat} {P : Nat->Value->Prop} {St : Nat->Shared->Prop} {L : Bool}
end
section
variable {prog : Program} {w : World} {A : Around} {E : Value->Shared->Prop} {s : Shared}
end
section
variable {X : Cx}
end
end L2
namespace L2
open PySem PySem.Spec PyProof.Rows
section
variable {prog : Program} {w : World} {A : Around} {E : Value->Shared->Prop} {s : Shared}
end
end L2
namespace L2
open PySem PySem.Spec PyProof.Rows
section
variable {X : Cx} {pins : List (Addr × Obj)} {σ : St} {H : Hp} {s : Shared}
end
section
variable {X : Cx}
end
end L2
namespace L2
open PySem PySem.Spec PyProof.Rows Tw
open PySem.W (tabObj CodeHd kla_obj kla_fn envX)
section
variable {X : Cx} {pins : List (Addr × Obj)} {σ : St} {H : Hp} {s : Shared}
end
end L2
namespace L2
open PySem PySem.Spec PyProof.Rows Tw
open PySem.W (tabObj CodeHd kla_obj kla_fn envX)
section
variable {X : Cx} {pins : List (Addr × Obj)} {σ : St} {H : Hp} {s : Shared}
end
end L2
namespace L2
open PySem PySem.Spec PyProof.Rows Tw
open PySem.W (tabObj CodeHd kla_obj kla_fn envX)
section
variable {X : Cx} {pins : List (Addr × Obj)} {σ : St} {H : Hp} {s : Shared}
end
end L2
namespace Tw
open PySem L2
section
variable {n : Nat} {rs : List Road} {f : Int->Int->Int}
end
end Tw
namespace L2
open PySem PySem.Spec PyProof.Rows
section
variable {X : Cx} {tg : Expr}
end
end L2
namespace Tw
open PySem L2
def top (i : Nat) : Stmt := PySem.Challenge.pw_treewells_k85_trees_as_texts.main.body.getD i (.Pass ⟨0, 0, 0, 0⟩)
abbrev sWhole : Stmt := top 17
abbrev sPlace : Stmt := top 18
abbrev sRoad : Stmt := top 19
abbrev sIsTree : Stmt := top 20
abbrev sCheck : Stmt := top 21
abbrev sNear : Stmt := top 22
abbrev sSteps : Stmt := top 23
abbrev sAreFigures : Stmt := top 27
abbrev sIsNumber : Stmt := top 28
abbrev sReadNumber : Stmt := top 29
abbrev sReadRow : Stmt := top 30
abbrev sReadRows : Stmt := top 31
abbrev sShownRow : Stmt := top 32
abbrev sShownRows : Stmt := top 33
abbrev sReadTree : Stmt := top 34
abbrev sShownTree : Stmt := top 35
abbrev sMix : Stmt := top 37
abbrev sCell : Stmt := top 39
abbrev sOlder : Stmt := top 40
abbrev sSize : Stmt := top 41
abbrev sHung : Stmt := top 42
abbrev sTree : Stmt := top 43
abbrev sShown : Stmt := top 45
abbrev sBent : Stmt := top 46
abbrev sLIsTree : Stmt := top 47
abbrev sRefused : Stmt := top 48
abbrev sLaw : Stmt := top 49
end Tw
namespace Tw
open PySem L2
structure Bi (K : PySem.W.Frag) (mg : Str->Option Value) : Prop where
  isinstance : mg "isinstance" = none
  int : mg "int" = none
  bool : mg "bool" = none
  list : mg "list" = none
  len : mg "len" = none
  all : mg "all" = none
  sum : mg "sum" = none
  range : mg "range" = none
  max : mg "max" = none
  min : mg "min" = none
  set : mg "set" = none
  sorted : mg "sorted" = none
  zip : mg "zip" = none
  any : mg "any" = none
  dict : mg "dict" = none
  reversed : mg "reversed" = none
  tuple : mg "tuple" = none
  ii : PySem.W.kitOne K (.type "int") (.type "int") = some true
  ib : PySem.W.kitOne K (.type "int") (.type "bool") = some false
  ll : PySem.W.kitOne K (.type "list") (.type "list") = some true
  bb : PySem.W.kitOne K (.type "bool") (.type "bool") = some true
  tt : PySem.W.kitOne K (.type "tuple") (.type "tuple") = some true
structure Def (K : PySem.W.Frag) (mg : Str->Option Value) (x : Str) (st : Stmt) (ps : List Str) (f : Addr) (fd : FuncData) : Prop where
  fn : Fun K x x st f fd
  bn : Binds K fd ps []
  mg : mg x = some (.ref f)
section
variable {P : Program} {w : World} {K : PySem.W.Frag} {mg : Str->Option Value} {base : Heap}
def spWhole : Sp := fun vs H Q _ => ∃ i : Int, vs = [.int i]/\Q (.bl true) H
theorem scWhole : FnScope ["value"] ["value"] (defScope sWhole) := ⟨rfl, rfl, rfl, by decide +kernel, rfl, by decide +kernel, by decide +kernel⟩
theorem ok_whole {f : Addr} {fd : FuncData} (F : Def K mg "is_whole" sWhole ["value"] f fd) (B : Bi K mg) : FnOk P w K mg base CX0 1 f fd ["value"] spWhole := by
  refine F.fn.ok scWhole (fun vs H Q E h => ?_) (fun cdv A outer s H vs Q E hr h => ?_)
  · obtain ⟨i, rfl, _⟩ := h
    rfl
  · obtain ⟨i, rfl, k⟩ := h
    refine ⟨_, pss_one (ps_ret (pe_and (pe_callB call_isinst (by rfl) B.isinstance PyProof.Rows.boot_isinstance (pa_cons (pv 0) (pa_cons (pe_bltn (v := .ty "int") rfl B.int PyProof.Rows.boot_int rfl) pa_nil)))
      (pe_one (pe_not (pe_callB call_isinst (by rfl) B.isinstance PyProof.Rows.boot_isinstance (pa_cons (pv 0) (pa_cons (pe_bltn (v := .ty "bool") rfl B.bool PyProof.Rows.boot_bool rfl) pa_nil))))))), ?_⟩
    refine ⟨_, rfl, _, _, _, _, rfl, .int i, B.ii, _, rfl, iteT ?_⟩
    exact ⟨_, rfl, _, _, _, _, rfl, .int i, B.ib, _, rfl, k⟩
def spPlace : Sp := fun vs H Q _ => ∃ n v : Int, vs = [.int n, .int v]/\Q (.bl (decide (0 ≤ v/\v < n))) H
theorem scPlace : FnScope ["many", "value"] ["many", "value"] (defScope sPlace) := ⟨rfl, rfl, rfl, by decide +kernel, rfl, by decide +kernel, by decide +kernel⟩
theorem ok_place {f fW : Addr} {fd fdW : FuncData} (F : Def K mg "is_place" sPlace ["many", "value"] f fd) (FW : Def K mg "is_whole" sWhole ["value"] fW fdW) (B : Bi K mg) : FnOk P w K mg base CX0 2 f fd ["many", "value"] spPlace := by
  have GW : FnOk P w K mg base CX0 1 fW fdW ["value"] spWhole := ok_whole FW B
  refine F.fn.ok scPlace (fun vs H Q E h => ?_) (fun cdv A outer s H vs Q E hr h => ?_)
  · obtain ⟨n, v, rfl, _⟩ := h
    rfl
  · obtain ⟨n, v, rfl, k⟩ := h
    refine ⟨_, pss_one (ps_ret (pe_and (pe_call GW hr rfl FW.mg FW.fn.kp FW.bn .nil pass0 (pa_cons (pv 1) pa_nil)) (pe_one (pe_chain op_le op_lt pe_int (pv 1) (pv 0))))), ?_⟩
    refine ⟨_, rfl, v, rfl, _, rfl, iteT ?_⟩
    refine ⟨_, rfl, _, _, rfl, rfl, _, rfl, iteD (fun h0 => ?_) (fun h0 => ?_)⟩
    · refine ⟨_, rfl, _, _, rfl, rfl, ?_⟩
      have e : decide (0 ≤ v/\v < n) = decide (v < n) := by simp [h0]
      rw [e] at k; exact k
    · have e : decide (0 ≤ v/\v < n) = false := by simp [h0]
      rw [e] at k; exact k
def spRoad : Sp := fun vs H Q _ => ∃ (n : Int) (a : Addr) (z : List Int), vs = [.int n, .ref a]/\H a = some (.lst (zV z))/\Q (.bl (isRoadB n z)) H
theorem scRoad : FnScope ["many", "row"] ["many", "row"] (defScope sRoad) := ⟨rfl, rfl, rfl, by decide +kernel, rfl, by decide +kernel, by decide +kernel⟩
theorem ok_road {f fW fP : Addr} {fd fdW fdP : FuncData} (F : Def K mg "is_road" sRoad ["many", "row"] f fd) (FW : Def K mg "is_whole" sWhole ["value"] fW fdW) (FP : Def K mg "is_place" sPlace ["many", "value"] fP fdP) (B : Bi K mg) : FnOk P w K mg base CX0 3 f fd ["many", "row"] spRoad := by
  have GW : FnOk P w K mg base CX0 1 fW fdW ["value"] spWhole := ok_whole FW B
  have GP : FnOk P w K mg base CX0 2 fP fdP ["many", "value"] spPlace := ok_place FP FW B
  refine F.fn.ok scRoad (fun vs H Q E h => ?_) (fun cdv A outer s H vs Q E hr h => ?_)
  · obtain ⟨n, a, z, rfl, _⟩ := h
    rfl
  · obtain ⟨n, a, z, rfl, ha, k⟩ := h
    have hr1 : Room 1 _ := hr.mono (by decide)
    refine ⟨_, pss_cons (ps_if (PW.pt (pw_or (pt_cmpR op_ne (pe_callB call_len_seq (by rfl) B.len PySem.boot_len (pa_cons (pv 1) pa_nil)) pe_int (nomark _))
        (pw_or1 (pt_not (pt_val (pe_call GW hr1 rfl FW.mg FW.fn.kp FW.bn .nil pass0 (pa_cons (pe_ix ix_list (pv 1) pe_int (fun _ _ => rfl)) pa_nil))))))) (pss_one (ps_ret pe_bl)) pss_nil)
      (pss_one (ps_ret (pe_and (pe_call GP hr rfl FP.mg FP.fn.kp FP.bn .nil pass0 (pa_cons (pv 0) (pa_cons (pe_ix ix_list (pv 1) pe_int (fun _ _ => rfl)) pa_nil)))
        (pe_and (pe_call GP hr rfl FP.mg FP.fn.kp FP.bn .nil pass0 (pa_cons (pv 0) (pa_cons (pe_ix ix_list (pv 1) pe_int (fun _ _ => rfl)) pa_nil)))
        (pe_and (pe_cmpR op_ne (pe_ix ix_list (pv 1) pe_int (fun _ _ => rfl)) (pe_ix ix_list (pv 1) pe_int (fun _ _ => rfl)) (nomark _))
        (pe_one (pe_cmpR op_ge (pe_ix ix_list (pv 1) pe_int (fun _ _ => rfl)) pe_int (nomark _)))))))), ?_⟩
    have hl : (zV z).length = z.length := by unfold zV; simp
    refine ⟨_, rfl, a, _, rfl, .inl (SqL.of ha), rfl, _, rfl, ?_⟩
    by_cases h3 : z.length = 3
    · obtain ⟨x, y, l, rfl⟩ : ∃ x y l, z = [x, y, l] := by
        match z, h3 with
        | [x, y, l], _ => exact ⟨x, y, l, rfl⟩
      have at0 : atI (zV [x, y, l]) 0 = some (V.int x) := rfl
      have at1 : atI (zV [x, y, l]) 1 = some (V.int y) := rfl
      have at2 : atI (zV [x, y, l]) 2 = some (V.int l) := rfl
      refine iteF ?_
      refine ⟨_, rfl, a, _, _, _, rfl, rfl, SqL.of ha, at2, l, rfl, _, rfl, iteF ?_⟩
      refine ⟨_, rfl, _, rfl, a, _, _, _, rfl, rfl, SqL.of ha, at0, n, x, rfl, _, rfl, ?_⟩
      have ek : isRoadB n [x, y, l] = (decide (0 ≤ x/\x < n) && decide (0 ≤ y/\y < n) && !decide (x = y) && decide (1 ≤ l)) := rfl
      rw [ek] at k
      refine iteB (fun e1 => ?_) (fun e1 => ?_)
      · rw [e1, Bool.true_and] at k
        refine ⟨_, rfl, _, rfl, a, _, _, _, rfl, rfl, SqL.of ha, at1, n, y, rfl, _, rfl, iteB (fun e2 => ?_) (fun e2 => ?_)⟩
        · rw [e2, Bool.true_and] at k
          refine ⟨_, rfl, a, _, _, _, rfl, rfl, SqL.of ha, at0, _, rfl, a, _, _, _, rfl, rfl, SqL.of ha, at1, rfl, _, rfl, ?_⟩
          have ev : decide (V.int x = V.int y) = decide (x = y) := by
            by_cases e : x = y
            · subst e; simp
            · simp [e]
          rw [ev]
          refine iteB (fun e3 => ?_) (fun e3 => ?_)
          · rw [e3, Bool.true_and] at k
            exact ⟨_, rfl, a, _, _, _, rfl, rfl, SqL.of ha, at2, _, _, rfl, rfl, k⟩
          · rw [e3, Bool.false_and] at k; exact k
        · rw [e2, Bool.false_and, Bool.false_and] at k; exact k
      · rw [e1, Bool.false_and, Bool.false_and, Bool.false_and] at k; exact k
    · have e : isRoadB n z = false := by
        unfold isRoadB
        split
        · simp at h3
        · rfl
      rw [e] at k
      have e2 : (!decide (V.int ((zV z).length : Int) = V.int 3)) = true := by
        rw [hl]
        have : ¬ (V.int (z.length : Int) = V.int 3) := fun q => h3 (by injection q with q; omega)
        rw [decide_eq_false this]; rfl
      rw [e2]
      refine iteT ?_
      exact iteT k
end
end Tw
namespace Tw
open PySem L2
section
variable {P : Program} {w : World} {K : PySem.W.Frag} {mg : Str->Option Value} {base : Heap}
theorem near_put {H : Hp} {D : Addr} {ds : List Addr} {n : Nat} {pre : List Road} {r : Road} (h : NearAt H D ds (nearOf n pre)) (nd : ds.Nodup) (v : Valid n r) {da db : Addr} (ha : ds[r.1.toNat]? = some da) (hb : ds[r.2.1.toNat]? = some db) : NearAt (upd (upd H da (.dK (dV (put (nbOf pre r.1) r.2.1 r.2.2)))) db (.dK (dV (put (nbOf pre r.2.1) r.1 r.2.2)))) D ds (nearOf n (pre ++ [r])) := by
  have hl : ds.length = n := by rw [h.len, nearOf_length]
  have a0 := v.a0; have a1 := v.a1; have b0 := v.b0; have b1 := v.b1; have ne := v.ne
  have inj : ∀ {i j : Nat} {x : Addr}, ds[i]? = some x->ds[j]? = some x->i = j := fun {i j x} e1 e2 => by
    obtain ⟨h1, q1⟩ := List.getElem?_eq_some_iff.mp e1
    obtain ⟨h2, q2⟩ := List.getElem?_eq_some_iff.mp e2
    exact (List.getElem_inj nd).mp (q1.trans q2.symm)
  have dD : ∀ {i : Nat} {x : Addr}, ds[i]? = some x->D ≠ x := fun {i x} e z => by
    have hi : i < n := by rw [← hl]; exact (List.getElem?_eq_some_iff.mp e).1
    have q := h.row i x _ e (nearOf_get hi)
    rw [← z, h.top] at q
    cases q
  refine ⟨?_, by rw [h.len, nearOf_length, nearOf_length], fun i p d e1 e2 => ?_⟩
  · rw [upd_ne (dD hb), upd_ne (dD ha)]; exact h.top
  · have hi : i < n := by rw [← hl]; exact (List.getElem?_eq_some_iff.mp e1).1
    rw [nearOf_get hi] at e2
    cases e2
    rw [nbOf_snoc]
    have old := h.row i p _ e1 (nearOf_get hi)
    unfold nb1
    by_cases ib : i = r.2.1.toNat
    · have ep : p = db := by rw [ib, hb] at e1; exact (Option.some.inj e1).symm
      subst ep
      have e3 : ((i : Nat) : Int) = r.2.1 := by omega
      rw [upd_same, e3, if_neg ne, if_pos rfl]
    · have np : p ≠ db := fun z => ib (inj e1 (z ▸ hb))
      rw [upd_ne np]
      by_cases ia : i = r.1.toNat
      · have ep : p = da := by rw [ia, ha] at e1; exact (Option.some.inj e1).symm
        subst ep
        have e3 : ((i : Nat) : Int) = r.1 := by omega
        rw [upd_same, e3, if_pos rfl]
      · have np2 : p ≠ da := fun z => ia (inj e1 (z ▸ ha))
        rw [upd_ne np2, if_neg (by omega), if_neg (by omega)]
        exact old
def spNear : Sp := fun vs H Q _ => ∃ (n : Nat) (a : Addr) (as : List Addr) (rs : List Road), vs = [.int n, .ref a]/\RowsAt H a as (rs.map rowI)/\n ≤ 12/\(∀ r ∈ rs, Valid n r)/\rs.length ≤ 100 ∧
  ∀ (D : Addr) (ds : List Addr) (H' : Hp), Same H H'->NearAt H' D ds (nearOf n rs)->Q (.ref D) H'
theorem scNear : FnScope ["many", "roads", "near", "row"] ["many", "roads"] (defScope sNear) := ⟨rfl, rfl, rfl, by decide +kernel, rfl, by decide +kernel, by decide +kernel⟩
theorem atI_int {α : Type} {xs : List α} {i : Int} {v : α} (h0 : 0 ≤ i) (h : xs[i.toNat]? = some v) : atI xs i = some v := by
  have e : i = ((i.toNat : Nat) : Int) := by omega
  rw [e]; exact atI_nat h
theorem get_ref {as : List Addr} {i : Nat} {y : V} (h : (as.map V.ref)[i]? = some y) : ∃ p, as[i]? = some p/\y = V.ref p := by
  rw [List.getElem?_map] at h
  cases e : as[i]? with
  | none => rw [e] at h; cases h
  | some p => rw [e] at h; exact ⟨p, rfl, (Option.some.inj h).symm⟩
theorem ref_get {as : List Addr} {i : Nat} {p : Addr} (h : as[i]? = some p) : (as.map V.ref)[i]? = some (V.ref p) := by rw [List.getElem?_map, h]; rfl
theorem nodup_snoc {l : List Addr} {p : Addr} (h : l.Nodup) (hp : p ∉ l) : (l ++ [p]).Nodup :=
  List.nodup_append.mpr ⟨h, by simp, fun a ha b hb e => by
    have : b = p := by simpa using hb
    exact hp (by rw [← this, ← e]; exact ha)⟩
theorem ok_near {f : Addr} {fd : FuncData} (F : Def K mg "neighbours" sNear ["many", "roads"] f fd) (B : Bi K mg) : FnOk P w K mg base CX0 1 f fd ["many", "roads"] spNear := by
  refine F.fn.ok scNear (fun vs H Q E h => ?_) (fun cdv A outer s H vs Q E hr h => ?_)
  · obtain ⟨n, a, as, rs, rfl, _⟩ := h
    rfl
  · obtain ⟨n, a, as, rs, rfl, hR, hn, hv, hlen, k⟩ := h
    have hu := hu_of hr
    refine ⟨_, pss_cons (ps_setC (defScope sNear).names ["many", "roads", "near", "row"] ["many", "roads", "near", "row", "place"] 2 scNear.nd rfl (Or.inl rfl) (pi_range1 rfl B.range (pa_cons (pv 0) pa_nil)) (fun _ _ _ _ => pf_nil) (fun _ _ _ _ => pe_dnewK))
      (pss_cons (ps_for PassesOwn.never rfl (pi_list (pv 1)) (pg_name (i := 3) scNear.nd rfl (Or.inl rfl))
        (pss_cons (ps_dput hu (pe_ix ix_list (pv 2) (pe_ix ix_list (pv 3) pe_int (fun _ _ => rfl)) (fun _ _ => rfl)) (pe_ix ix_list (pv 3) pe_int (fun _ _ => rfl)) (pe_ix ix_list (pv 3) pe_int (fun _ _ => rfl)) rfl)
        (pss_one (ps_dput hu (pe_ix ix_list (pv 2) (pe_ix ix_list (pv 3) pe_int (fun _ _ => rfl)) (fun _ _ => rfl)) (pe_ix ix_list (pv 3) pe_int (fun _ _ => rfl)) (pe_ix ix_list (pv 3) pe_int (fun _ _ => rfl)) rfl))))
      (pss_one (ps_ret (pv 2)))), ?_⟩
    refine ⟨_, rfl, (n : Int), rfl, by omega, by omega, fun D hD => ?_⟩
    rw [Int.toNat_natCast]
    refine comp_range (fun i ys H2 => ∃ ds : List Addr, ys = ds.map V.ref/\ds.length = i/\ds.Nodup/\H2 D = some (.lst ys)/\(∀ d ∈ ds, H2 d = some (.dK [])/\d ≠ D/\H d = none)/\Same H H2/\i ≤ n) (fun i ys H2 ⟨_, _, _, _, q, _⟩ => q)
      ⟨[], rfl, rfl, List.nodup_nil, upd_same, (fun _ z => nomatch z), same_upd hD, Nat.zero_le _⟩ ?_ ?_
    · rintro i ys H2 hi ⟨ds, rfl, hl, nd, hDl, hds, sm, hin⟩
      refine yesI ?_
      intro p hp
      have npD : D ≠ p := ne_of_none hDl hp
      have npd : ∀ d ∈ ds, d ≠ p := fun d hd => ne_of_none (hds d hd).1 hp
      refine ⟨by rw [upd_ne npD]; exact hDl, ?_, ds ++ [p], by rw [List.map_append]; rfl, by rw [List.length_append, hl]; rfl, nodup_snoc nd (fun z => npd p z rfl), upd_same, fun d hd => ?_, fun b o e => ?_, hi⟩
      · rw [List.length_map, hl]; exact small1000 (by omega)
      · rcases List.mem_append.mp hd with z | z
        · exact ⟨by rw [upd_ne (hds d z).2.1, upd_ne (npd d z)]; exact (hds d z).1, (hds d z).2⟩
        · have e : d = p := by simpa using z
          subst e
          exact ⟨by rw [upd_ne npD.symm, upd_same], npD.symm, sm.free hp⟩
      · have e2 := sm b o e
        have nb : b ≠ D := ne_of_none e hD
        rw [upd_ne nb, upd_ne (ne_of_none e2 hp)]
        exact e2
    · rintro ys H2 ⟨ds, rfl, hl, nd, hDl, hds, sm, _⟩
      have hN0 : NearAt H2 D ds (nearOf n []) := ⟨hDl, by rw [nearOf_length]; exact hl, fun i p d e1 e2 => by
        have hi : i < n := by rw [← hl]; exact (List.getElem?_eq_some_iff.mp e1).1
        rw [nearOf_get hi] at e2
        cases e2
        exact (hds p (List.mem_of_getElem? e1)).1⟩
      refine ⟨_, rfl, a, rfl, ⟨_, SqL.of (hR.mono sm).top⟩, for_list (K := K) (a := a) (xs := as.map V.ref) (fun i σ H3 => ∃ v, σ = [some (.int n), some (.ref a), some (.ref D), v]/\Same H H3/\NearAt H3 D ds (nearOf n (rs.take i)))
        ⟨none, rfl, sm, hN0⟩ (fun i σ H3 _ ⟨_, _, s3, _⟩ => SqL.of (hR.mono s3).top) ?_ ?_⟩
      · rintro i y σ H3 hi ⟨v, rfl, s3, hN3⟩
        obtain ⟨p, hp, rfl⟩ := get_ref hi
        have hil : i < rs.length := by
          have := (List.getElem?_eq_some_iff.mp hp).1
          have l2 := hR.len
          rw [List.length_map] at l2
          omega
        obtain ⟨r, er⟩ : ∃ r, rs[i]? = some r := ⟨rs[i], by simp [hil]⟩
        have V0 := hv r (List.mem_of_getElem? er)
        have a0 := V0.a0; have a1 := V0.a1; have b0 := V0.b0; have b1 := V0.b1; have ne := V0.ne
        have hrow : H3 p = some (.lst [.int r.1, .int r.2.1, .int r.2.2]) := (hR.mono s3).row i p (rowI r) hp (by rw [List.getElem?_map, er]; rfl)
        have hdl : ds.length = n := hl
        obtain ⟨da, eda⟩ : ∃ d, ds[r.1.toNat]? = some d := ⟨ds[r.1.toNat]'(by omega), List.getElem?_eq_getElem _⟩
        obtain ⟨db, edb⟩ : ∃ d, ds[r.2.1.toNat]? = some d := ⟨ds[r.2.1.toNat]'(by omega), List.getElem?_eq_getElem _⟩
        have ga : (nearOf n (rs.take i))[r.1.toNat]? = some (nbOf (rs.take i) r.1) := by
          rw [nearOf_get (by omega)]
          have : ((r.1.toNat : Nat) : Int) = r.1 := by omega
          rw [this]
        have gb : (nearOf n (rs.take i))[r.2.1.toNat]? = some (nbOf (rs.take i) r.2.1) := by
          rw [nearOf_get (by omega)]
          have : ((r.2.1.toNat : Nat) : Int) = r.2.1 := by omega
          rw [this]
        have hda := hN3.row _ _ _ eda ga
        have hdb := hN3.row _ _ _ edb gb
        have ndab : db ≠ da := fun z => by
          obtain ⟨h1, q1⟩ := List.getElem?_eq_some_iff.mp eda
          obtain ⟨h2, q2⟩ := List.getElem?_eq_some_iff.mp edb
          have := (List.getElem_inj nd).mp (q1.trans (z.symm.trans q2.symm))
          omega
        have npa : p ≠ da := ne_of hrow hda (by intro z; cases z)
        have nDa : D ≠ da := ne_of hN3.top hda (by intro z; cases z)
        have sz : ∀ v, (dV (nbOf (rs.take i) v)).length < sizeLine := fun v => by
          rw [dV_length]
          have q := nbOf_length_le (rs.take i) v
          have q2 : (rs.take i).length ≤ rs.length := by rw [List.length_take]; omega
          exact small1000 (by omega)
        refine ⟨_, rfl, p, _, _, _, rfl, rfl, SqL.of hrow, rfl, _, rfl, _, rfl, p, _, _, _, rfl, rfl, SqL.of hrow, rfl, D, _, _, _, rfl, rfl, SqL.of hN3.top, atI_int a0 (ref_get eda), _, rfl, p, _, _, _, rfl, rfl, SqL.of hrow, rfl, da, _, rfl, DPut.k (k := Sum.inl r.2.1) hda (sz _), ?_⟩
        have hrow2 : (upd H3 da (HO.dK (putK (dV (nbOf (rs.take i) r.1)) (Sum.inl r.2.1 : Key) (V.int r.2.2)))) p = some (.lst [.int r.1, .int r.2.1, .int r.2.2]) := by rw [upd_ne npa]; exact hrow
        have hD2 : (upd H3 da (HO.dK (putK (dV (nbOf (rs.take i) r.1)) (Sum.inl r.2.1 : Key) (V.int r.2.2)))) D = some (.lst (ds.map V.ref)) := by rw [upd_ne nDa]; exact hN3.top
        have hdb2 : (upd H3 da (HO.dK (putK (dV (nbOf (rs.take i) r.1)) (Sum.inl r.2.1 : Key) (V.int r.2.2)))) db = some (.dK (dV (nbOf (rs.take i) r.2.1))) := by rw [upd_ne ndab]; exact hdb
        refine ⟨_, rfl, p, _, _, _, rfl, rfl, SqL.of hrow2, rfl, _, rfl, _, rfl, p, _, _, _, rfl, rfl, SqL.of hrow2, rfl, D, _, _, _, rfl, rfl, SqL.of hD2, atI_int b0 (ref_get edb), _, rfl, p, _, _, _, rfl, rfl, SqL.of hrow2, rfl, db, _, rfl, DPut.k (k := Sum.inl r.1) hdb2 (sz _), ?_⟩
        refine ⟨_, rfl, fun b o e => ?_, ?_⟩
        · rw [upd_ne (ne_of_none e (hds db (List.mem_of_getElem? edb)).2.2), upd_ne (ne_of_none e (hds da (List.mem_of_getElem? eda)).2.2)]
          exact s3 b o e
        · rw [dV_put, dV_put, List.take_add_one, er]
          exact near_put hN3 nd V0 eda edb
      · rintro σ H3 ⟨v, rfl, s3, hN3⟩
        refine ⟨_, rfl, k D ds H3 s3 ?_⟩
        have l2 := hR.len
        rw [List.length_map] at l2
        rw [List.length_map, l2, List.take_length] at hN3
        exact hN3
end
end Tw
namespace Tw
open PySem L2
section
variable {P : Program} {w : World} {K : PySem.W.Frag} {mg : Str->Option Value} {base : Heap}
def spSteps : Sp := fun vs H Q _ => ∃ (n : Nat) (D : Addr) (ds : List Addr) (rs : List Road) (g : Int), vs = [.ref D, .int g]/\NearAt H D ds (nearOf n rs)/\n ≤ 12/\(∀ r ∈ rs, Valid n r)/\0 ≤ g/\g < n ∧
  ∀ (S : Addr) (st : List (Int × Int)) (H' : Hp), Same H H'->H S = none->H' S = some (.dK (dV st))->Srch n (nbOf rs) g st.length st->Q (.ref S) H'
theorem scSteps : FnScope ["near", "goal", "steps", "reached", "done", "here", "place"] ["near", "goal"] (defScope sSteps) := ⟨rfl, rfl, rfl, by decide +kernel, rfl, by decide +kernel, by decide +kernel⟩
theorem adj_rng {n : Nat} {rs : List Road} (hv : ∀ r ∈ rs, Valid n r) {q p : Int} (h : p ∈ (nbOf rs q).map (·.1)) : 0 ≤ p/\p < n := by
  obtain ⟨r, hr, j⟩ := (nbOf_keys rs q p).mp h
  have v := hv r hr
  have := v.a0; have := v.a1; have := v.b0; have := v.b1
  rcases j with ⟨a, b⟩ | ⟨a, b⟩ <;> omega
theorem zV_append (a : List Int) (x : Int) : zV a ++ [V.int x] = zV (a ++ [x]) := by unfold zV; rw [List.map_append]; rfl
theorem zV_get {z : List Int} {i : Nat} {x : Int} (h : z[i]? = some x) : (zV z)[i]? = some (V.int x) := by unfold zV; rw [List.getElem?_map, h]; rfl
theorem zV_length (z : List Int) : (zV z).length = z.length := by unfold zV; simp
theorem dV_get {d : List (Int × Int)} {i : Nat} {kv : Key × V} (h : (dV d)[i]? = some kv) : ∃ p q, d[i]? = some (p, q)/\kv = (Sum.inl p, V.int q) := by
  unfold dV at h
  rw [List.getElem?_map] at h
  cases e : d[i]? with
  | none => rw [e] at h; cases h
  | some p => rw [e] at h; exact ⟨p.1, p.2, rfl, (Option.some.inj h).symm⟩
theorem len_le_of_nodup : ∀ (m : Nat) (l : List Int), l.Nodup->(∀ x ∈ l, 0 ≤ x/\x < m)->l.length ≤ m := by
  intro m
  induction m with
  | zero =>
    intro l _ h
    cases l with
    | nil => exact Nat.le_refl _
    | cons x t => have := h x (by simp); omega
  | succ m ih =>
    intro l hn h
    by_cases hm : ((m : Nat) : Int) ∈ l
    · have hp := List.perm_cons_erase hm
      rw [hp.length_eq, List.length_cons]
      obtain ⟨h1, h2⟩ := List.nodup_cons.mp (hp.nodup_iff.mp hn)
      have := ih (l.erase (m : Int)) h2 fun x hx => by
        have b := h x (List.mem_of_mem_erase hx)
        have : x ≠ (m : Int) := fun e => h1 (e ▸ hx)
        omega
      omega
    · have := ih l hn fun x hx => by
        have b := h x hx
        have : x ≠ (m : Int) := fun e => hm (e ▸ hx)
        omega
      omega
theorem Mid.length {n : Nat} {nb : Int->List (Int × Int)} {g : Int} {k i : Nat} {q : Int} {st : List (Int × Int)} (s : Mid n nb g k i q st) : st.length ≤ n := by
  have := len_le_of_nodup n (st.map (·.1)) s.nd fun x hx => by
    obtain ⟨p, hp, e⟩ := List.mem_map.mp hx
    rw [← e]; exact s.rng p hp
  simpa using this
theorem ok_steps {f : Addr} {fd : FuncData} (F : Def K mg "steps_to" sSteps ["near", "goal"] f fd) (B : Bi K mg) : FnOk P w K mg base CX0 1 f fd ["near", "goal"] spSteps := by
  refine F.fn.ok scSteps (fun vs H Q E h => ?_) (fun cdv A outer s H vs Q E hr h => ?_)
  · obtain ⟨n, D, ds, rs, g, rfl, _⟩ := h
    rfl
  · obtain ⟨n, D, ds, rs, g, rfl, hN, hn, hv, hg0, hg1, k⟩ := h
    have hu := hu_of hr
    have nd := scSteps.nd
    refine ⟨_, pss_cons (ps_set (i := 2) nd rfl (Or.inl rfl) (pe_disp (pps_cons (pv 1) (pv 1) pps_nil) rfl rfl (by simp) (by decide)))
      (pss_cons (ps_set (i := 3) nd rfl (Or.inl rfl) (pe_lst (pa_cons (pv 1) pa_nil)))
      (pss_cons (ps_set (i := 4) nd rfl (Or.inl rfl) pe_int)
      (pss_cons (ps_while PassesOwn.never (pt_cmpR op_lt (pv 4) (pe_callB call_len_seq (by rfl) B.len PySem.boot_len (pa_cons (pv 3) pa_nil)) (nomark _))
        (pss_cons (ps_set (i := 5) nd rfl (Or.inl rfl) (pe_ix ix_list (pv 3) (pv 4) (fun _ _ => rfl)))
        (pss_cons (ps_thaw (ps_for PassesOwn.never rfl (pi_dict (pe_ix ix_list (pv 0) (pv 5) (fun _ _ => rfl))) (pg_name (i := 6) nd rfl (Or.inl rfl))
          (pss_one (ps_if (pt_cmp (pc_dnotin hu (pv 6) (pv 2)))
            (pss_cons (ps_dput hu (pv 2) (pv 6) (pv 5) rfl)
            (pss_one (ps_expr (pe_bm PySem.F.plainAttrs_list PySem.F.slot_list_append PySem.F.type_list_append mt_append (pv 3) (pa_cons (pv 6) pa_nil)))))
            pss_nil))))
        (pss_one (ps_aug (i := 4) nd rfl (Or.inl rfl) pe_int ip_add)))))
      (pss_one (ps_ret (pv 2)))))), ?_⟩
    intro S hS
    refine ⟨_, rfl, _, rfl, upd_same, [(Sum.inl g, V.int g)], rfl, by show 1 ≤ 15; decide, ?_⟩
    have eS : mergeK [] [((Sum.inl g : Key), V.int g)] = dV [(g, g)] := rfl
    rw [eS]
    refine ⟨_, rfl, by show 1 ≤ sizeLine; exact len12 (by decide), fun R hR => ?_⟩
    have nRS : R ≠ S := fun z => by rw [z, upd_same] at hR; cases hR
    have hR0 : H R = none := by
      rw [upd_ne nRS, upd_ne nRS] at hR; exact hR
    have dl : ds.length = n := by rw [hN.len, nearOf_length]
    refine ⟨fun m σ H2 => ∃ (k : Nat) (st : List (Int × Int)) (v5 v6 : Option V), m = n - k/\σ = [some (.ref D), some (.int g), some (.ref S), some (.ref R), some (.int k), v5, v6]/\k ≤ st.length ∧
      Same H H2/\H2 S = some (.dK (dV st))/\H2 R = some (.lst (zV (st.map (·.1))))/\Srch n (nbOf rs) g k st, ⟨n, 0, [(g, g)], none, none, rfl, rfl, Nat.zero_le _, ?_, ?_, ?_, Srch.start hg0 hg1⟩, ?_⟩
    · intro b o e
      rw [upd_ne (ne_of_none e hR0), upd_ne (ne_of_none e hS), upd_ne (ne_of_none e hS)]; exact e
    · rw [upd_ne nRS.symm, upd_same]
    · rw [upd_same]; rfl
    · rintro m σ H2 ⟨k0, st, v5, v6, rfl, rfl, hk, sm, hS2, hR2, sr⟩
      refine ⟨_, rfl, _, rfl, R, _, rfl, .inl (SqL.of hR2), _, _, rfl, rfl, _, rfl, ?_⟩
      have hle := sr.length
      refine iteD (fun hlt => ?_) (fun hge => ?_)
      · rw [zV_length, List.length_map] at hlt
        have hlt' : k0 < st.length := by omega
        obtain ⟨q, hq⟩ : ∃ q, (st.map (·.1))[k0]? = some q := ⟨(st.map (·.1))[k0]'(by simpa using hlt'), List.getElem?_eq_getElem _⟩
        have hqr : 0 ≤ q/\q < n := by
          have := List.mem_of_getElem? hq
          obtain ⟨p, hp, e⟩ := List.mem_map.mp this
          rw [← e]; exact sr.rng p hp
        obtain ⟨d, hd⟩ : ∃ d, ds[q.toNat]? = some d := ⟨ds[q.toNat]'(by omega), List.getElem?_eq_getElem _⟩
        have gq : (nearOf n rs)[q.toNat]? = some (nbOf rs q) := by
          rw [nearOf_get (by omega)]
          have : ((q.toNat : Nat) : Int) = q := by omega
          rw [this]
        have hdH : H d = some (.dK (dV (nbOf rs q))) := hN.row _ _ _ hd gq
        have hd2 := sm _ _ hdH
        have hD2 := sm _ _ hN.top
        have nSd : S ≠ d := fun z => by rw [z] at hS; rw [hS] at hdH; cases hdH
        have nRd : R ≠ d := fun z => by rw [z] at hR0; rw [hR0] at hdH; cases hdH
        refine ⟨fun σ' H' => ∃ (st' : List (Int × Int)) (v5 v6 : Option V), σ' = [some (.ref D), some (.int g), some (.ref S), some (.ref R), some (.int ((k0 : Int) + 1)), v5, v6]/\k0 + 1 ≤ st'.length ∧
          Same H H'/\H' S = some (.dK (dV st'))/\H' R = some (.lst (zV (st'.map (·.1))))/\Srch n (nbOf rs) g (k0 + 1) st', ?_, ?_⟩
        · rintro σ' H' ⟨st', v5, v6, rfl, h1, h2, h3, h4, h5⟩
          have := h5.length
          exact ⟨n - (k0 + 1), by omega, k0 + 1, st', v5, v6, rfl, by simp, h1, h2, h3, h4, h5⟩
        · refine ⟨_, rfl, _, rfl, R, _, _, _, rfl, rfl, SqL.of hR2, atI_nat (zV_get hq), ?_⟩
          refine ⟨_, rfl, _, rfl, D, _, _, _, rfl, rfl, SqL.of hD2, atI_int hqr.1 (ref_get hd), d, _, rfl, hd2, fun o => ?_⟩
          refine for_dict (fun i σ H4 => ∃ (st' : List (Int × Int)) (v6 : Option V), σ = [some (.ref D), some (.int g), some (.ref S), some (.ref R), some (.int k0), some (.int q), v6]/\Mid n (nbOf rs) g k0 i q st' ∧
            H4 S = some (.dK (dV st'))/\H4 R = some (.lst (zV (st'.map (·.1))))/\H4 d = some (.frz o (.dK (dV (nbOf rs q))))/\(∀ b u, H b = some u->b ≠ d->H4 b = some u)) ?_ ?_ ?_ ?_
          · exact ⟨st, _, rfl, sr.mid hq, by rw [upd_ne nSd]; exact hS2, by rw [upd_ne nRd]; exact hR2, upd_same, fun b u e nb => by rw [upd_ne nb]; exact sm b u e⟩
          · rintro i σ H4 _ ⟨_, _, _, _, _, _, h, _⟩; exact h
          · rintro i kv σ H4 hi ⟨st', v6, rfl, md, hS4, hR4, hd4, sm4⟩
            obtain ⟨p, l, hpl, rfl⟩ := dV_get hi
            have hp : ((nbOf rs q).map (·.1))[i]? = some p := by rw [List.getElem?_map, hpl]; rfl
            have pr := adj_rng hv (List.mem_of_getElem? hp)
            have l' : st'.length ≤ n := md.length
            refine ⟨_, rfl, _, rfl, S, _, rfl, DGet.k (k := Sum.inl p) hS4, _, rfl, ?_⟩
            rw [dV_val]
            refine iteN (fun e => ?_) (fun e => ?_)
            · have hnp : p ∉ st'.map (·.1) := of_decide_eq_false e
              refine ⟨_, rfl, _, rfl, _, rfl, S, _, rfl, DPut.k (k := Sum.inl p) hS4 (by rw [dV_length]; exact small1000 (by omega)), ?_⟩
              have nRS' : R ≠ S := nRS
              refine ⟨_, rfl, .inl ⟨rfl, _, SqL.of (by rw [upd_ne nRS']; exact hR4)⟩, _, rfl, R, _, _, rfl, rfl, by rw [upd_ne nRS']; exact hR4, by rw [zV_length, List.length_map]; exact small1000 (by omega), ?_⟩
              refine ⟨st' ++ [(p, q)], _, rfl, md.new hp hnp pr.1 pr.2, ?_, ?_, ?_, ?_⟩
              · rw [upd_ne nRS.symm, upd_same, dV_put, put_new hnp]
              · rw [upd_same]
                show some (HO.lst (zV (st'.map (·.1)) ++ [V.int p])) = _
                rw [zV_append, List.map_append]; rfl
              · rw [upd_ne nRd.symm, upd_ne nSd.symm]; exact hd4
              · intro b u e nb
                rw [upd_ne (ne_of_none e hR0), upd_ne (ne_of_none e hS)]; exact sm4 b u e nb
            · have hp' : p ∈ st'.map (·.1) := of_decide_eq_true e
              exact ⟨st', _, rfl, md.old hp hp', hS4, hR4, hd4, sm4⟩
          · rintro σ H4 ⟨st', v6, rfl, md, hS4, hR4, hd4, sm4⟩
            refine ⟨d, o, _, hd4, (fun o' u' z => by rw [hd2] at z; cases z), ?_⟩
            refine ⟨_, rfl, _, _, rfl, rfl, ?_⟩
            have sd := md.done (by rw [dV_length])
            refine ⟨st', _, _, rfl, ?_, ?_, by rw [upd_ne nSd]; exact hS4, by rw [upd_ne nRd]; exact hR4, sd⟩
            · have := (List.getElem?_eq_some_iff.mp md.here).1
              rw [List.length_map] at this; omega
            · intro b u e
              by_cases nb : b = d
              · subst nb; rw [upd_same, ← hdH]; exact e.symm ▸ rfl
              · rw [upd_ne nb]; exact sm4 b u e nb
      · rw [zV_length, List.length_map] at hge
        have e : k0 = st.length := by omega
        subst e
        exact ⟨_, rfl, k S st H2 sm hS hS2 sr⟩
end
end Tw
namespace Tw
open PySem L2
section
variable {P : Program} {w : World} {K : PySem.W.Frag} {mg : Str->Option Value} {base : Heap}
theorem take_pl {n i : Nat} (h : i < n) : (pl n).take (i + 1) = (pl n).take i ++ [(i : Int)] := by
  rw [List.take_add_one, pl_get h]; rfl
theorem map_rowI_inj : ∀ {rs qs : List Road}, rs.map rowI = qs.map rowI->rs = qs
  | [], [], _ => rfl
  | [], _ :: _, h => by simp at h
  | _ :: _, [], h => by simp at h
  | r :: rs, q :: qs, h => by
    rw [List.map_cons, List.map_cons] at h
    injection h with h1 h2
    rw [rowI_inj h1, map_rowI_inj h2]
theorem dec_vint (i j : Int) : decide (V.int i = V.int j) = decide (i = j) := by
  by_cases e : i = j
  · subst e; simp
  · simp [e]
theorem IsTree.iff {n : Nat} {rs : List Road} (h1 : 1 ≤ n) (h2 : n ≤ 12) (hl : (rs.length : Int) = n - 1) (hv : ∀ r ∈ rs, Valid n r) : IsTree n (rs.map rowI)<->Conn n rs := by
  constructor
  · rintro ⟨_, _, _, qs, e, _, c⟩
    rw [map_rowI_inj e]; exact c
  · intro c
    exact ⟨by omega, by omega, by rw [List.length_map]; exact hl, rs, rfl, hv, c⟩
def spIsTree : Sp := fun vs H Q _ => ∃ (n : Int) (a : Addr) (as : List Addr) (zss : List (List Int)), vs = [.int n, .ref a]/\RowsAt H a as zss/\zss.length ≤ 100 ∧
  ∀ (b : Bool) (H' : Hp), Same H H'->(b = true<->IsTree n zss)->Q (.bl b) H'
theorem scIsTree : FnScope ["many", "roads"] ["many", "roads"] (defScope sIsTree) := ⟨rfl, rfl, rfl, by decide +kernel, rfl, by decide +kernel, by decide +kernel⟩
theorem ok_istree {f fW fP fR fN fS : Addr} {fd fdW fdP fdR fdN fdS : FuncData} (F : Def K mg "is_tree" sIsTree ["many", "roads"] f fd) (FW : Def K mg "is_whole" sWhole ["value"] fW fdW) (FP : Def K mg "is_place" sPlace ["many", "value"] fP fdP) (FR : Def K mg "is_road" sRoad ["many", "row"] fR fdR) (FN : Def K mg "neighbours" sNear ["many", "roads"] fN fdN) (FS : Def K mg "steps_to" sSteps ["near", "goal"] fS fdS) (B : Bi K mg) {tm : Tok} (hM : mg "MOST_PLACES" = some (.int 12 tm)) : FnOk P w K mg base CX0 4 f fd ["many", "roads"] spIsTree := by
  have GW : FnOk P w K mg base CX0 1 fW fdW ["value"] spWhole := ok_whole FW B
  have GR : FnOk P w K mg base CX0 3 fR fdR ["many", "row"] spRoad := ok_road FR FW FP B
  have GN : FnOk P w K mg base CX0 1 fN fdN ["many", "roads"] spNear := ok_near FN B
  have GS : FnOk P w K mg base CX0 1 fS fdS ["near", "goal"] spSteps := ok_steps FS B
  refine F.fn.ok scIsTree (fun vs H Q E h => ?_) (fun cdv A outer s H vs Q E hr h => ?_)
  · obtain ⟨n, a, as, zss, rfl, _⟩ := h
    rfl
  · obtain ⟨n, a, as, zss, rfl, hR, hz, k⟩ := h
    have hr1 : Room 1 _ := hr.mono (by decide)
    refine ⟨_, pss_cons (ps_if (PW.pt (pw_or (pt_not (pt_val (pe_call GW hr1 rfl FW.mg FW.fn.kp FW.bn .nil pass0 (pa_cons (pv 0) pa_nil))))
          (pw_or (pt_cmpR op_lt (pv 0) pe_int (nomark _)) (pw_or1 (pt_cmpR op_gt (pv 0) (pe_glob (v := .int 12) rfl hM ⟨_, rfl⟩) (nomark _)))))) (pss_one (ps_ret pe_bl)) pss_nil)
      (pss_cons (ps_if (PW.pt (pw_or (pt_cmpR op_ne (pe_callB call_len_seq (by rfl) B.len PySem.boot_len (pa_cons (pv 1) pa_nil)) (pe_op op_sub (pv 0) pe_int) (nomark _))
          (pw_or1 (pt_not (pt_val (pe_callB (call_all rfl) (by rfl) B.all PyProof.Rows.boot_all (pa_cons (pe_comp (defScope sIsTree).names ["many", "roads"] ["many", "roads", "row"] (pi_list (pv 1)) (fun _ _ _ _ => pf_nil)
            (fun _ _ _ _ => pe_call GR hr rfl FR.mg FR.fn.kp FR.bn .nil pass0 (pa_cons (pv 0) (pa_cons (pv 2) pa_nil)))) pa_nil))))))) (pss_one (ps_ret pe_bl)) pss_nil)
      (pss_one (ps_ret (pe_cmpR op_eq (pe_callB call_lenD (by rfl) B.len PySem.boot_len (pa_cons (pe_call GS hr1 rfl FS.mg FS.fn.kp FS.bn .nil pass0
        (pa_cons (pe_call GN hr1 rfl FN.mg FN.fn.kp FN.bn .nil pass0 (pa_cons (pv 0) (pa_cons (pv 1) pa_nil))) (pa_cons pe_int pa_nil))) pa_nil)) (pv 0) (nomark _))))), ?_⟩
    refine ⟨_, rfl, n, rfl, _, rfl, iteF ?_⟩
    refine ⟨_, rfl, _, _, rfl, rfl, _, rfl, ?_⟩
    refine iteD (fun h1 => ?_) (fun h1 => ?_)
    · refine iteT ?_
      exact k false H (Same.refl H) ⟨(fun z => nomatch z), fun t => absurd t.lo (by omega)⟩
    refine ⟨_, rfl, _, _, rfl, rfl, _, rfl, ?_⟩
    refine iteD (fun h2 => ?_) (fun h2 => ?_)
    · exact k false H (Same.refl H) ⟨(fun z => nomatch z), fun t => absurd t.hi (by omega)⟩
    obtain ⟨m, rfl⟩ : ∃ m : Nat, n = (m : Int) := ⟨n.toNat, by omega⟩
    have m1 : 1 ≤ m := by omega
    have m2 : m ≤ 12 := by omega
    have len : as.length = zss.length := hR.len
    refine ⟨_, rfl, a, _, rfl, .inl (SqL.of hR.top), _, rfl, _, _, rfl, rfl, rfl, _, rfl, ?_⟩
    rw [dec_vint, List.length_map, len]
    refine iteN (fun e => ?_) (fun e => ?_)
    · refine iteT ?_
      have := of_decide_eq_false e
      exact k false H (Same.refl H) ⟨(fun z => nomatch z), fun t => absurd t.len (by omega)⟩
    have hlen := of_decide_eq_true e
    refine ⟨_, rfl, a, rfl, ⟨_, SqL.of hR.top⟩, fun D hD => ?_⟩
    refine comp_list (K := K) (a := a) (xs := as.map V.ref) (fun i ys H2 => ys = ((zss.take i).map (isRoadB m)).map V.bl/\H2 D = some (.lst ys)/\Same H H2) ?_ ?_ ?_ ?_
    · rintro i ys H2 ⟨_, h2, sm⟩
      exact ⟨h2, SqL.of (sm _ _ hR.top)⟩
    · exact ⟨rfl, upd_same, same_upd hD⟩
    · rintro i y ys H2 hi ⟨rfl, hD2, sm⟩
      obtain ⟨p, hp, rfl⟩ := get_ref hi
      have hil : i < zss.length := by
        have := (List.getElem?_eq_some_iff.mp hp).1
        omega
      have er : zss[i]? = some zss[i] := List.getElem?_eq_getElem hil
      refine yesI ?_
      refine ⟨_, rfl, _, rfl, (m : Int), p, zss[i], rfl, sm _ _ (hR.row i p _ hp er), hD2, ?_, ?_, upd_same, ?_⟩
      · rw [List.length_map, List.length_map, List.length_take]; exact small1000 (by omega)
      · rw [List.take_add_one, er, List.map_append, List.map_append]; rfl
      · exact fun b o e => by rw [upd_ne (ne_of_none e hD)]; exact sm b o e
    · rintro ys H2 ⟨rfl, hD2, sm⟩
      rw [List.length_map, len, List.take_length] at hD2
      refine ⟨D, zss.map (isRoadB m), rfl, SqL.of hD2, _, rfl, ?_⟩
      have ea : (zss.map (isRoadB m)).all id = zss.all (isRoadB m) := by rw [List.all_map]; rfl
      rw [ea]
      refine iteN (fun e => ?_) (fun e => ?_)
      · refine k false H2 sm ⟨(fun z => nomatch z), fun t => ?_⟩
        obtain ⟨rs, e2, v, _⟩ := t.ex
        rw [e2, all_roads.mpr v] at e; cases e
      · obtain ⟨rs, rfl, v⟩ := rows_roads e
        rw [List.length_map] at hlen hz
        refine ⟨_, rfl, _, rfl, m, a, as, rs, rfl, hR.mono sm, m2, v, hz, fun E ds H3 sm3 hN => ?_⟩
        refine ⟨m, E, ds, rs, 0, rfl, hN, m2, v, by omega, by omega, fun S st H4 sm4 hS0 hS4 sr => ?_⟩
        refine ⟨S, _, rfl, hS4, _, rfl, rfl, ?_⟩
        rw [dec_vint, dV_length]
        refine k _ H4 ((sm.trans sm3).trans sm4) ?_
        rw [decide_eq_true_iff, IsTree.iff m1 m2 hlen v, ← sr.conn m1]
        omega
end
end Tw
namespace Tw
open PySem L2
section
variable {P : Program} {w : World} {K : PySem.W.Frag} {mg : Str->Option Value} {base : Heap}
theorem scCheck : FnScope ["many", "roads"] ["many", "roads"] (defScope sCheck) := ⟨rfl, rfl, rfl, by decide +kernel, rfl, by decide +kernel, by decide +kernel⟩
end
end Tw
namespace Tw
open PySem L2
open PySem.Builtin.Int (intBits)
section
variable {P : Program} {w : World} {K : PySem.W.Frag} {mg : Str->Option Value} {base : Heap}
def mix1 (x k : Int) : Int := (x * x + k * x + 7 * k * k) * 1103515245 % 2147483629
def mixF (x k : Int) : Int := mix1 x k * mix1 x k % 2147483587
theorem mix1_lo (x k : Int) : 0 ≤ mix1 x k := Int.emod_nonneg _ (by decide)
theorem mix1_hi (x k : Int) : mix1 x k < 2147483629 := Int.emod_lt_of_pos _ (by decide)
theorem mixF_lo (x k : Int) : 0 ≤ mixF x k := Int.emod_nonneg _ (by decide)
theorem mixF_hi (x k : Int) : mixF x k < 2147483587 := Int.emod_lt_of_pos _ (by decide)
def spMix : Sp := fun vs H Q _ => ∃ x k : Int, vs = [.int x, .int k]/\intBits x ≤ 2 ^ 21/\-1000 < k/\k < 1000/\Q (.int (mixF x k)) H
theorem scMix : FnScope ["_law_number", "_law_k", "_law_mixed"] ["_law_number", "_law_k"] (defScope sMix) := ⟨rfl, rfl, rfl, by decide +kernel, rfl, by decide +kernel, by decide +kernel⟩
theorem ok_mix {f : Addr} {fd : FuncData} (F : Def K mg "_law_mix" sMix ["_law_number", "_law_k"] f fd) : FnOk P w K mg base CX0 1 f fd ["_law_number", "_law_k"] spMix := by
  refine F.fn.ok scMix (fun vs H Q E h => ?_) (fun cdv A outer s H vs Q E hr h => ?_)
  · obtain ⟨x, k, rfl, _⟩ := h
    rfl
  · obtain ⟨x, k, rfl, hx, k0, k1, q⟩ := h
    refine ⟨_, pss_cons (ps_set (i := 2) scMix.nd rfl (Or.inl rfl) (pe_op op_mod (pe_op op_mul (pe_op op_add (pe_op op_add (pe_op op_mulB (pv 0) (pv 0)) (pe_op op_mul (pv 1) (pv 0))) (pe_op op_mul (pe_op op_mul pe_int (pv 1)) (pv 1))) pe_int) pe_int))
      (pss_one (ps_ret (pe_op op_mod (pe_op op_mul (pv 2) (pv 2)) pe_int))), ?_⟩
    refine ⟨_, rfl, _, rfl, _, _, rfl, rfl, mul_bits hx hx (by decide), _, rfl, _, rfl, _, _, rfl, rfl, .inl ⟨by omega, by omega⟩, _, _, rfl, rfl, _, rfl, _, _, rfl, rfl, .inl ⟨by decide, by decide⟩, _, rfl, _, _, rfl, rfl, .inr ⟨by omega, by omega⟩, _, _, rfl, rfl, _, _, rfl, rfl, .inr ⟨by decide, by decide⟩, _, _, rfl, rfl, (by show (0 : Int) < 2147483629; decide), ?_⟩
    have a := mix1_lo x k; have b := mix1_hi x k
    refine ⟨_, rfl, _, rfl, _, _, rfl, rfl, .inl ⟨?_, ?_⟩, _, _, rfl, rfl, (by show (0 : Int) < 2147483587; decide), q⟩
    · show -(2 ^ 64) < mix1 x k; omega
    · show mix1 x k < 2 ^ 64; omega
def spCell (K : PySem.W.Frag) : Sp := fun vs H Q _ => ∃ (a : Addr) (ns : List Int) (k : Nat), vs = [.ref a, .int k]/\SqL K H a (zV ns)/\Q (.int (ns.getD k 0)) H
theorem scCell : FnScope ["_law_script", "_law_k"] ["_law_script", "_law_k"] (defScope sCell) := ⟨rfl, rfl, rfl, by decide +kernel, rfl, by decide +kernel, by decide +kernel⟩
theorem ok_cell {f : Addr} {fd : FuncData} (F : Def K mg "_law_cell_at" sCell ["_law_script", "_law_k"] f fd) (B : Bi K mg) : FnOk P w K mg base CX0 1 f fd ["_law_script", "_law_k"] (spCell K) := by
  refine F.fn.ok scCell (fun vs H Q E h => ?_) (fun cdv A outer s H vs Q E hr h => ?_)
  · obtain ⟨a, ns, k, rfl, _⟩ := h
    rfl
  · obtain ⟨a, ns, k, rfl, hS, q⟩ := h
    refine ⟨_, pss_cons (ps_if (pt_cmpR op_lt (pv 1) (pe_callB call_len_seq (by rfl) B.len PySem.boot_len (pa_cons (pv 0) pa_nil)) (nomark _)) (pss_one (ps_ret (pe_ix ix_list (pv 0) (pv 1) (fun _ _ => rfl)))) pss_nil)
      (pss_one (ps_ret pe_int)), ?_⟩
    refine ⟨_, rfl, _, rfl, a, _, rfl, .inl hS, _, _, rfl, rfl, _, rfl, ?_⟩
    rw [zV_length]
    refine iteD (fun h => ?_) (fun h => ?_)
    · have hk : k < ns.length := by omega
      have e : ns[k]? = some ns[k] := List.getElem?_eq_getElem hk
      refine ⟨_, rfl, _, rfl, a, _, _, _, rfl, rfl, hS, atI_nat (zV_get e), ?_⟩
      rw [List.getD_eq_getElem?_getD, e] at q; exact q
    · have hk : ns[k]? = none := List.getElem?_eq_none (by omega)
      rw [List.getD_eq_getElem?_getD, hk] at q; exact q
theorem pick_list {K : PySem.W.Frag} {H : Hp} {p : Addr} {xs : List V} (h : H p = some (.lst xs)) {i : Int} (h0 : 0 ≤ i) (h1 : i < xs.length) : ∃ v, v ∈ xs/\SqL K H p xs/\atI xs i = some v/\xs[i.toNat]? = some v := by
  have hi : i.toNat < xs.length := by omega
  exact ⟨xs[i.toNat], List.getElem_mem hi, SqL.of h, atI_int h0 (List.getElem?_eq_getElem hi), List.getElem?_eq_getElem hi⟩
theorem bits_ediv {a : Int} {m : Nat} (h : intBits a ≤ m) {b : Int} (hb : 0 < b) : intBits (a / b) ≤ m + 1 := by
  have h1 := PyProof.Rows.lt_pow_of_bits h (Nat.le_refl m)
  have h2 : (a / b).natAbs ≤ a.natAbs + 1 := by
    have e := Int.ediv_mul_le a (Int.ne_of_gt hb)
    have l := Int.lt_ediv_add_one_mul_self a hb
    rcases Int.le_total 0 (a / b) with q | q
    · have : a / b ≤ a / b * b := by
        have := Int.mul_le_mul_of_nonneg_left (show (1 : Int) ≤ b by omega) q
        rw [Int.mul_one] at this; exact this
      omega
    · rcases Int.lt_or_eq_of_le q with q' | q'
      · have : (a / b + 1) * b ≤ a / b + 1 := by
          have := Int.mul_le_mul_of_nonneg_left (show (1 : Int) ≤ b by omega) (show 0 ≤ -(a / b + 1) by omega)
          rw [Int.mul_one, Int.neg_mul] at this; omega
        omega
      · omega
  refine PyProof.Rows.intBits_le ?_
  rw [Nat.pow_succ]; omega
theorem bits_small {a : Int} (h1 : -(2 ^ 64) < a) (h2 : a < 2 ^ 64) : intBits a ≤ 64 := intBits_le_64 h1 h2
theorem bits_add' {a b : Int} (ha : intBits a ≤ 2 ^ 20 + 1) (hb : -(2 ^ 64) < b/\b < 2 ^ 64) : intBits (a + b) ≤ 2 ^ 21 := by
  refine Nat.le_trans (PyProof.Rows.bits_add ha (bits_small hb.1 hb.2)) ?_
  have : max (2 ^ 20 + 1) 64 = 2 ^ 20 + 1 := by decide
  rw [this]; decide
end
end Tw
namespace Tw
open PySem L2
open PySem.Builtin.Int (intBits)
section
variable {P : Program} {w : World} {K : PySem.W.Frag} {mg : Str->Option Value} {base : Heap}
def spOlder : Sp := fun vs H Q _ => ∃ c k : Int, vs = [.int c, .int k]/\intBits c ≤ 2 ^ 20/\1 ≤ k/\k ≤ 12/\∀ (o : Int) (H' : Hp), Same H H'->0 ≤ o->o < k->Q (.int o) H'
theorem scOlder : FnScope ["_law_cell", "_law_k", "_law_mixed"] ["_law_cell", "_law_k"] (defScope sOlder) := ⟨rfl, rfl, rfl, by decide +kernel, rfl, by decide +kernel, by decide +kernel⟩
theorem ok_older {f fM : Addr} {fd fdM : FuncData} (F : Def K mg "_law_older" sOlder ["_law_cell", "_law_k"] f fd) (FM : Def K mg "_law_mix" sMix ["_law_number", "_law_k"] fM fdM) (B : Bi K mg) : FnOk P w K mg base CX0 2 f fd ["_law_cell", "_law_k"] spOlder := by
  have GM : FnOk P w K mg base CX0 1 fM fdM ["_law_number", "_law_k"] spMix := ok_mix FM
  refine F.fn.ok scOlder (fun vs H Q E h => ?_) (fun cdv A outer s H vs Q E hr h => ?_)
  · obtain ⟨x, k, rfl, _⟩ := h
    rfl
  · obtain ⟨c, k, rfl, hc, k0, k1, q⟩ := h
    refine ⟨_, pss_cons (ps_set (i := 2) scOlder.nd rfl (Or.inl rfl) (pe_call GM hr rfl FM.mg FM.fn.kp FM.bn .nil pass0 (pa_cons (pe_op op_add (pe_op op_fdiv (pv 0) pe_int) (pe_op op_mul (pv 1) (pv 1))) (pa_cons pe_int pa_nil))))
      (pss_one (ps_ret (pe_ix ix_list (pe_lst (pa_cons (pe_op op_sub (pv 1) pe_int) (pa_cons pe_int (pa_cons (pe_op op_mod (pv 2) (pv 1)) (pa_cons (pe_callB (call_max2 rfl) (by rfl) B.max PyProof.Rows.boot_max (pa_cons pe_int (pa_cons (pe_op op_sub (pe_op op_sub (pv 1) pe_int) (pe_op op_mod (pv 2) pe_int)) pa_nil)))
        (pa_cons (pe_op op_fdiv (pe_op op_sub (pv 1) pe_int) pe_int) pa_nil)))))) (pe_op op_mod (pv 0) pe_int) (fun _ _ => rfl)))), ?_⟩
    have kk : -(2 ^ 64) < k * k/\k * k < 2 ^ 64 := by
      have a := Int.mul_le_mul k1 k1 (by omega) (by omega)
      have b := Int.mul_nonneg (show 0 ≤ k by omega) (show 0 ≤ k by omega)
      omega
    refine ⟨_, rfl, _, _, rfl, rfl, ⟨by decide, by decide⟩, _, rfl, _, rfl, _, _, rfl, rfl, .inl ⟨by omega, by omega⟩, _, _, rfl, rfl, _, _, rfl, bits_add' (bits_ediv hc (by decide)) kk, by decide, by decide, ?_⟩
    generalize hm : mixF (c / 5 + k * k) 1 = m
    have m0 : 0 ≤ m := hm ▸ mixF_lo _ _
    refine ⟨_, rfl, _, _, rfl, rfl, _, rfl, _, rfl, _, _, rfl, rfl, (by show 0 < k; omega), _, rfl, _, _, rfl, rfl, _, rfl, _, _, rfl, rfl, (by show (0 : Int) < 3; decide), _, _, rfl, rfl, _, _, rfl, _, rfl, _, _, rfl, rfl, _, _, rfl, rfl, ⟨by decide, by decide⟩, by show 5 ≤ sizeLine; exact len12 (by decide), fun p hp => ?_⟩
    refine ⟨_, rfl, _, _, rfl, rfl, (by show (0 : Int) < 5; decide), ?_⟩
    obtain ⟨v, hv, hs, hat, _⟩ := pick_list (K := K) (H := upd H p (.lst [V.int (k - 1), V.int 0, V.int (m % k), V.int (if k - 1 - m % 3 > 0 then k - 1 - m % 3 else 0), V.int ((k - 1) / 2)])) upd_same (i := c % 5) (Int.emod_nonneg _ (by decide)) (Int.emod_lt_of_pos _ (by decide))
    refine ⟨p, _, _, v, rfl, rfl, hs, hat, ?_⟩
    have e1 := Int.emod_nonneg m (show k ≠ 0 by omega)
    have e2 := Int.emod_lt_of_pos m (show 0 < k by omega)
    simp only [List.mem_cons, List.not_mem_nil, or_false] at hv
    rcases hv with rfl | rfl | rfl | rfl | rfl
    · exact q _ _ (same_upd hp) (by omega) (by omega)
    · exact q _ _ (same_upd hp) (by omega) (by omega)
    · exact q _ _ (same_upd hp) (by omega) (by omega)
    · exact q _ _ (same_upd hp) (by split <;> omega) (by split <;> omega)
    · exact q _ _ (same_upd hp) (by omega) (by omega)
end
end Tw
namespace Tw
open PySem L2
open PySem.Builtin.Int (intBits)
section
variable {P : Program} {w : World} {K : PySem.W.Frag} {mg : Str->Option Value} {base : Heap}
def spSize : Sp := fun vs H Q _ => ∃ c k : Int, vs = [.int c, .int k]/\intBits c ≤ 2 ^ 20/\1 ≤ k/\k ≤ 12/\∀ (o : Int) (H' : Hp), Same H H'->1 ≤ o->o ≤ 10 ^ 39->Q (.int o) H'
theorem scSize : FnScope ["_law_cell", "_law_k", "_law_mixed", "_law_some"] ["_law_cell", "_law_k"] (defScope sSize) := ⟨rfl, rfl, rfl, by decide +kernel, rfl, by decide +kernel, by decide +kernel⟩
theorem ok_size {f fM : Addr} {fd fdM : FuncData} (F : Def K mg "_law_size" sSize ["_law_cell", "_law_k"] f fd) (FM : Def K mg "_law_mix" sMix ["_law_number", "_law_k"] fM fdM) : FnOk P w K mg base CX0 2 f fd ["_law_cell", "_law_k"] spSize := by
  have GM : FnOk P w K mg base CX0 1 fM fdM ["_law_number", "_law_k"] spMix := ok_mix FM
  refine F.fn.ok scSize (fun vs H Q E h => ?_) (fun cdv A outer s H vs Q E hr h => ?_)
  · obtain ⟨x, k, rfl, _⟩ := h
    rfl
  · obtain ⟨c, k, rfl, hc, k0, k1, q⟩ := h
    refine ⟨_, pss_cons (ps_set (i := 2) scSize.nd rfl (Or.inl rfl) (pe_call GM hr rfl FM.mg FM.fn.kp FM.bn .nil pass0 (pa_cons (pe_op op_add (pv 0) (pe_op op_mul (pe_op op_mul pe_int (pv 1)) (pv 1))) (pa_cons pe_int pa_nil))))
      (pss_cons (ps_set (i := 3) scSize.nd rfl (Or.inl rfl) (pe_lst (pa_cons (pe_op op_add pe_int (pe_op op_mod (pv 2) pe_int)) (pa_cons (pe_op op_add pe_int (pe_op op_mod (pv 2) pe_int))
        (pa_cons (pe_op op_add (pe_op op_mul (pe_op op_add pe_int (pe_op op_mod (pv 2) pe_int)) (pe_op op_pow pe_int pe_int)) (pe_op op_mod (pv 2) pe_int))
        (pa_cons (pe_op op_add pe_int (pe_op op_mod (pe_op op_mul (pv 0) (pv 2)) (pe_op op_pow pe_int pe_int))) pa_nil))))))
      (pss_one (ps_ret (pe_ix ix_list (pv 3) (pe_op op_mod (pe_op op_fdiv (pv 0) pe_int) pe_int) (fun _ _ => rfl))))), ?_⟩
    have kk : -(2 ^ 64) < 3 * k * k/\3 * k * k < 2 ^ 64 := by
      have a := Int.mul_le_mul (show 3 * k ≤ 36 by omega) k1 (by omega) (by omega)
      have b := Int.mul_nonneg (show 0 ≤ 3 * k by omega) (show 0 ≤ k by omega)
      omega
    refine ⟨_, rfl, _, rfl, _, _, rfl, rfl, .inl ⟨by decide, by decide⟩, _, rfl, _, _, rfl, rfl, .inr ⟨by omega, by omega⟩, _, _, rfl, rfl, _, _, rfl, bits_add' (Nat.le_trans hc (by decide)) kk, by decide, by decide, ?_⟩
    generalize hm : mixF (c + 3 * k * k) 2 = m
    have m0 : 0 ≤ m := hm ▸ mixF_lo _ _
    have m1 : m < 2147483587 := hm ▸ mixF_hi _ _
    have n4 := Int.emod_nonneg m (show (4 : Int) ≠ 0 by decide)
    have l4 := Int.emod_lt_of_pos m (show (0 : Int) < 4 by decide)
    refine ⟨_, rfl, _, _, rfl, rfl, (by show (0 : Int) < 9; decide), _, _, rfl, rfl, _, rfl, _, _, rfl, rfl, (by show (0 : Int) < 2; decide), _, _, rfl, rfl,
      _, rfl, _, _, rfl, rfl, (by show (0 : Int) < 4; decide), _, _, rfl, rfl, _, _, rfl, rfl, ⟨by decide, by decide, by decide⟩, _, _, rfl, rfl, .inl ⟨by omega, by omega⟩, _, rfl, _, _, rfl, rfl, (by show (0 : Int) < 5; decide), _, _, rfl, rfl,
      _, rfl, _, rfl, _, _, rfl, rfl, .inr ⟨by omega, by omega⟩, _, _, rfl, rfl, ⟨by decide, by decide, by decide⟩, _, _, rfl, rfl, (by show (0 : Int) < 10 ^ 39; decide), _, _, rfl, rfl, by show 4 ≤ sizeLine; exact len12 (by decide), fun p hp => ?_⟩
    refine ⟨_, rfl, _, rfl, _, _, rfl, rfl, ⟨by decide, by decide⟩, _, _, rfl, rfl, (by show (0 : Int) < 4; decide), ?_⟩
    obtain ⟨v, hv, hs, hat, _⟩ := pick_list (K := K) (H := upd H p (.lst [V.int (1 + m % 9), V.int (1 + m % 2), V.int ((1 + m % 4) * 10 ^ 30 + m % 5), V.int (1 + c * m % 10 ^ 39)])) upd_same (i := c / 5 % 4) (Int.emod_nonneg _ (by decide)) (Int.emod_lt_of_pos _ (by decide))
    refine ⟨p, _, _, v, rfl, rfl, hs, hat, ?_⟩
    simp only [List.mem_cons, List.not_mem_nil, or_false] at hv
    rcases hv with rfl | rfl | rfl | rfl
    · exact q _ _ (same_upd hp) (by omega) (by omega)
    · exact q _ _ (same_upd hp) (by omega) (by omega)
    · exact q _ _ (same_upd hp) (by omega) (by omega)
    · exact q _ _ (same_upd hp) (by omega) (by omega)
end
end Tw
namespace Tw
open PySem L2
open PySem.Builtin.Int (intBits)
section
variable {P : Program} {w : World} {K : PySem.W.Frag} {mg : Str->Option Value} {base : Heap}
theorem nodup_set : ∀ {l : List Addr} (i : Nat) {q : Addr}, l.Nodup->q ∉ l->(l.set i q).Nodup
  | [], _, _, h, _ => by simpa using h
  | x :: t, 0, q, h, hq => by
    obtain ⟨h1, h2⟩ := List.nodup_cons.mp h
    exact List.nodup_cons.mpr ⟨fun z => hq (List.mem_cons_of_mem _ z), h2⟩
  | x :: t, i + 1, q, h, hq => by
    obtain ⟨h1, h2⟩ := List.nodup_cons.mp h
    refine List.nodup_cons.mpr ⟨fun z => ?_, nodup_set i h2 fun z => hq (List.mem_cons_of_mem _ z)⟩
    rcases List.mem_or_eq_of_mem_set z with z | z
    · exact h1 z
    · exact hq (by rw [z]; exact List.mem_cons_self)
theorem RoadsAt.put {H H5 : Hp} {a q : Addr} {as : List Addr} {rs : List Road} {r' : Road} {i : Nat} (h : RoadsAt H a as rs) (s : Same H H5) (hq0 : H q = none) (hq : H5 q = some (.lst (zV (rowI r')))) : RoadsAt (upd H5 a (.lst ((as.map V.ref).set i (.ref q)))) a (as.set i q) (rs.set i r') := by
  have nqa : q ≠ a := fun z => by rw [z, h.rows.top] at hq0; cases hq0
  have nq : q ∉ as := fun z => by
    obtain ⟨j, hj⟩ := List.mem_iff_getElem?.mp z
    have hjl : j < rs.length := by rw [← h.len]; exact (List.getElem?_eq_some_iff.mp hj).1
    have e := h.rows.row j q (rowI rs[j]) hj (by rw [List.getElem?_map, List.getElem?_eq_getElem hjl]; rfl)
    rw [hq0] at e; cases e
  refine ⟨⟨?_, ?_, fun j p z e1 e2 => ?_⟩, nodup_set i h.nd nq⟩
  · rw [upd_same, List.map_set]
  · rw [List.length_set, List.length_map, List.length_set]; exact h.len
  · by_cases e : i = j
    · subst e
      have hil : i < as.length := by
        have := (List.getElem?_eq_some_iff.mp e1).1
        rw [List.length_set] at this; exact this
      rw [List.getElem?_set_self hil] at e1
      cases e1
      rw [List.map_set, List.getElem?_set_self (by rw [List.length_map, ← h.len]; exact hil)] at e2
      cases e2
      rw [upd_ne nqa]; exact hq
    · rw [List.getElem?_set_ne e] at e1
      rw [List.map_set, List.getElem?_set_ne e] at e2
      have na : p ≠ a := fun z => h.ne_top (z ▸ List.mem_of_getElem? e1)
      rw [upd_ne na]
      exact s _ _ (h.rows.row j p z e1 e2)
theorem inV_pair (v a b : Int) : inV (.int v) [.int a, .int b] = inc v (a, b, 0) := by
  unfold inV inc
  simp only [List.any_cons, List.any_nil, Bool.or_false, eqV]
  rw [Bool.beq_eq_decide_eq, Bool.beq_eq_decide_eq]
theorem inV_road (v : Int) (r : Road) : inV (.int v) (cutV [.int r.1, .int r.2.1, .int r.2.2] none (some 2)) = inc v r := inV_pair v r.1 r.2.1
theorem deg_take {rs : List Road} {i : Nat} {r : Road} (h : rs[i]? = some r) (v : Int) : deg (rs.take (i + 1)) v = deg (rs.take i) v + if inc v r = true then 1 else 0 := by
  rw [List.take_add_one, h]
  unfold deg
  rw [List.countP_append]
  show _ + List.countP (inc v) [r] = _
  rw [List.countP_cons, List.countP_nil, Nat.zero_add]
theorem emod_shift {p t n : Int} (hp : 0 ≤ p) (hpn : p < n) (ht : 1 ≤ t) (htn : t < n) : 0 ≤ (p + t) % n/\(p + t) % n < n/\(p + t) % n ≠ p := by
  have hn : 0 < n := by omega
  refine ⟨Int.emod_nonneg _ (by omega), Int.emod_lt_of_pos _ hn, ?_⟩
  by_cases h : p + t < n
  · rw [Int.emod_eq_of_lt (by omega) h]; omega
  · have e : (p + t) % n = p + t - n := by
      have e1 : p + t = (p + t - n) + n := by omega
      rw [e1, Int.add_emod_right, Int.emod_eq_of_lt (by omega) (by omega)]
      omega
    omega
def reR (c o p : Int) (r : Road) : Road := if c % 2 = 0 then (o, p, r.2.2) else (p, o, r.2.2)
theorem reR_joins (c o p : Int) (r : Road) : Joins (reR c o p r) o p := by
  unfold reR
  split
  · exact .inl ⟨rfl, rfl⟩
  · exact .inr ⟨rfl, rfl⟩
theorem reR_len (c o p : Int) (r : Road) : (reR c o p r).2.2 = r.2.2 := by unfold reR; split <;> rfl
def reH (c o p : Int) (r : Road) : Road := if inc p r = true then reR c o p r else r
theorem set_step {α : Type} {rs : List α} {g : α->α} {i : Nat} {r : α} (h : rs[i]? = some r) : ((rs.take i).map g ++ rs.drop i).set i (g r) = (rs.take (i + 1)).map g ++ rs.drop (i + 1) := by
  obtain ⟨hi, e⟩ := List.getElem?_eq_some_iff.mp h
  have l : ((rs.take i).map g).length = i := by rw [List.length_map, List.length_take]; omega
  rw [List.set_append_right _ _ (by omega), l, Nat.sub_self, List.drop_eq_getElem_cons hi, List.set_cons_zero, List.take_add_one, h, List.map_append]
  simp
theorem get_step {α : Type} {rs : List α} {g : α->α} {i : Nat} : ((rs.take i).map g ++ rs.drop i)[i]? = rs[i]? := by
  by_cases hi : i < rs.length
  · have l : ((rs.take i).map g).length = i := by rw [List.length_map, List.length_take]; omega
    rw [List.getElem?_append_right (by omega), l, Nat.sub_self, List.getElem?_drop]; rfl
  · rw [List.getElem?_eq_none (show rs.length ≤ i by omega)]
    exact List.getElem?_eq_none (by rw [List.length_append, List.length_map, List.length_take, List.length_drop]; omega)
theorem skip_step {α : Type} {rs : List α} {g : α->α} {i : Nat} {r : α} (h : rs[i]? = some r) (e : g r = r) : (rs.take i).map g ++ rs.drop i = (rs.take (i + 1)).map g ++ rs.drop (i + 1) := by
  rw [← set_step h, e]
  have : ((rs.take i).map g ++ rs.drop i)[i]? = some r := by rw [get_step]; exact h
  obtain ⟨hi, e2⟩ := List.getElem?_eq_some_iff.mp this
  rw [← e2]
  exact (List.set_getElem_self hi).symm
def spHung : Sp := fun vs H Q _ => ∃ (a : Addr) (as : List Addr) (rs : List Road) (n : Nat) (c : Int), vs = [.ref a, .int n, .int c]/\RoadsAt H a as rs/\Tree n rs/\1 < n/\intBits c ≤ 2 ^ 20 + 1 ∧
  ∀ (as' : List Addr) (rs' : List Road) (H' : Hp), RoadsAt H' a as' rs'->Tree n rs'->(∀ l, (∀ r ∈ rs, r.2.2 ≤ l)->∀ r ∈ rs', r.2.2 ≤ l)->But a H H'->(∀ x ∈ as', x ∈ as ∨ H x = none)->Q .non H'
theorem scHung : FnScope ["_law_roads", "_law_many", "_law_cell", "_law_counts", "_law_alone_ones", "_law_place", "_law_other", "_law_k"] ["_law_roads", "_law_many", "_law_cell"] (defScope sHung) := ⟨rfl, rfl, rfl, by decide +kernel, rfl, by decide +kernel, by decide +kernel⟩
theorem ok_hung {f fM : Addr} {fd fdM : FuncData} (F : Def K mg "_law_hung" sHung ["_law_roads", "_law_many", "_law_cell"] f fd) (FM : Def K mg "_law_mix" sMix ["_law_number", "_law_k"] fM fdM) (B : Bi K mg) : FnOk P w K mg base CX0 2 f fd ["_law_roads", "_law_many", "_law_cell"] spHung := by
  have GM : FnOk P w K mg base CX0 1 fM fdM ["_law_number", "_law_k"] spMix := ok_mix FM
  refine F.fn.ok scHung (fun vs H Q E h => ?_) (fun cdv A outer s H vs Q E hr h => ?_)
  · obtain ⟨a, as, rs, n, c, rfl, _⟩ := h
    rfl
  · obtain ⟨a, as, rs, n, c, rfl, hR, t, hn1, hc, k⟩ := h
    have nd := scHung.nd
    have hN := t.hi
    have hlen := t.length
    refine ⟨_, pss_cons (ps_set (i := 3) nd rfl (Or.inr rfl) (pe_comp (defScope sHung).names ["_law_roads", "_law_many", "_law_cell", "_law_counts", "_law_alone_ones", "_law_place", "_law_other", "_law_k"] ["_law_roads", "_law_many", "_law_cell", "_law_counts", "_law_alone_ones", "x5", "_law_other", "_law_k", "_law_place"]
        (pi_range1 rfl B.range (pa_cons (pv 1) pa_nil)) (fun _ _ _ _ => pf_nil)
        (fun _ _ _ _ => pe_callB (lenK K) (by rfl) B.len PySem.boot_len (pa_cons (pe_comp [(".0", .local), ("_law_place", .cell), ("len", .globalImplicit), ("_law_roads", .cell)] ["_law_roads", "_law_many", "_law_cell", "_law_counts", "_law_alone_ones", "x5", "_law_other", "_law_k", "_law_place"]
          ["_law_roads", "_law_many", "_law_cell", "_law_counts", "_law_alone_ones", "x5", "_law_other", "_law_k", "_law_place", "_law_road"] (pi_listK K (pv 0))
          (fun _ _ _ _ => pf_one (pt_cmpR (inK K) (pv 8) (pe_slice (slK K) (pv 9) po_none (po_some pe_int)) rfl)) (fun _ _ _ _ => pv 9)) pa_nil))))
      (pss_cons (ps_setC (defScope sHung).names ["_law_roads", "_law_many", "_law_cell", "_law_counts", "_law_alone_ones", "_law_place", "_law_other", "_law_k"] ["_law_roads", "_law_many", "_law_cell", "_law_counts", "_law_alone_ones", "x5", "_law_other", "_law_k", "_law_place"] 4 nd rfl (Or.inl rfl)
        (pi_range1 rfl B.range (pa_cons (pv 1) pa_nil)) (fun _ _ _ _ => pf_one (pt_cmpR op_eq (pe_ix (ixK K) (pv 3) (pv 8) (fun _ _ => rfl)) pe_int (nomark _))) (fun _ _ _ _ => pv 8))
      (pss_cons (ps_set (i := 5) nd rfl (Or.inl rfl) (pe_ix ix_list (pv 4) (pe_op op_mod (pe_call GM hr rfl FM.mg FM.fn.kp FM.bn .nil pass0 (pa_cons (pv 2) (pa_cons pe_int pa_nil))) (pe_callB call_len_seq (by rfl) B.len PySem.boot_len (pa_cons (pv 4) pa_nil))) (fun _ _ => rfl)))
      (pss_cons (ps_set (i := 6) nd rfl (Or.inl rfl) (pe_op op_mod (pe_op op_add (pe_op op_add (pv 5) pe_int) (pe_op op_mod (pe_call GM hr rfl FM.mg FM.fn.kp FM.bn .nil pass0 (pa_cons (pv 2) (pa_cons pe_int pa_nil))) (pe_op op_sub (pv 1) pe_int))) (pv 1)))
      (pss_one (ps_for PassesOwn.never rfl (pi_range1 rfl B.range (pa_cons (pe_callB call_len_seq (by rfl) B.len PySem.boot_len (pa_cons (pv 0) pa_nil)) pa_nil)) (pg_name (i := 7) nd rfl (Or.inl rfl))
        (pss_one (ps_if (pt_cmpR op_in_seq (pv 5) (pe_slice sl_list (pe_ix ix_list (pv 0) (pv 7) (fun _ _ => rfl)) po_none (po_some pe_int)) rfl)
          (pss_one (ps_asg (pe_ix ix_list (pe_lst (pa_cons (pe_lst (pa_cons (pv 6) (pa_cons (pv 5) (pa_cons (pe_ix ix_list (pe_ix ix_list (pv 0) (pv 7) (fun _ _ => rfl)) pe_int (fun _ _ => rfl)) pa_nil))))
            (pa_cons (pe_lst (pa_cons (pv 5) (pa_cons (pv 6) (pa_cons (pe_ix ix_list (pe_ix ix_list (pv 0) (pv 7) (fun _ _ => rfl)) pe_int (fun _ _ => rfl)) pa_nil)))) pa_nil))) (pe_op op_mod (pv 2) pe_int) (fun _ _ => rfl))
            (pg_sub (pv 0) (pv 7) set_list))) pss_nil))))))), ?_⟩
    refine ⟨_, rfl, (n : Int), rfl, by omega, by omega, fun C hC => ?_⟩
    rw [Int.toNat_natCast]
    refine comp_range (fun i ys H2 => ys = zV (((pl n).take i).map fun v => (deg rs v : Int))/\H2 C = some (.lst ys)/\Same H H2) (fun _ _ _ h => h.2.1) ⟨rfl, upd_same, same_upd hC⟩ ?_ ?_
    · rintro i ys H2 hi ⟨rfl, hC2, s2⟩
      refine yesI ?_
      have hR2 := hR.mono s2
      refine ⟨_, rfl, a, rfl, ⟨_, SqL.of hR2.rows.top⟩, fun D hD => ?_⟩
      have nCD : C ≠ D := ne_of_none hC2 hD
      refine comp_list (K := K) (a := a) (xs := as.map V.ref) (fun j ys H3 => ys.length = deg (rs.take j) (i : Int)/\H3 D = some (.lst ys)/\Same H2 H3) (fun _ _ _ h => ⟨h.2.1, SqL.of (h.2.2 _ _ hR2.rows.top)⟩) ⟨rfl, upd_same, same_upd hD⟩ ?_ ?_
      · rintro j y ys H3 hj ⟨hl, hD3, s3⟩
        obtain ⟨p, hp, rfl⟩ := get_ref hj
        have hjl : j < rs.length := by rw [← hR.len]; exact (List.getElem?_eq_some_iff.mp hp).1
        have er : rs[j]? = some rs[j] := List.getElem?_eq_getElem hjl
        have hrow := s3 _ _ (hR2.rows.row j p (rowI rs[j]) hp (by rw [List.getElem?_map, er]; rfl))
        refine ⟨_, rfl, _, rfl, _, rfl, p, _, rfl, SqL.of hrow, fun q hq => ?_⟩
        refine ⟨q, _, rfl, .inl (SqL.of upd_same), rfl, rfl, _, rfl, ?_⟩
        have nDq : D ≠ q := ne_of_none hD3 hq
        have dle : deg (rs.take j) (i : Int) ≤ 100 := by
          unfold deg
          refine Nat.le_trans List.countP_le_length ?_
          rw [List.length_take]; omega
        have e0 : ((0 : Int) + (i : Int)) = (i : Int) := by omega
        show (if inV (V.int (0 + (i : Int))) (cutV [.int rs[j].1, .int rs[j].2.1, .int rs[j].2.2] none (some 2)) = true then _ else _)
        rw [e0, inV_road]
        refine iteB (fun e => ?_) (fun e => ?_)
        · refine ⟨_, rfl, by rw [upd_ne nDq]; exact hD3, by rw [hl]; exact small1000 (by omega), ?_, upd_same, fun b o e => ?_⟩
          · rw [List.length_append, hl, deg_take er, if_pos e]; rfl
          · rw [upd_ne (ne_of_none e hD), upd_ne (ne_of_none (s3 b o e) hq)]; exact s3 b o e
        · refine ⟨?_, by rw [upd_ne nDq]; exact hD3, fun b o e => ?_⟩
          · rw [hl, deg_take er, if_neg (by rw [e]; decide)]; rfl
          · rw [upd_ne (ne_of_none (s3 b o e) hq)]; exact s3 b o e
      · rintro ys H3 ⟨hl, hD3, s3⟩
        have el : ys.length = deg rs (i : Int) := by
          rw [hl, List.length_map, hR.len, List.take_length]
        refine ⟨D, ys, rfl, .inl (SqL.of hD3), s3 _ _ hC2, ?_, ?_, upd_same, fun b o e => ?_⟩
        · rw [zV_length, List.length_map, List.length_take]; exact small1000 (by omega)
        · rw [take_pl hi, List.map_append, el]; exact zV_append _ _
        · rw [upd_ne (ne_of_none e hC)]; exact s3 b o (s2 b o e)
    · rintro ys H2 ⟨rfl, hC2, s2⟩
      rw [List.take_of_length_le (by rw [pl_length]; exact Nat.le_refl _)] at hC2
      refine ⟨_, rfl, (n : Int), rfl, by omega, by omega, fun L hL => ?_⟩
      rw [Int.toNat_natCast]
      refine comp_range (fun i ys H3 => ys = zV (((pl n).take i).filter fun v => decide (deg rs v = 1))/\H3 L = some (.lst ys)/\Same H2 H3) (fun _ _ _ h => h.2.1) ⟨rfl, upd_same, same_upd hL⟩ ?_ ?_
      · rintro i ys H3 hi ⟨rfl, hL3, s3⟩
        have hg : (((pl n).map fun v => (deg rs v : Int)))[i]? = some (deg rs (i : Int) : Int) := by rw [List.getElem?_map, pl_get hi]; rfl
        refine ⟨_, rfl, _, rfl, C, _, _, _, rfl, rfl, SqL.of (s3 _ _ hC2), atI_int (by omega) (by rw [show ((0 : Int) + (i : Int)).toNat = i by omega]; exact zV_get hg), rfl, _, rfl, ?_⟩
        rw [dec_vint]
        refine iteD (fun e => ?_) (fun e => ?_)
        · refine ⟨_, rfl, hL3, ?_, ?_, upd_same, fun b o e => by rw [upd_ne (ne_of_none e hL)]; exact s3 b o e⟩
          · rw [zV_length]
            refine small1000 (Nat.le_trans (List.length_filter_le _ _) ?_)
            rw [List.length_take]; omega
          · rw [take_pl hi, List.filter_append]
            have : decide (deg rs (i : Int) = 1) = true := by simp; omega
            rw [show ([(i : Int)].filter fun v => decide (deg rs v = 1)) = [(i : Int)] by rw [List.filter_cons, if_pos this]; rfl, ← zV_append]
            rw [show ((0 : Int) + (i : Int)) = (i : Int) by omega]
        · refine ⟨?_, hL3, s3⟩
          rw [take_pl hi, List.filter_append]
          have : ¬ decide (deg rs (i : Int) = 1) = true := by simp; omega
          rw [show ([(i : Int)].filter fun v => decide (deg rs v = 1)) = [] by rw [List.filter_cons, if_neg this]; rfl, List.append_nil]
      · rintro ys H3 ⟨rfl, hL3, s3⟩
        rw [List.take_of_length_le (by rw [pl_length]; exact Nat.le_refl _)] at hL3
        have sH3 := s2.trans s3
        generalize hal : ((pl n).filter fun v => decide (deg rs v = 1)) = al at hL3
        have alpos : 0 < al.length := by
          obtain ⟨v, hv, hd⟩ := t.leaf hn1
          have : v ∈ al := by rw [← hal]; exact List.mem_filter.mpr ⟨hv, decide_eq_true hd⟩
          exact List.length_pos_of_mem this
        refine ⟨_, rfl, _, rfl, _, _, rfl, Nat.le_trans hc (by decide), by decide, by decide, _, rfl, L, _, rfl, .inl (SqL.of hL3), _, _, rfl, rfl, (by rw [zV_length]; omega), ?_⟩
        rw [zV_length]
        have i0 := Int.emod_nonneg (mixF c 8) (show ((al.length : Nat) : Int) ≠ 0 by omega)
        have i1 := Int.emod_lt_of_pos (mixF c 8) (show (0 : Int) < ((al.length : Nat) : Int) by omega)
        obtain ⟨p, hp⟩ : ∃ p, al[(mixF c 8 % ((al.length : Nat) : Int)).toNat]? = some p := ⟨al[(mixF c 8 % ((al.length : Nat) : Int)).toNat]'(by omega), List.getElem?_eq_getElem _⟩
        have hpm : p ∈ pl n/\deg rs p = 1 := by
          have := List.mem_of_getElem? hp
          rw [← hal] at this
          obtain ⟨h1, h2⟩ := List.mem_filter.mp this
          exact ⟨h1, of_decide_eq_true h2⟩
        have pr := mem_pl.mp hpm.1
        refine ⟨L, _, _, _, rfl, rfl, SqL.of hL3, atI_int i0 (zV_get hp), ?_⟩
        refine ⟨_, rfl, _, _, rfl, rfl, _, rfl, _, _, rfl, Nat.le_trans hc (by decide), by decide, by decide, _, rfl, _, _, rfl, rfl, _, _, rfl, rfl, (by omega), _, _, rfl, rfl, _, rfl, _, _, rfl, rfl, (by omega), ?_⟩
        have j0 := Int.emod_nonneg (mixF c 9) (show ((n : Int) - 1) ≠ 0 by omega)
        have j1 := Int.emod_lt_of_pos (mixF c 9) (show (0 : Int) < (n : Int) - 1 by omega)
        have sh := emod_shift (t := 1 + mixF c 9 % ((n : Int) - 1)) pr.1 pr.2 (by omega) (by omega)
        rw [← Int.add_assoc] at sh
        obtain ⟨o, ho⟩ : ∃ o, o = (p + 1 + mixF c 9 % ((n : Int) - 1)) % (n : Int) := ⟨_, rfl⟩
        rw [← ho] at sh
        obtain ⟨o0, o1, one⟩ := sh
        have hR3 := hR.mono sH3
        refine ⟨_, rfl, a, _, rfl, .inl (SqL.of hR3.rows.top), _, rfl, by omega, by rw [List.length_map, hR.len]; omega, ?_⟩
        rw [Int.toNat_natCast, List.length_map, hR.len]
        have tR := t.rehang hpm.1 (mem_pl.mpr ⟨o0, o1⟩) one hpm.2 (reR_joins c o p) (reR_len c o p)
        refine for_range (fun i σ H4 => ∃ (as' : List Addr) (v7 : Option V), σ = [some (.ref a), some (.int n), some (.int c), some (.ref C), some (.ref L), some (.int p), some (.int o), v7]/\RoadsAt H4 a as' ((rs.take i).map (reH c o p) ++ rs.drop i)/\But a H H4/\∀ x ∈ as', x ∈ as ∨ H x = none) ⟨as, none, by rw [ho]; rfl, hR3, But.of sH3, fun x hx => .inl hx⟩ ?_ ?_
        · rintro i σ H4 hi ⟨as', v7, rfl, hR4, b4, nw⟩
          have er : rs[i]? = some rs[i] := List.getElem?_eq_getElem hi
          have er' : ((rs.take i).map (reH c o p) ++ rs.drop i)[i]? = some rs[i] := by rw [get_step]; exact er
          obtain ⟨q, hq, hrow⟩ := hR4.get er'
          generalize hr0 : rs[i] = r at er er' hrow
          refine ⟨_, rfl, _, rfl, _, rfl, a, _, _, _, rfl, rfl, SqL.of hR4.rows.top, atI_int (by omega) (by rw [show ((0 : Int) + (i : Int)).toNat = i by omega]; exact ref_get hq), _, rfl, q, _, rfl, SqL.of hrow, fun s1 hs1 => ?_⟩
          refine ⟨s1, _, rfl, .inl (SqL.of upd_same), rfl, rfl, _, rfl, ?_⟩
          show (if inV (V.int p) (cutV [.int r.1, .int r.2.1, .int r.2.2] none (some 2)) = true then _ else _)
          rw [inV_road]
          have a5 := same_upd (o := .lst (cutV [.int r.1, .int r.2.1, .int r.2.2] none (some 2))) hs1
          refine iteB (fun e => ?_) (fun e => ?_)
          · have at0 : ∀ {H' : Hp}, Same H4 H'->SqL K H' a (as'.map V.ref)/\SqL K H' q [.int r.1, .int r.2.1, .int r.2.2] := fun s => ⟨SqL.of (s _ _ hR4.rows.top), SqL.of (s _ _ hrow)⟩
            have ai : atI (as'.map V.ref) (0 + (i : Int)) = some (V.ref q) := atI_int (by omega) (by rw [show ((0 : Int) + (i : Int)).toNat = i by omega]; exact ref_get hq)
            refine ⟨_, rfl, _, rfl, _, rfl, _, rfl, a, _, _, _, rfl, rfl, (at0 a5).1, ai, q, _, _, _, rfl, rfl, (at0 a5).2, rfl, by show 3 ≤ sizeLine; exact len12 (by decide), fun l1 hl1 => ?_⟩
            have a6 := a5.trans (same_upd (o := .lst [.int o, .int p, .int r.2.2]) hl1)
            refine ⟨_, rfl, _, rfl, _, rfl, _, rfl, a, _, _, _, rfl, rfl, (at0 a6).1, ai, q, _, _, _, rfl, rfl, (at0 a6).2, rfl, by show 3 ≤ sizeLine; exact len12 (by decide), fun l2 hl2 => ?_⟩
            have a7 := a6.trans (same_upd (o := .lst [.int p, .int o, .int r.2.2]) hl2)
            refine ⟨by show 2 ≤ sizeLine; exact len12 (by decide), fun l3 hl3 => ?_⟩
            have a8 := a7.trans (same_upd (o := .lst [.ref l1, .ref l2]) hl3)
            have n12 : l1 ≠ l2 := fun z => by rw [← z, upd_same] at hl2; cases hl2
            have n13 : l1 ≠ l3 := fun z => by rw [← z, upd_ne n12, upd_same] at hl3; cases hl3
            have n23 : l2 ≠ l3 := fun z => by rw [← z, upd_same] at hl3; cases hl3
            have f1 : H4 l1 = none := a5.free hl1
            have f2 : H4 l2 = none := a6.free hl2
            refine ⟨_, rfl, _, _, rfl, rfl, (by show (0 : Int) < 2; decide), ?_⟩
            have m0 := Int.emod_nonneg c (show (2 : Int) ≠ 0 by decide)
            have m1 := Int.emod_lt_of_pos c (show (0 : Int) < 2 by decide)
            have fin : ∀ (l : Addr) (r' : Road), reH c o p r = r'->H4 l = none->(upd (upd (upd (upd H4 s1 (.lst (cutV [.int r.1, .int r.2.1, .int r.2.2] none (some 2)))) l1 (.lst [.int o, .int p, .int r.2.2])) l2 (.lst [.int p, .int o, .int r.2.2])) l3 (.lst [.ref l1, .ref l2])) l = some (.lst (zV (rowI r'))) →
                ∃ (as'' : List Addr) (v7 : Option V), [some (V.ref a), some (.int n), some (.int c), some (.ref C), some (.ref L), some (.int p), some (.int o), some (.int (0 + (i : Int)))] = [some (.ref a), some (.int n), some (.int c), some (.ref C), some (.ref L), some (.int p), some (.int o), v7] ∧
                RoadsAt (upd (upd (upd (upd (upd H4 s1 (.lst (cutV [.int r.1, .int r.2.1, .int r.2.2] none (some 2)))) l1 (.lst [.int o, .int p, .int r.2.2])) l2 (.lst [.int p, .int o, .int r.2.2])) l3 (.lst [.ref l1, .ref l2])) a (.lst ((as'.map V.ref).set i (.ref l)))) a as'' ((rs.take (i + 1)).map (reH c o p) ++ rs.drop (i + 1)) ∧
                But a H (upd (upd (upd (upd (upd H4 s1 (.lst (cutV [.int r.1, .int r.2.1, .int r.2.2] none (some 2)))) l1 (.lst [.int o, .int p, .int r.2.2])) l2 (.lst [.int p, .int o, .int r.2.2])) l3 (.lst [.ref l1, .ref l2])) a (.lst ((as'.map V.ref).set i (.ref l))))/\∀ x ∈ as'', x ∈ as ∨ H x = none := fun l r' e' f' hl' => by
              refine ⟨as'.set i l, _, rfl, ?_, fun b u hb nb => ?_, fun x hx => ?_⟩
              · rw [← set_step er, e']
                exact hR4.put a8 f' hl'
              · rw [upd_ne nb]; exact a8 b u (b4 b u hb nb)
              · rcases List.mem_or_eq_of_mem_set hx with z | z
                · exact nw x z
                · right
                  rw [z]
                  cases hl0 : H l with
                  | none => rfl
                  | some u =>
                    have nla : l ≠ a := fun z => by rw [z, hR4.rows.top] at f'; cases f'
                    rw [b4 l u hl0 nla] at f'; cases f'
            have ixi : ixN (as'.map V.ref).length (0 + (i : Int)) = some i := by
              unfold ixN
              rw [if_pos (by omega), if_pos (by rw [List.length_map]; have := (List.getElem?_eq_some_iff.mp hq).1; omega)]
              congr 1; omega
            by_cases hpar : c % 2 = 0
            · refine ⟨l3, [.ref l1, .ref l2], c % 2, V.ref l1, rfl, rfl, SqL.of upd_same, (by rw [hpar]; rfl), ?_⟩
              refine ⟨_, rfl, _, rfl, a, _, _, i, rfl, rfl, a8 _ _ hR4.rows.top, ixi, ?_⟩
              refine fin l1 (o, p, r.2.2) ?_ f1 ?_
              · unfold reH reR; rw [if_pos e, if_pos hpar]
              · rw [upd_ne n13, upd_ne n12, upd_same]; rfl
            · have hpar1 : c % 2 = 1 := by omega
              refine ⟨l3, [.ref l1, .ref l2], c % 2, V.ref l2, rfl, rfl, SqL.of upd_same, (by rw [hpar1]; rfl), ?_⟩
              refine ⟨_, rfl, _, rfl, a, _, _, i, rfl, rfl, a8 _ _ hR4.rows.top, ixi, ?_⟩
              refine fin l2 (p, o, r.2.2) ?_ f2 ?_
              · unfold reH reR; rw [if_pos e, if_neg hpar]
              · rw [upd_ne n23, upd_same]; rfl
          · refine ⟨as', _, rfl, ?_, fun b u hb nb => a5 b u (b4 b u hb nb), nw⟩
            rw [← skip_step er (by unfold reH; rw [if_neg (by rw [e]; decide)])]
            exact hR4.mono a5
        · rintro σ H4 ⟨as', v7, rfl, hR4, b4, nw⟩
          rw [List.take_length, List.drop_length, List.append_nil] at hR4
          refine k as' _ H4 hR4 tR (fun l hl r hr => ?_) b4 nw
          obtain ⟨x, hx, rfl⟩ := List.mem_map.mp hr
          unfold reH
          split
          · rw [reR_len]; exact hl x hx
          · exact hl x hx
end
end Tw
namespace Tw
open PySem L2
open PySem.Builtin.Int (intBits)
section
variable {P : Program} {w : World} {K : PySem.W.Frag} {mg : Str->Option Value} {base : Heap}
theorem ins_get {α : Type} {l : List α} {j : Nat} {x : α} (hj : j ≤ l.length) (i : Nat) : (l.take j ++ x :: l.drop j)[i]? = if i < j then l[i]? else if i = j then some x else l[i - 1]? := by
  have lt : (l.take j).length = j := by rw [List.length_take]; omega
  by_cases h : i < j
  · rw [if_pos h, List.getElem?_append_left (by omega), List.getElem?_take_of_lt h]
  · rw [if_neg h, List.getElem?_append_right (by omega), lt]
    by_cases e : i = j
    · subst e; rw [if_pos rfl, Nat.sub_self]; rfl
    · rw [if_neg e]
      obtain ⟨d, rfl⟩ : ∃ d, i = j + d + 1 := ⟨i - j - 1, by omega⟩
      rw [show j + d + 1 - j = d + 1 by omega, List.getElem?_cons_succ, List.getElem?_drop]
      rfl
theorem RoadsAt.fresh {H : Hp} {a q : Addr} {as : List Addr} {rs : List Road} (h : RoadsAt H a as rs) (hq0 : H q = none) : q ∉ as := fun z => by
  obtain ⟨j, hj⟩ := List.mem_iff_getElem?.mp z
  have hjl : j < rs.length := by rw [← h.len]; exact (List.getElem?_eq_some_iff.mp hj).1
  have e := h.rows.row j q (rowI rs[j]) hj (by rw [List.getElem?_map, List.getElem?_eq_getElem hjl]; rfl)
  rw [hq0] at e; cases e
theorem RoadsAt.ins {H H5 : Hp} {a q : Addr} {as : List Addr} {rs : List Road} {r' : Road} {j : Nat} (h : RoadsAt H a as rs) (s : Same H H5) (hq0 : H q = none) (hq : H5 q = some (.lst (zV (rowI r')))) (hj : j ≤ rs.length) : RoadsAt (upd H5 a (.lst ((as.map V.ref).take j ++ .ref q :: (as.map V.ref).drop j))) a (as.take j ++ q :: as.drop j) (rs.take j ++ r' :: rs.drop j) := by
  have nqa : q ≠ a := fun z => by rw [z, h.rows.top] at hq0; cases hq0
  have nq := h.fresh hq0
  have la := h.len
  refine ⟨⟨?_, ?_, fun i p z e1 e2 => ?_⟩, ?_⟩
  · rw [upd_same, List.map_append, List.map_cons, List.map_take, List.map_drop]
  · rw [List.length_append, List.length_cons, List.length_map, List.length_append, List.length_cons, List.length_take, List.length_take, List.length_drop, List.length_drop]; omega
  · rw [ins_get (by omega)] at e1
    rw [List.map_append, List.map_cons, List.map_take, List.map_drop, ins_get (by rw [List.length_map]; exact hj)] at e2
    by_cases h1 : i < j
    · rw [if_pos h1] at e1 e2
      have na : p ≠ a := fun z => h.ne_top (z ▸ List.mem_of_getElem? e1)
      rw [upd_ne na]; exact s _ _ (h.rows.row i p z e1 e2)
    · rw [if_neg h1] at e1 e2
      by_cases h2 : i = j
      · rw [if_pos h2] at e1 e2
        cases e1; cases e2
        rw [upd_ne nqa]; exact hq
      · rw [if_neg h2] at e1 e2
        have na : p ≠ a := fun z => h.ne_top (z ▸ List.mem_of_getElem? e1)
        rw [upd_ne na]; exact s _ _ (h.rows.row _ p z e1 e2)
  · exact ((ins_perm as j q).nodup_iff).mpr (List.nodup_cons.mpr ⟨nq, h.nd⟩)
theorem RoadsAt.longer {H : Hp} {a p : Addr} {as : List Addr} {rs : List Road} {r r' : Road} {i : Nat} (h : RoadsAt H a as rs) (hi : as[i]? = some p) (hr : rs[i]? = some r) : RoadsAt (upd H p (.lst (zV (rowI r')))) a as (rs.set i r') := by
  have npa : a ≠ p := fun z => h.ne_top (z ▸ List.mem_of_getElem? hi)
  refine ⟨⟨?_, ?_, fun j q z e1 e2 => ?_⟩, h.nd⟩
  · rw [upd_ne npa]; exact h.rows.top
  · rw [List.length_map, List.length_set]; exact h.len
  · by_cases e : i = j
    · subst e
      rw [hi] at e1; cases e1
      rw [List.map_set, List.getElem?_set_self (by rw [List.length_map]; exact (List.getElem?_eq_some_iff.mp hr).1)] at e2
      cases e2
      exact upd_same
    · rw [List.map_set, List.getElem?_set_ne e] at e2
      have nq : q ≠ p := fun z => by
        subst z
        obtain ⟨h1, q1⟩ := List.getElem?_eq_some_iff.mp hi
        obtain ⟨h2, q2⟩ := List.getElem?_eq_some_iff.mp e1
        exact e ((List.getElem_inj h.nd).mp (q1.trans q2.symm))
      rw [upd_ne nq]; exact h.rows.row j q z e1 e2
theorem zV_ins (l : List Int) (j : Nat) (x : Int) : (zV l).take j ++ V.int x :: (zV l).drop j = zV (l.take j ++ x :: l.drop j) := by
  unfold zV; rw [List.map_append, List.map_cons, List.map_take, List.map_drop]
theorem mem_cutV {xs : List V} {lo hi : Option Int} {y : V} (h : y ∈ cutV xs lo hi) : y ∈ xs := by
  unfold cutV at h
  exact List.mem_of_mem_drop (List.mem_of_mem_take h)
theorem bits_getD {ns : List Int} (h : ∀ n ∈ ns, Bits n) (i : Nat) : intBits (ns.getD i 0) ≤ 2 ^ 20 := by
  rw [List.getD_eq_getElem?_getD]
  cases e : ns[i]? with
  | none => decide
  | some n => exact h n (List.mem_of_getElem? e)
def spTree (K : PySem.W.Frag) : Sp := fun vs H Q _ => ∃ (a : Addr) (ns : List Int), vs = [.ref a]/\SqL K H a (zV ns)/\(∀ n ∈ ns, Bits n)/\ns.length ≤ 63 ∧
  ∀ (T A : Addr) (as : List Addr) (n : Nat) (rs : List Road) (H' : Hp), H' T = some (.tup [.int n, .ref A])->RoadsAt H' A as rs->Tree n rs->(∀ r ∈ rs, r.2.2 ≤ 10 ^ 39)->Same H H'->Q (.ref T) H'
end
end Tw
namespace Tw
open PySem L2
open PySem.Builtin.Int (intBits)
section
variable {P : Program} {w : World} {K : PySem.W.Frag} {mg : Str->Option Value} {base : Heap}
theorem scTree : FnScope ["_law_script", "_law_cell", "_law_many", "_law_shape", "_law_names", "_law_k", "_law_roads", "_law_pair", "_law_one", "_law_at"] ["_law_script"] (defScope sTree) := ⟨rfl, rfl, rfl, by decide +kernel, rfl, by decide +kernel, by decide +kernel⟩
theorem ok_tree {f fM fC fO fZ fH : Addr} {fd fdM fdC fdO fdZ fdH : FuncData} (F : Def K mg "_law_tree" sTree ["_law_script"] f fd) (FM : Def K mg "_law_mix" sMix ["_law_number", "_law_k"] fM fdM) (FC : Def K mg "_law_cell_at" sCell ["_law_script", "_law_k"] fC fdC) (FO : Def K mg "_law_older" sOlder ["_law_cell", "_law_k"] fO fdO) (FZ : Def K mg "_law_size" sSize ["_law_cell", "_law_k"] fZ fdZ) (FH : Def K mg "_law_hung" sHung ["_law_roads", "_law_many", "_law_cell"] fH fdH) (B : Bi K mg) : FnOk P w K mg base CX0 3 f fd ["_law_script"] (spTree K) := by
  have GM : FnOk P w K mg base CX0 1 fM fdM ["_law_number", "_law_k"] spMix := ok_mix FM
  have GC : FnOk P w K mg base CX0 1 fC fdC ["_law_script", "_law_k"] (spCell K) := ok_cell FC B
  have GO : FnOk P w K mg base CX0 2 fO fdO ["_law_cell", "_law_k"] spOlder := ok_older FO FM B
  have GZ : FnOk P w K mg base CX0 2 fZ fdZ ["_law_cell", "_law_k"] spSize := ok_size FZ FM
  have GH : FnOk P w K mg base CX0 2 fH fdH ["_law_roads", "_law_many", "_law_cell"] spHung := ok_hung FH FM B
  refine F.fn.ok scTree (fun vs H Q E h => ?_) (fun cdv A outer s H vs Q E hr h => ?_)
  · obtain ⟨a, ns, rfl, _⟩ := h
    rfl
  · obtain ⟨a, ns, rfl, hS, hb, hl, k⟩ := h
    have nd := scTree.nd
    have hr1 : Room 1 _ := hr.mono (by decide)
    refine ⟨_, pss_cons (ps_set (i := 1) nd rfl (Or.inl rfl) (pe_call GC hr1 rfl FC.mg FC.fn.kp FC.bn .nil pass0 (pa_cons (pv 0) (pa_cons pe_int pa_nil))))
      (pss_cons (ps_set (i := 2) nd rfl (Or.inl rfl) (pe_ix ix_list (pe_lst (pa_cons (pe_op op_add pe_int (pe_op op_mod (pe_op op_fdiv (pv 1) pe_int) pe_int)) (pa_cons (pe_op op_add pe_int (pe_op op_mod (pe_op op_fdiv (pv 1) pe_int) pe_int)) (pa_cons pe_int (pa_cons (pe_op op_add pe_int (pe_op op_mod (pe_op op_fdiv (pv 1) pe_int) pe_int)) pa_nil))))) (pe_op op_mod (pv 1) pe_int) (fun _ _ => rfl)))
      (pss_cons (ps_set (i := 3) nd rfl (Or.inl rfl) (pe_call GC hr1 rfl FC.mg FC.fn.kp FC.bn .nil pass0 (pa_cons (pv 0) (pa_cons pe_int pa_nil))))
      (pss_cons (ps_set (i := 4) nd rfl (Or.inl rfl) (pe_lst pa_nil))
      (pss_cons (ps_for PassesOwn.never rfl (pi_range1 rfl B.range (pa_cons (pv 2) pa_nil)) (pg_name (i := 5) nd rfl (Or.inl rfl))
        (pss_one (ps_expr (pe_bm PySem.F.plainAttrs_list PySem.F.slot_list_insert PySem.F.type_list_insert mt_insert (pv 4) (pa_cons (pe_op op_mod (pe_call GM hr1 rfl FM.mg FM.fn.kp FM.bn .nil pass0 (pa_cons (pe_op op_add (pv 3) (pe_op op_mul (pv 5) (pv 5))) (pa_cons pe_int pa_nil))) (pe_op op_add (pv 5) pe_int)) (pa_cons (pv 5) pa_nil))))))
      (pss_cons (ps_set (i := 6) nd rfl (Or.inl rfl) (pe_lst pa_nil))
      (pss_cons (ps_for PassesOwn.never rfl (pi_range2 rfl B.range (pa_cons pe_int (pa_cons (pv 2) pa_nil))) (pg_name (i := 5) nd rfl (Or.inl rfl))
        (pss_cons (ps_set (i := 7) nd rfl (Or.inl rfl) (pe_lst (pa_cons (pe_ix ix_list (pv 4) (pe_call GO hr rfl FO.mg FO.fn.kp FO.bn .nil pass0 (pa_cons (pv 3) (pa_cons (pv 5) pa_nil))) (fun _ _ => rfl)) (pa_cons (pe_ix ix_list (pv 4) (pv 5) (fun _ _ => rfl)) pa_nil))))
        (pss_cons (ps_if (pt_cmpR op_eq (pe_op op_mod (pe_call GM hr1 rfl FM.mg FM.fn.kp FM.bn .nil pass0 (pa_cons (pe_op op_add (pv 3) (pv 5)) (pa_cons pe_int pa_nil))) pe_int) pe_int (nomark _)) (pss_one (ps_set (i := 7) nd rfl (Or.inl rfl) (pe_rev (pv 7) (pe_un un_neg pe_int)))) pss_nil)
        (pss_one (ps_expr (pe_bm PySem.F.plainAttrs_list PySem.F.slot_list_insert PySem.F.type_list_insert mt_insert (pv 6) (pa_cons (pe_op op_mod (pe_call GM hr1 rfl FM.mg FM.fn.kp FM.bn .nil pass0 (pa_cons (pe_op op_add (pv 3) (pv 5)) (pa_cons pe_int pa_nil))) (pv 5))
          (pa_cons (pe_op op_cat (pv 7) (pe_lst (pa_cons (pe_call GZ hr rfl FZ.mg FZ.fn.kp FZ.bn .nil pass0 (pa_cons (pv 3) (pa_cons (pv 5) pa_nil))) pa_nil))) pa_nil))))))))
      (pss_cons (ps_for PassesOwn.never rfl (pi_list (pe_slice sl_list (pv 0) (po_some pe_int) (po_some pe_int))) (pg_name (i := 8) nd rfl (Or.inl rfl))
        (pss_cons (ps_if (PW.pt (pw_and (pt_cmpR op_gt (pv 2) pe_int (nomark _)) (pw_and1 (pt_cmpR op_eq (pe_op op_mod (pv 8) pe_int) pe_int (nomark _)))))
          (pss_one (ps_expr (pe_call GH hr rfl FH.mg FH.fn.kp FH.bn .nil pass0 (pa_cons (pv 6) (pa_cons (pv 2) (pa_cons (pe_op op_fdiv (pv 8) pe_int) pa_nil)))))) pss_nil)
        (pss_one (ps_if (PW.pt (pw_and (pt_cmpR op_gt (pv 2) pe_int (nomark _)) (pw_and1 (pt_cmpR op_eq (pe_op op_mod (pv 8) pe_int) pe_int (nomark _)))))
          (pss_cons (ps_set (i := 9) nd rfl (Or.inl rfl) (pe_op op_mod (pe_call GM hr1 rfl FM.mg FM.fn.kp FM.bn .nil pass0 (pa_cons (pv 8) (pa_cons pe_int pa_nil))) (pe_op op_sub (pv 2) pe_int)))
          (pss_one (ps_asg (pe_op op_add pe_int (pe_op op_mod (pe_op op_add (pe_ix ix_list (pe_ix ix_list (pv 6) (pv 9) (fun _ _ => rfl)) pe_int (fun _ _ => rfl)) (pe_op op_mod (pe_call GM hr1 rfl FM.mg FM.fn.kp FM.bn .nil pass0 (pa_cons (pv 8) (pa_cons pe_int pa_nil))) pe_int)) (pe_op op_pow pe_int pe_int)))
            (pg_sub (pe_ix ix_list (pv 6) (pv 9) (fun _ _ => rfl)) pe_int set_list)))) pss_nil))))
      (pss_one (ps_ret (pe_tup (pa_cons (pv 2) (pa_cons (pv 6) pa_nil)))))))))))), ?_⟩
    have hc := bits_getD hb 0
    have hd := bits_getD hb 1
    refine ⟨_, rfl, a, ns, 0, rfl, hS, ?_⟩
    generalize ns.getD 0 0 = c at hc
    refine ⟨_, rfl, _, _, rfl, rfl, ⟨by decide, by decide⟩, _, _, rfl, rfl, (by show (0 : Int) < 12; decide), _, _, rfl, rfl, _, rfl, _, _, rfl, rfl, ⟨by decide, by decide⟩, _, _, rfl, rfl, (by show (0 : Int) < 6; decide), _, _, rfl, rfl,
      _, rfl, _, _, rfl, rfl, ⟨by decide, by decide⟩, _, _, rfl, rfl, (by show (0 : Int) < 12; decide), _, _, rfl, rfl, by show 4 ≤ sizeLine; exact len12 (by decide), fun p hp => ?_⟩
    refine ⟨_, rfl, _, _, rfl, rfl, (by show (0 : Int) < 4; decide), ?_⟩
    obtain ⟨v, hv, hs, hat, _⟩ := pick_list (K := K) (H := upd H p (.lst [V.int (1 + c / 4 % 12), V.int (1 + c / 4 % 6), V.int 12, V.int (1 + c / 4 % 12)])) upd_same (i := c % 4) (Int.emod_nonneg _ (by decide)) (Int.emod_lt_of_pos _ (by decide))
    refine ⟨p, _, _, v, rfl, rfl, hs, hat, ?_⟩
    obtain ⟨m, rfl, m1, m2⟩ : ∃ m : Nat, v = V.int m/\1 ≤ m/\m ≤ 12 := by
      simp only [List.mem_cons, List.not_mem_nil, or_false] at hv
      rcases hv with rfl | rfl | rfl | rfl
      · exact ⟨(1 + c / 4 % 12).toNat, by congr 1; omega, by omega, by omega⟩
      · exact ⟨(1 + c / 4 % 6).toNat, by congr 1; omega, by omega, by omega⟩
      · exact ⟨12, rfl, by omega, by omega⟩
      · exact ⟨(1 + c / 4 % 12).toNat, by congr 1; omega, by omega, by omega⟩
    have s1 := same_upd (o := .lst [V.int (1 + c / 4 % 12), V.int (1 + c / 4 % 6), V.int 12, V.int (1 + c / 4 % 12)]) hp
    generalize upd H p (.lst [V.int (1 + c / 4 % 12), V.int (1 + c / 4 % 6), V.int 12, V.int (1 + c / 4 % 12)]) = H1 at s1
    refine ⟨_, rfl, a, ns, 1, rfl, s1.seq hS, ?_⟩
    generalize ns.getD 1 0 = d at hd
    refine ⟨by show 0 ≤ sizeLine; exact len12 (by decide), fun NL hNL => ?_⟩
    have s2 := s1.trans (same_upd (o := .lst []) hNL)
    refine ⟨_, rfl, (m : Int), rfl, by omega, by omega, ?_⟩
    rw [Int.toNat_natCast]
    have hNL0 : H NL = none := s1.free hNL
    refine for_range (fun i σ H2 => ∃ (l : List Int) (v5 : Option V), σ = [some (.ref a), some (.int c), some (.int m), some (.int d), some (.ref NL), v5, none, none, none, none]/\l.Perm (pl i)/\H2 NL = some (.lst (zV l))/\Same H H2) ⟨[], none, rfl, .refl _, upd_same, s2⟩ ?_ ?_
    · rintro i σ H2 hi ⟨l, v5, rfl, pm, hl2, sm⟩
      have ll : l.length = i := by rw [pm.length_eq, pl_length]
      have kk : -(2 ^ 64) < (0 + (i : Int)) * (0 + (i : Int))/\(0 + (i : Int)) * (0 + (i : Int)) < 2 ^ 64 := by
        have a := Int.mul_le_mul (show (0 + (i : Int)) ≤ 12 by omega) (show (0 + (i : Int)) ≤ 12 by omega) (by omega) (by omega)
        have b := Int.mul_nonneg (show 0 ≤ (0 + (i : Int)) by omega) (show 0 ≤ (0 + (i : Int)) by omega)
        omega
      refine ⟨_, rfl, .inl ⟨rfl, _, SqL.of hl2⟩, _, rfl, _, rfl, _, rfl, _, _, rfl, rfl, .inl ⟨by omega, by omega⟩, _, _, rfl, rfl, _, _, rfl, bits_add' (Nat.le_trans hd (by decide)) kk, by decide, by decide, _, rfl, _, _, rfl, rfl, _, _, rfl, rfl, (by omega), _, rfl, ?_⟩
      have i0 := Int.emod_nonneg (mixF (d + (0 + (i : Int)) * (0 + (i : Int))) 3) (show (0 + (i : Int) + 1) ≠ 0 by omega)
      have i1 := Int.emod_lt_of_pos (mixF (d + (0 + (i : Int)) * (0 + (i : Int))) 3) (show (0 : Int) < 0 + (i : Int) + 1 by omega)
      obtain ⟨j, hj⟩ : ∃ j : Nat, mixF (d + (0 + (i : Int)) * (0 + (i : Int))) 3 % (0 + (i : Int) + 1) = (j : Int) := ⟨_, (Int.toNat_of_nonneg i0).symm⟩
      refine ⟨NL, _, j, _, rfl, (by rw [← hj]), hl2, by rw [zV_length]; omega, by rw [zV_length]; exact small1000 (by omega), ?_⟩
      refine ⟨l.take j ++ (i : Int) :: l.drop j, _, rfl, names_step pm j, ?_, fun b o e => by rw [upd_ne (ne_of_none e hNL0)]; exact sm b o e⟩
      rw [upd_same, show (0 + (i : Int)) = (i : Int) by omega, zV_ins]
    rintro σ H2 ⟨names, v5, rfl, pm, hN2, sm2⟩
    have nl : names.length = m := by rw [pm.length_eq, pl_length]
    have nnd : names.Nodup := pm.nodup_iff.mpr (pl_nodup m)
    refine ⟨by show 0 ≤ sizeLine; exact len12 (by decide), fun RL hRL => ?_⟩
    have hRL0 : H RL = none := sm2.free hRL
    have nNR : NL ≠ RL := ne_of_none hN2 hRL
    refine ⟨_, rfl, (1 : Int), (m : Int), rfl, ⟨by decide, by decide, by omega, by omega⟩, ?_⟩
    rw [show ((m : Int) - 1).toNat = m - 1 by omega]
    refine for_range (fun i σ H3 => ∃ (as : List Addr) (rs : List Road) (v5 v7 : Option V), σ = [some (.ref a), some (.int c), some (.int m), some (.int d), some (.ref NL), v5, some (.ref RL), v7, none, none]/\RoadsAt H3 RL as rs/\Tr rs (names.take (i + 1))/\(∀ r ∈ rs, 1 ≤ r.2.2/\r.2.2 ≤ 10 ^ 39) ∧
      H3 NL = some (.lst (zV names))/\Same H H3/\∀ x ∈ as, H x = none) ?_ ?_ ?_
    · refine ⟨[], [], _, none, rfl, ⟨⟨upd_same, rfl, fun i p z e => by simp at e⟩, List.nodup_nil⟩, ?_, (fun r hr => nomatch hr), by rw [upd_ne nNR]; exact hN2, fun b o e => by rw [upd_ne (ne_of_none e hRL0)]; exact sm2 b o e, fun x hx => nomatch hx⟩
      match names, nl with
      | x :: t, _ => exact .one x
      | [], e => simp at e; omega
    · rintro i σ H3 hi ⟨as, rs, v5, v7, rfl, hR3, tr, hlen, hN3, sm3, fr3⟩
      have rl : rs.length = i := by
        have := tr.length
        rw [List.length_take] at this; omega
      have al := hR3.len
      refine ⟨_, rfl, _, rfl, _, rfl, d, 1 + (i : Int), rfl, hd, by omega, by omega, fun o H4 s4 o0 o1 => ?_⟩
      obtain ⟨u, hu⟩ : ∃ u, names[o.toNat]? = some u := ⟨names[o.toNat]'(by omega), List.getElem?_eq_getElem _⟩
      obtain ⟨x, hx⟩ : ∃ x, names[i + 1]? = some x := ⟨names[i + 1]'(by omega), List.getElem?_eq_getElem _⟩
      refine ⟨NL, _, _, _, rfl, rfl, SqL.of (s4 _ _ hN3), atI_int o0 (zV_get hu), _, rfl, _, rfl, NL, _, _, _, rfl, rfl, SqL.of (s4 _ _ hN3), atI_int (by omega) (by rw [show (1 + (i : Int)).toNat = i + 1 by omega]; exact zV_get hx), by show 2 ≤ sizeLine; exact len12 (by decide), fun pr hpr => ?_⟩
      have s5 := s4.trans (same_upd (o := .lst [V.int u, V.int x]) hpr)
      have dk : intBits (d + (1 + (i : Int))) ≤ 2 ^ 21 := bits_add' (Nat.le_trans hd (by decide)) ⟨by omega, by omega⟩
      refine ⟨_, rfl, _, rfl, _, _, rfl, rfl, _, _, rfl, dk, by decide, by decide, _, _, rfl, rfl, (by show (0 : Int) < 2; decide), rfl, _, rfl, ?_⟩
      rw [dec_vint]
      refine iteD (fun e => ?g1) (fun e => ?g2)
      case' g1 =>
        refine ⟨_, rfl, _, rfl, pr, _, rfl, rfl, SqL.of upd_same, fun p2 hp2 => ?_⟩
        have s5' := s5.trans (same_upd (o := .lst [V.int x, V.int u]) hp2)
        obtain ⟨y, z, h5, hJ⟩ : ∃ y z : Int, (upd (upd H4 pr (.lst [V.int u, V.int x])) p2 (.lst [V.int x, V.int u])) p2 = some (.lst [V.int y, V.int z])/\∀ l, Joins (y, z, l) u x := ⟨x, u, upd_same, fun l => .inr ⟨rfl, rfl⟩⟩
      case' g2 =>
        have s5' := s5
        obtain ⟨y, z, h5, hJ⟩ : ∃ y z : Int, (upd H4 pr (.lst [V.int u, V.int x])) pr = some (.lst [V.int y, V.int z])/\∀ l, Joins (y, z, l) u x := ⟨u, x, upd_same, fun l => .inl ⟨rfl, rfl⟩⟩
      all_goals
        refine ⟨_, rfl, .inl ⟨rfl, _, SqL.of (s5' _ _ hR3.rows.top)⟩, _, rfl, _, rfl, _, _, rfl, rfl, _, _, rfl, dk, by decide, by decide, _, rfl, _, _, rfl, rfl, (by omega), _, rfl, _, rfl, _, rfl, d, 1 + (i : Int), rfl, hd, by omega, by omega, fun len H6 s6 l0 l1 => ?_⟩
        refine ⟨by show 1 ≤ sizeLine; exact len12 (by decide), fun q1 hq1 => ?_⟩
        have s7 := (s5'.trans s6).trans (same_upd (o := .lst [V.int len]) hq1)
        have npq := ne_of_none (s6 _ _ h5) hq1
        refine ⟨_, q1, _, _, rfl, rfl, (upd_ne npq).trans (s6 _ _ h5), upd_same, by show 2 + 1 ≤ sizeLine; exact len12 (by decide), fun q2 hq2 => ?_⟩
        have s8 := s7.trans (same_upd (o := .lst ([V.int y, V.int z] ++ [V.int len])) hq2)
        have q20 : H3 q2 = none := s7.free hq2
        have i0 := Int.emod_nonneg (mixF (d + (1 + (i : Int))) 5) (show (1 + (i : Int)) ≠ 0 by omega)
        have i1 := Int.emod_lt_of_pos (mixF (d + (1 + (i : Int))) 5) (show (0 : Int) < 1 + (i : Int) by omega)
        obtain ⟨j, hj⟩ : ∃ j : Nat, mixF (d + (1 + (i : Int))) 5 % (1 + (i : Int)) = (j : Int) := ⟨_, (Int.toNat_of_nonneg i0).symm⟩
        refine ⟨RL, _, j, _, rfl, (by rw [← hj]), s8 _ _ hR3.rows.top, by rw [List.length_map, al]; omega, by rw [List.length_map, al]; exact small1000 (by omega), ?_⟩
        refine ⟨as.take j ++ q2 :: as.drop j, rs.take j ++ (y, z, len) :: rs.drop j, _, _, rfl, hR3.ins s8 q20 upd_same (by omega), ?_, ?_, ?_, ?_, ?_⟩
        · exact grow_step tr nnd (show o.toNat < i + 1 by omega) (by omega) hu hx (hJ len) j
        · intro r hr
          rcases List.mem_cons.mp ((ins_perm rs j (y, z, len)).mem_iff.mp hr) with e | e
          · subst e; exact ⟨l0, l1⟩
          · exact hlen r e
        · rw [upd_ne nNR]; exact s8 _ _ hN3
        · intro b o e
          rw [upd_ne (ne_of_none e hRL0)]; exact s8 b o (sm3 b o e)
        · intro b hb
          rcases List.mem_cons.mp ((ins_perm as j q2).mem_iff.mp hb) with e | e
          · subst e; exact sm3.free q20
          · exact fr3 b e
    rintro σ H3 ⟨as, rs, v5', v7, rfl, hR3, tr, hlen, hN3, sm3, fr3⟩
    have tr0 : Tree m rs := by
      refine ⟨m1, m2, tr.perm (.refl _) ?_, fun r hr => (hlen r hr).1⟩
      rw [show m - 1 + 1 = m by omega, ← nl, List.take_length]
      rw [nl]; exact pm.symm
    have hle0 : ∀ r ∈ rs, r.2.2 ≤ 10 ^ 39 := fun r hr => (hlen r hr).2
    refine ⟨_, rfl, _, rfl, _, rfl, a, _, rfl, sm3.seq hS, fun SL hSL => ?_⟩
    have hSR : SL ≠ RL := fun z => by rw [z, hR3.rows.top] at hSL; cases hSL
    have hSL0 : H SL = none := sm3.free hSL
    have hSa : SL ∉ as := hR3.fresh hSL
    refine ⟨SL, rfl, ⟨_, SqL.of upd_same⟩, ?_⟩
    have s4 := same_upd (o := .lst (cutV (zV ns) (some 3) (some 63))) hSL
    refine for_list (K := K) (a := SL) (xs := cutV (zV ns) (some 3) (some 63)) (fun i σ H5 => ∃ (as : List Addr) (rs : List Road) (v8 v9 : Option V), σ = [some (.ref a), some (.int c), some (.int m), some (.int d), some (.ref NL), v5', some (.ref RL), v7, v8, v9]/\RoadsAt H5 RL as rs/\Tree m rs/\(∀ r ∈ rs, r.2.2 ≤ 10 ^ 39) ∧
      H5 SL = some (.lst (cutV (zV ns) (some 3) (some 63)))/\SL ∉ as/\Same H H5/\∀ x ∈ as, H x = none) ⟨as, rs, none, none, rfl, hR3.mono s4, tr0, hle0, upd_same, hSa, sm3.trans s4, fr3⟩ (fun i σ H5 _ ⟨_, _, _, _, _, _, _, _, h, _⟩ => SqL.of h) ?_ ?_
    · rintro i y σ H5 hi ⟨as, rs, v8, v9, rfl, hR5, t5, hle5, hS5, nS5, sm5, fr5⟩
      obtain ⟨z, rfl, hz⟩ : ∃ z, y = V.int z/\Bits z := by
        have := mem_cutV (List.mem_of_getElem? hi)
        unfold zV at this
        obtain ⟨z, hz, e⟩ := List.mem_map.mp this
        exact ⟨z, e.symm, hb z hz⟩
      have hz' : intBits z ≤ 2 ^ 20 := hz
      have t5l := t5.length
      refine ⟨_, rfl, _, _, rfl, rfl, _, rfl, ?_⟩
      refine iteD (fun h1 => ?k1) (fun h1 => ?k2)
      case' k1 =>
        refine ⟨_, rfl, _, _, rfl, rfl, (by show (0 : Int) < 2; decide), rfl, _, rfl, ?_⟩
        rw [dec_vint]
        refine iteD (fun h2 => ?k3) (fun h2 => ?k4)
      case' k3 =>
        refine ⟨_, rfl, _, rfl, _, rfl, _, _, rfl, rfl, ⟨by decide, by decide⟩, RL, as, rs, m, _, rfl, hR5, t5, by omega, bits_ediv hz' (by decide), fun as' rs' H6 hR6 t6 le6 bt6 nw6 => ?_⟩
        have ex : ∃ (asx : List Addr) (rsx : List Road), RoadsAt H6 RL asx rsx/\Tree m rsx/\(∀ r ∈ rsx, r.2.2 ≤ 10 ^ 39)/\H6 SL = some (.lst (cutV (zV ns) (some 3) (some 63)))/\SL ∉ asx/\Same H H6/\∀ x ∈ asx, H x = none := ⟨as', rs', hR6, t6, le6 _ hle5, bt6 _ _ hS5 hSR, (fun q => by
          rcases nw6 _ q with h | h
          · exact nS5 h
          · rw [hS5] at h; cases h), (fun b u hb => bt6 _ _ (sm5 b u hb) (ne_of_none hb hRL0)), fun x hx => by
          rcases nw6 _ hx with h | h
          · exact fr5 x h
          · exact sm5.free h⟩
        clear h1 h2
      case' k4 =>
        have ex : ∃ (asx : List Addr) (rsx : List Road), RoadsAt H5 RL asx rsx/\Tree m rsx/\(∀ r ∈ rsx, r.2.2 ≤ 10 ^ 39)/\H5 SL = some (.lst (cutV (zV ns) (some 3) (some 63)))/\SL ∉ asx/\Same H H5/\∀ x ∈ asx, H x = none := ⟨as, rs, hR5, t5, hle5, hS5, nS5, sm5, fr5⟩
        clear h1 h2
      case' k2 =>
        have ex : ∃ (asx : List Addr) (rsx : List Road), RoadsAt H5 RL asx rsx/\Tree m rsx/\(∀ r ∈ rsx, r.2.2 ≤ 10 ^ 39)/\H5 SL = some (.lst (cutV (zV ns) (some 3) (some 63)))/\SL ∉ asx/\Same H H5/\∀ x ∈ asx, H x = none := ⟨as, rs, hR5, t5, hle5, hS5, nS5, sm5, fr5⟩
        clear h1
      all_goals
        obtain ⟨asx, rsx, hRx, tx, lex, hSx, nSx, smx, frx⟩ := ex
        have txl := tx.length
        refine ⟨_, rfl, _, _, rfl, rfl, _, rfl, ?_⟩
        refine iteD (fun h1 => ?_) (fun h1 => ?_)
        · refine ⟨_, rfl, _, _, rfl, rfl, (by show (0 : Int) < 2; decide), rfl, _, rfl, ?_⟩
          rw [dec_vint]
          refine iteD (fun h2 => ?_) (fun h2 => ?_)
          · refine ⟨_, rfl, _, _, rfl, Nat.le_trans hz' (by decide), by decide, by decide, _, rfl, _, _, rfl, rfl, _, _, rfl, rfl, (by omega), ?_⟩
            have i0 := Int.emod_nonneg (mixF z 6) (show ((m : Int) - 1) ≠ 0 by omega)
            have i1 := Int.emod_lt_of_pos (mixF z 6) (show (0 : Int) < (m : Int) - 1 by omega)
            have hjl : (mixF z 6 % ((m : Int) - 1)).toNat < rsx.length := by omega
            obtain ⟨r, er⟩ : ∃ r, rsx[(mixF z 6 % ((m : Int) - 1)).toNat]? = some r := ⟨_, List.getElem?_eq_getElem hjl⟩
            obtain ⟨q, hq, hrow⟩ := hRx.get er
            have at1 : atI (asx.map V.ref) (mixF z 6 % ((m : Int) - 1)) = some (V.ref q) := atI_int i0 (ref_get hq)
            refine ⟨_, rfl, _, rfl, RL, _, _, _, rfl, rfl, SqL.of hRx.rows.top, at1, q, _, _, _, rfl, rfl, SqL.of hrow, rfl, _, rfl, _, _, rfl, Nat.le_trans hz' (by decide), by decide, by decide, _, _, rfl, rfl, (by show (0 : Int) < 9; decide), _, _, rfl, rfl, _, _, rfl, rfl, ⟨by decide, by decide, by decide⟩, _, _, rfl, rfl, (by show (0 : Int) < 10 ^ 39; decide), _, _, rfl, rfl, ?_⟩
            refine ⟨_, rfl, _, rfl, RL, _, _, _, rfl, rfl, SqL.of hRx.rows.top, at1, q, _, _, 2, rfl, rfl, hrow, rfl, ?_⟩
            have e0 := Int.emod_nonneg (r.2.2 + mixF z 7 % 9) (show ((10 : Int) ^ 39) ≠ 0 by decide)
            have e1 := Int.emod_lt_of_pos (r.2.2 + mixF z 7 % 9) (show (0 : Int) < (10 : Int) ^ 39 by decide)
            refine ⟨asx, rsx.set _ (r.1, r.2.1, 1 + (r.2.2 + mixF z 7 % 9) % 10 ^ 39), _, _, rfl, ?_, tx.longer er (by omega), fun x hx => ?_, ?_, nSx, fun b u hb => ?_, frx⟩
            · exact hRx.longer (r' := (r.1, r.2.1, 1 + (r.2.2 + mixF z 7 % 9) % 10 ^ 39)) hq er
            · rcases List.mem_or_eq_of_mem_set hx with h | h
              · exact lex x h
              · rw [h]; show 1 + (r.2.2 + mixF z 7 % 9) % 10 ^ 39 ≤ 10 ^ 39; omega
            · have nSq : SL ≠ q := fun w => nSx (by rw [w]; exact List.mem_of_getElem? hq)
              rw [upd_ne nSq]; exact hSx
            · rw [upd_ne (ne_of_none hb (frx q (List.mem_of_getElem? hq)))]; exact smx b u hb
          · exact ⟨asx, rsx, _, _, rfl, hRx, tx, lex, hSx, nSx, smx, frx⟩
        · exact ⟨asx, rsx, _, _, rfl, hRx, tx, lex, hSx, nSx, smx, frx⟩
    rintro σ H5 ⟨as, rs, v8, v9, rfl, hR5, t5, hle5, hS5, nS5, sm5, fr5⟩
    refine ⟨_, rfl, _, rfl, by show 2 ≤ sizeLine; exact len12 (by decide), fun T hT => ?_⟩
    have s6 := same_upd (o := .tup [V.int m, V.ref RL]) hT
    exact k T RL as m rs _ upd_same (hR5.mono s6) t5 hle5 (sm5.trans s6)
end
end Tw
namespace Tw
open PySem L2
open PySem.Builtin.Int (intBits)
section
variable {P : Program} {w : World} {K : PySem.W.Frag} {mg : Str->Option Value} {base : Heap}
theorem zV_flat (z : List Int) : (zV z).all flatV = true := by
  unfold zV; rw [List.all_map, List.all_eq_true]; intro x _; rfl
theorem zV_item {z : List Int} {i : Nat} {y : V} (h : (zV z)[i]? = some y) : ∃ x, z[i]? = some x/\y = V.int x := by
  unfold zV at h
  rw [List.getElem?_map] at h
  cases e : z[i]? with
  | none => rw [e] at h; cases h
  | some x => rw [e] at h; exact ⟨x, rfl, (Option.some.inj h).symm⟩
theorem rows2_of {H : Hp} {a : Addr} {as : List Addr} {zss : List (List Int)} (h : RowsAt H a as zss) : Rows2 K H a as (zss.map zV) := by
  refine ⟨SqL.of h.top, by rw [List.length_map]; exact h.len, fun i p xs e1 e2 => ?_⟩
  rw [List.getElem?_map] at e2
  cases e : zss[i]? with
  | none => rw [e] at e2; cases e2
  | some z =>
    rw [e] at e2
    cases e2
    exact ⟨SqL.of (h.row i p z e1 e), zV_flat z⟩
theorem rows_same (zss : List (List Int)) : ((List.range (zss.map zV).length).all fun j => eqVs ((zss.map zV).getD j []) ((zss.map zV).getD j [])) = true := by
  rw [List.all_eq_true]
  intro j hj
  have hj' := List.mem_range.mp hj
  rw [List.length_map] at hj'
  have e : (zss.map zV).getD j [] = zV zss[j] := by
    rw [List.getD_eq_getElem?_getD, List.getElem?_map, List.getElem?_eq_getElem hj']; rfl
  rw [e]
  exact eqVs_refl (zV_flat _)
def spLaw (K : PySem.W.Frag) : Sp := fun vs H Q _ => ∃ (a : Addr) (ns : List Int), vs = [.ref a]/\SqL K H a (zV ns)/\(∀ n ∈ ns, Bits n)/\ns.length ≤ 63/\∀ H', Q (.bl true) H'
theorem copy_rows {H1 : Hp} {R D : Addr} {as : List Addr} {zss : List (List Int)} {te : TE} {σ : St} {Qf : Hp->Prop} (hR : RowsAt H1 R as zss) (hz : zss.length ≤ 100) (hD : H1 D = none) (hte : ∀ (p : Addr) (H4 : Hp) (Qv : VK) (zs : List V), H4 p = some (.lst zs)->(∀ l, H4 l = none->Qv (.ref l) (upd H4 l (.lst zs)))->te (σ ++ [some (.ref p)]) H4 Qv) (k : ∀ (bs : List Addr) (H2 : Hp), RowsAt H2 D bs zss->Same H1 H2->(∀ b ∈ bs, H1 b = none)->Qf H2) : ∃ W : Nat->Nat->List V->Hp->Prop, (∃ m, W 0 m [] (upd H1 D (.lst [])))/\∀ i m ys H2, W i m ys H2->H2 D = some (.lst ys)/\(((Itl K R).stop i H2/\Qf H2) ∨ ((Itl K R).go i H2/\∃ N : List V->Hp->Prop, (∀ ys' H', N ys' H'->∃ m', m' < m/\W (i + 1) m' ys' H')/\∀ y H3, (Itl K R).yld i H2 y H3->tYes (σ ++ [some y]) H3 fun c H4 => if c = true then te (σ ++ [some y]) H4 fun z H5 => H5 D = some (.lst ys)/\ys.length < sizeLine/\N (ys ++ [z]) (upd H5 D (.lst (ys ++ [z]))) else N ys H4)) := by
  have al := hR.len
  refine comp_list (K := K) (a := R) (xs := as.map V.ref) (fun i ys H2 => ∃ bs : List Addr, ys = bs.map V.ref/\bs.length = i/\H2 D = some (.lst ys)/\Same H1 H2/\(∀ (j : Nat) (p : Addr) (z : List Int), bs[j]? = some p->zss[j]? = some z->H2 p = some (.lst (zV z)))/\∀ b ∈ bs, H1 b = none/\b ≠ D)
      (fun i ys H2 ⟨_, _, _, h1, h2, _⟩ => ⟨h1, SqL.of (h2 _ _ hR.top)⟩) ⟨[], rfl, rfl, upd_same, same_upd hD, (fun j p r e => by simp at e), (fun b hb => nomatch hb)⟩ ?_ ?_
  · rintro i y ys H2 hi ⟨bs, rfl, bl, hD2, s2, rw2, fr2⟩
    obtain ⟨p, hp, rfl⟩ := get_ref hi
    have hil : i < zss.length := by rw [← al]; exact (List.getElem?_eq_some_iff.mp hp).1
    have er : zss[i]? = some zss[i] := List.getElem?_eq_getElem hil
    have hrow := s2 _ _ (hR.row i p zss[i] hp er)
    refine yesI ?_
    refine hte p H2 _ _ hrow fun q hq => ?_
    have nDq : D ≠ q := ne_of_none hD2 hq
    refine ⟨by rw [upd_ne nDq]; exact hD2, by rw [List.length_map, bl]; exact small1000 (by omega), bs ++ [q], by rw [List.map_append]; rfl, by rw [List.length_append, bl]; rfl, upd_same, fun b o e => ?_, fun j p' r e1 e2 => ?_, fun b hb => ?_⟩
    · rw [upd_ne (ne_of_none e hD), upd_ne (ne_of_none (s2 b o e) hq)]; exact s2 b o e
    · by_cases hj : j < bs.length
      · rw [List.getElem?_append_left hj] at e1
        have h2 := rw2 j p' r e1 e2
        rw [upd_ne (fr2 p' (List.mem_of_getElem? e1)).2, upd_ne (ne_of_none h2 hq)]; exact h2
      · rw [List.getElem?_append_right (by omega)] at e1
        have hz : j - bs.length = 0 := by
          have := (List.getElem?_eq_some_iff.mp e1).1
          simp at this; omega
        rw [hz] at e1
        have e3 : q = p' := by simpa using e1
        subst e3
        have e4 : j = i := by omega
        subst e4
        rw [er] at e2; cases e2
        rw [upd_ne nDq.symm, upd_same]
    · rcases List.mem_append.mp hb with z | z
      · exact fr2 b z
      · have e : b = q := by simpa using z
        subst e
        exact ⟨s2.free hq, nDq.symm⟩
  · rintro ys H2 ⟨bs, rfl, bl, hD2, s2, rw2, fr2⟩
    rw [List.length_map, al] at bl
    exact k bs H2 ⟨hD2, bl, fun i p z e1 e2 => rw2 i p z e1 e2⟩ s2 fun b hb => (fr2 b hb).1
theorem RowsAt.freshR {H : Hp} {a q : Addr} {as : List Addr} {zss : List (List Int)} (h : RowsAt H a as zss) (hq0 : H q = none) : q ∉ as := fun z => by
  obtain ⟨j, hj⟩ := List.mem_iff_getElem?.mp z
  have hjl : j < zss.length := by rw [← h.len]; exact (List.getElem?_eq_some_iff.mp hj).1
  have e := h.row j q zss[j] hj (List.getElem?_eq_getElem hjl)
  rw [hq0] at e; cases e
end
end Tw
namespace Tw
open PySem L2 PySem.StrLaws
section
variable {P : Program} {w : World} {K : PySem.W.Frag} {mg : Str->Option Value} {base : Heap}
theorem comp_rowsV {a D : Addr} {as : List Addr} {zss : List (List Int)} {fv : List Int->V} {te : TE} {σ : St} {H : Hp} {Q : Hp->Prop} (hR : RowsAt H a as zss) (hD : H D = none) (hl : zss.length ≤ 1000) (hs : ∀ z p, z ∈ zss->∀ (H4 : Hp) (Qv : VK), H4 p = some (.lst (zV z))->Same H H4->(∀ H5, Same H4 H5->Qv (fv z) H5)->te (σ ++ [some (.ref p)]) H4 Qv) (hq : ∀ H2, H2 D = some (.lst (zss.map fv))->Same H H2->Q H2) : ∃ W : Nat->Nat->List V->Hp->Prop, (∃ m, W 0 m [] (upd H D (.lst [])))/\∀ i m ys H2, W i m ys H2->H2 D = some (.lst ys)/\(((Itl K a).stop i H2/\Q H2) ∨ ((Itl K a).go i H2/\∃ N : List V->Hp->Prop, (∀ ys' H', N ys' H'->∃ m', m' < m/\W (i + 1) m' ys' H')/\∀ y H3, (Itl K a).yld i H2 y H3->tYes (σ ++ [some y]) H3 fun c H4 => if c = true then te (σ ++ [some y]) H4 fun z H5 => H5 D = some (.lst ys)/\ys.length < sizeLine/\N (ys ++ [z]) (upd H5 D (.lst (ys ++ [z]))) else N ys H4)) := by
  have al := hR.len
  refine comp_list (K := K) (a := a) (xs := as.map V.ref) (fun i ys H2 => ys = (zss.take i).map fv/\H2 D = some (.lst ys)/\Same H H2) (fun _ _ _ h => ⟨h.2.1, SqL.of (h.2.2 _ _ hR.top)⟩) ⟨rfl, upd_same, same_upd hD⟩ ?_ ?_
  · rintro i y zs H2 hi ⟨rfl, hD2, s2⟩
    obtain ⟨p, e, rfl⟩ := get_ref hi
    have hil : i < zss.length := by rw [← al]; exact (List.getElem?_eq_some_iff.mp e).1
    have er : zss[i]? = some zss[i] := List.getElem?_eq_getElem hil
    have hrow := s2 _ _ (hR.row i p zss[i] e er)
    refine yesI (hs zss[i] p (List.mem_of_getElem? er) H2 _ hrow s2 fun H5 s5 => ⟨s5 _ _ hD2, by rw [List.length_map, List.length_take]; exact small1000 (by omega), by rw [List.take_add_one, er, List.map_append]; rfl, upd_same, fun b o e => by rw [upd_ne (ne_of_none e hD)]; exact s5 b o (s2 b o e)⟩)
  · rintro ys H2 ⟨rfl, hD2, s2⟩
    rw [List.length_map, al, List.take_length] at hD2
    exact hq H2 hD2 s2
theorem len2000 {n : Nat} (h : n ≤ 4000) : n ≤ sizeLine := Nat.le_trans h (by decide)
def spShowRow : Sp := fun vs H Q _ => ∃ (p : Addr) (z : List Int), vs = [.ref p]/\H p = some (.lst (zV z))/\FitR z/\∀ H', Same H H'->Q (.str (rowT z)) H'
theorem scShowRow : FnScope ["row"] ["row"] (defScope sShownRow) := ⟨rfl, rfl, rfl, by decide +kernel, rfl, by decide +kernel, by decide +kernel⟩
theorem ok_showrow {f : Addr} {fd : FuncData} (F : Def K mg "shown_row" sShownRow ["row"] f fd) (hS : mg "str" = none) (B : Bi K mg) : FnOk P w K mg base CX0 1 f fd ["row"] spShowRow := by
  refine F.fn.ok scShowRow (fun vs H Q E h => ?_) (fun cdv A outer s H vs Q E hr h => ?_)
  · obtain ⟨p, z, rfl, _⟩ := h
    rfl
  · obtain ⟨p, z, rfl, hp, fz, k⟩ := h
    have hl := row_len fz
    refine ⟨_, (pss_cons (ps_if (pt_cmpR op_eq (pe_callB (lenK K) (by rfl) B.len PySem.boot_len (pa_cons (pv 0) pa_nil)) pe_int (nomark _)) (pss_one (ps_ret pe_str)) pss_nil)
      (pss_one (ps_ret (pe_bm PySem.F.plainAttrs_str PySem.F.slot_str_join PySem.F.type_str_join (mt_joinK K) pe_str (pa_cons (pe_comp (defScope sShownRow).names ["row"] ["row", "value"] (pi_listK K (pv 0)) (fun _ _ _ _ => pf_nil) (fun _ _ _ _ => (pe_callTy call_str_int (by rfl) hS PyProof.Rows.boot_str (pa_cons (pv 1) pa_nil)))) pa_nil))))), ?_⟩
    refine ⟨_, rfl, p, _, rfl, .inl (SqL.of hp), rfl, _, rfl, ?_⟩
    rw [zV_length]
    refine iteD (fun e => ?_) (fun e => ?_)
    · have e : (z.length : Int) = 0 := by injection e
      have e0 : z = [] := List.eq_nil_of_length_eq_zero (by omega)
      subst e0
      exact k H (Same.refl _)
    · have h0 : z ≠ [] := fun h0 => by subst h0; exact e rfl
      refine ⟨rfl, _, rfl, p, rfl, ⟨_, SqL.of hp⟩, fun D hD => ?_⟩
      refine comp_map (K := K) (a := p) (xs := z) (el := V.int) (fv := fun n => V.str (num n)) hp hD (by have := fz.2; omega) (fun i n en H4 Qv s4 kk => ?_) fun H2 hD2 s2 => ?_
      · exact ⟨_, rfl, n, rfl, bits_num (fz.1 n (List.mem_of_getElem? en)), kk H4 (Same.refl _)⟩
      · refine ⟨_, D, z.map num, rfl, rfl, SqL.of (by rw [List.map_map]; exact hD2), joinOk_row fz, ?_⟩
        have := k H2 s2
        unfold rowT at this
        rw [if_neg h0] at this; exact this
def spShowRows : Sp := fun vs H Q _ => ∃ (a : Addr) (as : List Addr) (zss : List (List Int)), vs = [.ref a]/\RowsAt H a as zss/\FitW zss/\∀ H', Same H H'->Q (.str (rowsT zss)) H'
theorem scShowRows : FnScope ["rows"] ["rows"] (defScope sShownRows) := ⟨rfl, rfl, rfl, by decide +kernel, rfl, by decide +kernel, by decide +kernel⟩
theorem ok_showrows {f fSR : Addr} {fd fdSR : FuncData} (F : Def K mg "shown_rows" sShownRows ["rows"] f fd) (FSR : Def K mg "shown_row" sShownRow ["row"] fSR fdSR) (GSR : FnOk P w K mg base CX0 1 fSR fdSR ["row"] spShowRow) (B : Bi K mg) : FnOk P w K mg base CX0 2 f fd ["rows"] spShowRows := by
  refine F.fn.ok scShowRows (fun vs H Q E h => ?_) (fun cdv A outer s H vs Q E hr h => ?_)
  · obtain ⟨a, as, zss, rfl, _⟩ := h
    rfl
  · obtain ⟨a, as, zss, rfl, hR, fz, k⟩ := h
    have al := hR.len
    refine ⟨_, (pss_cons (ps_if (pt_cmpR op_eq (pe_callB (lenK K) (by rfl) B.len PySem.boot_len (pa_cons (pv 0) pa_nil)) pe_int (nomark _)) (pss_one (ps_ret pe_str)) pss_nil)
      (pss_one (ps_ret (pe_bm PySem.F.plainAttrs_str PySem.F.slot_str_join PySem.F.type_str_join (mt_joinK K) pe_str (pa_cons (pe_comp (defScope sShownRows).names ["rows"] ["rows", "row"] (pi_listK K (pv 0)) (fun _ _ _ _ => pf_nil) (fun _ _ _ _ => (pe_call GSR (hr.mono (by decide)) rfl FSR.mg FSR.fn.kp FSR.bn .nil pass0 (pa_cons (pv 1) pa_nil)))) pa_nil))))), ?_⟩
    refine ⟨_, rfl, a, _, rfl, .inl (SqL.of hR.top), rfl, _, rfl, ?_⟩
    rw [List.length_map, al]
    refine iteD (fun e => ?_) (fun e => ?_)
    · have e : (zss.length : Int) = 0 := by injection e
      have e0 : zss = [] := List.eq_nil_of_length_eq_zero (by omega)
      subst e0
      exact k H (Same.refl _)
    · have h0 : zss ≠ [] := fun h0 => by subst h0; exact e rfl
      refine ⟨rfl, _, rfl, a, rfl, ⟨_, SqL.of hR.top⟩, fun D hD => ?_⟩
      refine comp_rowsV (K := K) (fv := fun z => V.str (rowT z)) hR hD (by have := fz.2; omega) (fun z p hz H4 Qv hp s4 kk => ?_) fun H2 hD2 s2 => ?_
      · exact ⟨_, rfl, p, z, rfl, hp, fz.1 z hz, fun H5 s5 => kk H5 s5⟩
      · refine ⟨_, D, zss.map rowT, rfl, rfl, SqL.of (by rw [List.map_map]; exact hD2), joinOk_rowsW fz, ?_⟩
        have := k H2 s2
        unfold rowsT at this
        rw [if_neg h0] at this; exact this
end
end Tw
namespace L2
open PySem PySem.Spec
theorem FnOk.to0 {P : Program} {w : World} {K : PySem.W.Frag} {mg : Str->Option Value} {base : Heap} {k : Nat} {f : Addr} {fd : FuncData} {ps : List Str} {sp : Sp} (F : FnOk P w K mg base (CXE P w) k f fd ps sp) : FnOk P w K mg base CX0 k f fd ps (fun vs H Q _ => sp vs H Q fun _ _ _ => False) :=
  ⟨fun vs H Q E h => F.len vs H Q _ h, fun A outer s H args us vs Q E hr e0 hb r h => codeAny_mono (F.run A outer s H args us vs Q _ hr e0 hb r h) fun rr s' q => by
    cases rr with
    | ok fl => cases fl <;> exact q
    | error e => obtain ⟨_, _, _, _, _, _, _, _, _, z⟩ := q; exact z.elim⟩
end L2
namespace Tw
open PySem L2 PySem.StrLaws
section
variable {P : Program} {w : World} {K : PySem.W.Frag} {mg : Str->Option Value} {base : Heap}
theorem small9000 {n : Nat} (h : n < 9000) : n < sizeLine := Nat.lt_of_lt_of_le h (by decide)
theorem len8000 {n : Nat} (h : n ≤ 9000) : n ≤ sizeLine := Nat.le_trans h (by decide)
theorem le_sum : ∀ {l : List Nat} {n : Nat}, n ∈ l->n ≤ l.sum
  | a :: l, n, h => by
    rw [List.sum_cons]
    rcases List.mem_cons.mp h with e | e
    · omega
    · have := le_sum e; omega
theorem piece_le {x y p : Str} (h : p ∈ Txt.split x y) : p.length ≤ x.length := by
  have e := join_split x y
  rw [← glued_eq_join] at e
  have l := PySem.size_glued y (Txt.split x y)
  rw [show (Builtin.Str.glued y (Txt.split x y)).length = x.length from by rw [show Builtin.Str.glued y (Txt.split x y) = x from e]] at l
  have : p.length ≤ ((Txt.split x y).map (·.length)).sum := le_sum (List.mem_map.mpr ⟨p, h, rfl⟩)
  omega
theorem pieces_le (x y : Str) : (Txt.split x y).length ≤ x.length + 2 := PyProof.Rows.split_le x y
theorem comp_fly {α : Type} {a D : Addr} {xs : List α} {el : α->V} {good : α->Prop} {te : TE} {σ : St} {H : Hp} {Q : Hp->Prop} (ha : H a = some (.lst (xs.map el))) (hD : H D = none) (hl : xs.length ≤ 9000) (hbad : ¬ ∀ x ∈ xs, good x) (hs : ∀ x ∈ xs, ∀ (H4 : Hp) (Qv : VK), Same H H4->(good x->∀ z H5, Same H4 H5->Qv z H5)->te (σ ++ [some (el x)]) H4 Qv) : ∃ W : Nat->Nat->List V->Hp->Prop, (∃ m, W 0 m [] (upd H D (.lst [])))/\∀ i m ys H2, W i m ys H2->H2 D = some (.lst ys)/\(((Itl K a).stop i H2/\Q H2) ∨ ((Itl K a).go i H2/\∃ N : List V->Hp->Prop, (∀ ys' H', N ys' H'->∃ m', m' < m/\W (i + 1) m' ys' H')/\∀ y H3, (Itl K a).yld i H2 y H3->tYes (σ ++ [some y]) H3 fun c H4 => if c = true then te (σ ++ [some y]) H4 fun z H5 => H5 D = some (.lst ys)/\ys.length < sizeLine/\N (ys ++ [z]) (upd H5 D (.lst (ys ++ [z]))) else N ys H4)) := by
  refine comp_list (K := K) (a := a) (xs := xs.map el) (fun i ys H2 => ys.length = i/\(∀ x ∈ xs.take i, good x)/\H2 D = some (.lst ys)/\Same H H2) (fun _ _ _ h => ⟨h.2.2.1, SqL.of (h.2.2.2 _ _ ha)⟩) ⟨rfl, fun x hx => by simp at hx, upd_same, same_upd hD⟩ ?_ ?_
  · rintro i y ys H2 hi ⟨rfl, hg, hD2, s2⟩
    rw [List.getElem?_map] at hi
    cases er : xs[ys.length]? with
    | none => rw [er] at hi; cases hi
    | some x =>
      rw [er] at hi
      cases hi
      have hil := (List.getElem?_eq_some_iff.mp er).1
      refine yesI (hs x (List.mem_of_getElem? er) H2 _ s2 fun hx z H5 s5 => ⟨s5 _ _ hD2, Nat.lt_of_lt_of_le (show ys.length < 9001 by omega) (by decide), by rw [List.length_append]; rfl, fun v hv => ?_, upd_same, fun b o e => by rw [upd_ne (ne_of_none e hD)]; exact s5 b o (s2 b o e)⟩)
      rw [List.take_add_one, er] at hv
      rcases List.mem_append.mp hv with q | q
      · exact hg v q
      · have e : v = x := by simpa using q
        rw [e]; exact hx
  · rintro ys H2 ⟨hl2, hg, _, _⟩
    exact (hbad (by rw [List.length_map, List.take_length] at hg; exact hg)).elim
theorem comp_mapW {α : Type} {a D : Addr} {xs : List α} {el fv : α->V} {te : TE} {σ : St} {H : Hp} {Q : Hp->Prop} (ha : H a = some (.lst (xs.map el))) (hD : H D = none) (hl : xs.length ≤ 9000) (hs : ∀ (i : Nat) (x : α), xs[i]? = some x->∀ (H4 : Hp) (Qv : VK), Same H H4->(∀ H5, Same H4 H5->Qv (fv x) H5)->te (σ ++ [some (el x)]) H4 Qv) (hq : ∀ H2, H2 D = some (.lst (xs.map fv))->Same H H2->Q H2) : ∃ W : Nat->Nat->List V->Hp->Prop, (∃ m, W 0 m [] (upd H D (.lst [])))/\∀ i m ys H2, W i m ys H2->H2 D = some (.lst ys)/\(((Itl K a).stop i H2/\Q H2) ∨ ((Itl K a).go i H2/\∃ N : List V->Hp->Prop, (∀ ys' H', N ys' H'->∃ m', m' < m/\W (i + 1) m' ys' H')/\∀ y H3, (Itl K a).yld i H2 y H3->tYes (σ ++ [some y]) H3 fun c H4 => if c = true then te (σ ++ [some y]) H4 fun z H5 => H5 D = some (.lst ys)/\ys.length < sizeLine/\N (ys ++ [z]) (upd H5 D (.lst (ys ++ [z]))) else N ys H4)) := by
  refine comp_list (K := K) (a := a) (xs := xs.map el) (fun i ys H2 => ys = (xs.take i).map fv/\H2 D = some (.lst ys)/\Same H H2) (fun _ _ _ h => ⟨h.2.1, SqL.of (h.2.2 _ _ ha)⟩) ⟨rfl, upd_same, same_upd hD⟩ ?_ ?_
  · rintro i y ys H2 hi ⟨rfl, hD2, s2⟩
    rw [List.getElem?_map] at hi
    cases e : xs[i]? with
    | none => rw [e] at hi; cases hi
    | some x =>
      rw [e] at hi
      cases hi
      have hil := (List.getElem?_eq_some_iff.mp e).1
      refine yesI (hs i x e H2 _ s2 fun H5 s5 => ⟨s5 _ _ hD2, by rw [List.length_map, List.length_take]; exact small9000 (by omega), by rw [List.take_add_one, e, List.map_append]; rfl, upd_same, fun b o e => by rw [upd_ne (ne_of_none e hD)]; exact s5 b o (s2 b o e)⟩)
  · rintro ys H2 ⟨rfl, hD2, s2⟩
    rw [List.take_of_length_le (by rw [List.length_map]; exact Nat.le_refl _)] at hD2
    exact hq H2 hD2 s2
theorem comp_newW {α : Type} {a D : Addr} {xs : List α} {el : α->V} {fz : α->List Int} {te : TE} {σ : St} {H1 : Hp} {Qf : Hp->Prop} (ha : H1 a = some (.lst (xs.map el))) (hl : xs.length ≤ 9000) (hD : H1 D = none) (hte : ∀ x ∈ xs, ∀ (H4 : Hp) (Qv : VK), Same H1 H4->(∀ L H5, Same H4 H5->H4 L = none->H5 L = some (.lst (zV (fz x)))->Qv (.ref L) H5)->te (σ ++ [some (el x)]) H4 Qv) (k : ∀ (bs : List Addr) (H2 : Hp), RowsAt H2 D bs (xs.map fz)->Same H1 H2->(∀ b ∈ bs, H1 b = none)->Qf H2) : ∃ W : Nat->Nat->List V->Hp->Prop, (∃ m, W 0 m [] (upd H1 D (.lst [])))/\∀ i m ys H2, W i m ys H2->H2 D = some (.lst ys)/\(((Itl K a).stop i H2/\Qf H2) ∨ ((Itl K a).go i H2/\∃ N : List V->Hp->Prop, (∀ ys' H', N ys' H'->∃ m', m' < m/\W (i + 1) m' ys' H')/\∀ y H3, (Itl K a).yld i H2 y H3->tYes (σ ++ [some y]) H3 fun c H4 => if c = true then te (σ ++ [some y]) H4 fun z H5 => H5 D = some (.lst ys)/\ys.length < sizeLine/\N (ys ++ [z]) (upd H5 D (.lst (ys ++ [z]))) else N ys H4)) := by
  refine comp_list (K := K) (a := a) (xs := xs.map el) (fun i ys H2 => ∃ bs : List Addr, ys = bs.map V.ref/\bs.length = i/\H2 D = some (.lst ys)/\Same H1 H2/\(∀ (j : Nat) (p : Addr) (x : α), bs[j]? = some p->xs[j]? = some x->H2 p = some (.lst (zV (fz x))))/\∀ b ∈ bs, H1 b = none/\b ≠ D)
      (fun i ys H2 ⟨_, _, _, h1, h2, _⟩ => ⟨h1, SqL.of (h2 _ _ ha)⟩) ⟨[], rfl, rfl, upd_same, same_upd hD, (fun j p r e => by simp at e), (fun b hb => nomatch hb)⟩ ?_ ?_
  · rintro i y ys H2 hi ⟨bs, rfl, bl, hD2, s2, rw2, fr2⟩
    rw [List.getElem?_map] at hi
    cases er : xs[i]? with
    | none => rw [er] at hi; cases hi
    | some x =>
      rw [er] at hi
      cases hi
      have hil := (List.getElem?_eq_some_iff.mp er).1
      refine yesI ?_
      refine hte x (List.mem_of_getElem? er) H2 _ s2 fun q H5 s5 hq h5 => ?_
      have nDq : D ≠ q := ne_of_none hD2 hq
      have s15 := s2.trans s5
      refine ⟨s5 _ _ hD2, by rw [List.length_map, bl]; exact small9000 (by omega), bs ++ [q], by rw [List.map_append]; rfl, by rw [List.length_append, bl]; rfl, upd_same, fun b o e => ?_, fun j p' r e1 e2 => ?_, fun b hb => ?_⟩
      · rw [upd_ne (ne_of_none e hD)]; exact s15 b o e
      · by_cases hj : j < bs.length
        · rw [List.getElem?_append_left hj] at e1
          have h2 := rw2 j p' r e1 e2
          rw [upd_ne (fr2 p' (List.mem_of_getElem? e1)).2]; exact s5 _ _ h2
        · rw [List.getElem?_append_right (by omega)] at e1
          have hz : j - bs.length = 0 := by
            have := (List.getElem?_eq_some_iff.mp e1).1
            simp at this; omega
          rw [hz] at e1
          have e3 : q = p' := by simpa using e1
          subst e3
          have e4 : j = i := by omega
          subst e4
          rw [er] at e2; cases e2
          rw [upd_ne nDq.symm]; exact h5
      · rcases List.mem_append.mp hb with z | z
        · exact fr2 b z
        · have e : b = q := by simpa using z
          subst e
          exact ⟨s2.free hq, nDq.symm⟩
  · rintro ys H2 ⟨bs, rfl, bl, hD2, s2, rw2, fr2⟩
    rw [List.length_map] at bl
    refine k bs H2 ⟨hD2, by rw [bl, List.length_map], fun i p z e1 e2 => ?_⟩ s2 fun b hb => (fr2 b hb).1
    rw [List.getElem?_map] at e2
    cases e : xs[i]? with
    | none => rw [e] at e2; cases e2
    | some x => rw [e] at e2; cases e2; exact rw2 i p x e1 e
def spFigsB : Sp := fun vs H Q _ => ∃ x : Str, vs = [.str x]/\x.length ≤ 9000/\∀ H', Same H H'->Q (.bl (figB x.cps.toList)) H'
theorem scFigs : FnScope ["text"] ["text"] (defScope sAreFigures) := ⟨rfl, rfl, rfl, by decide +kernel, rfl, by decide +kernel, by decide +kernel⟩
theorem dig_mem : ∀ c : Nat, decide (c ∈ ("0123456789" : Str).cps.toList) = digB c := fun c => by
  show decide (c ∈ [48, 49, 50, 51, 52, 53, 54, 55, 56, 57]) = decide (48 ≤ c/\c ≤ 57)
  refine decide_eq_decide.mpr ⟨fun h => by simp at h; omega, fun h => ?_⟩
  have : c = 48 ∨ c = 49 ∨ c = 50 ∨ c = 51 ∨ c = 52 ∨ c = 53 ∨ c = 54 ∨ c = 55 ∨ c = 56 ∨ c = 57 := by omega
  rcases this with e | e | e | e | e | e | e | e | e | e <;> subst e <;> decide
theorem ok_figsB {f : Addr} {fd : FuncData} {tF tN : Tok} (F : Def K mg "are_figures" sAreFigures ["text"] f fd) (hF : mg "FIGURES" = some (.str "0123456789" tF)) (hN : mg "MOST_FIGURES" = some (.int 60 tN)) (B : Bi K mg) : FnOk P w K mg base CX0 1 f fd ["text"] spFigsB := by
  refine F.fn.ok scFigs (fun vs H Q E h => ?_) (fun cdv A outer s H vs Q E hr h => ?_)
  · obtain ⟨x, rfl, _⟩ := h
    rfl
  · obtain ⟨x, rfl, hl, k⟩ := h
    have ll := lenS x
    have hz : x.length ≤ sizeLine := len8000 hl
    refine ⟨_, (pss_cons (ps_if (PW.pt (pw_or (pt_cmpR op_eq (pe_callB call_len_str (by rfl) B.len PySem.boot_len (pa_cons (pv 0) pa_nil)) pe_int (nomark _)) (pw_or (pt_cmpR op_gt (pe_callB call_len_str (by rfl) B.len PySem.boot_len (pa_cons (pv 0) pa_nil)) (pe_glob (v := .int 60) rfl hN ⟨_, rfl⟩) (nomark _)) (pw_or1 (pt_not (pt_val (pe_callB (call_all rfl) (by rfl) B.all PyProof.Rows.boot_all (pa_cons (pe_comp (defScope sAreFigures).names ["text"] ["text", "sign"] (pi_str (pv 0)) (fun _ _ _ _ => pf_nil) (fun _ _ _ _ => (pe_cmpR op_in_str (pv 1) (pe_glob (v := .str "0123456789") rfl hF ⟨_, rfl⟩) rfl))) pa_nil)))))))) (pss_one (ps_ret pe_bl)) pss_nil)
      (pss_one (ps_ret (pe_or (pe_cmpR op_eq (pv 0) pe_str (nomark _)) (pe_one (pe_not (pe_bm PySem.F.plainAttrs_str PySem.F.slot_str_startswith PySem.F.type_str_startswith mt_startswith (pv 0) (pa_consC pe_str pa_nil)))))))), ?_⟩
    refine ⟨_, rfl, x, rfl, hz, rfl, _, rfl, ?_⟩
    refine iteD (fun e => ?_) (fun e0 => ?_)
    · have e : (x.length : Int) = 0 := by injection e
      have e2 : x.cps.toList = [] := List.eq_nil_of_length_eq_zero (by omega)
      rw [e2] at k
      exact k H (Same.refl _)
    have n0 : x.cps.toList ≠ [] := fun q => by
      rw [q] at ll
      exact e0 (by rw [← ll]; rfl)
    refine ⟨_, rfl, x, rfl, hz, _, _, rfl, rfl, _, rfl, ?_⟩
    refine iteD (fun e => ?_) (fun e1 => ?_)
    · have : figB x.cps.toList = false := by
        unfold figB
        rw [decide_eq_false (show ¬ x.cps.toList.length ≤ 60 by omega)]; simp
      rw [this] at k
      exact k H (Same.refl _)
    refine ⟨_, rfl, x, rfl, fun D hD => ?_⟩
    refine comp_signs (fv := fun c => V.bl (digB c)) hD (by omega) (fun c hc H4 Qv s4 kk => ⟨_, rfl, _, _, rfl, rfl, ?_⟩) fun H2 hD2 s2 => ?_
    · rw [found_one, dig_mem]; exact kk H4 (Same.refl _)
    refine ⟨D, x.cps.toList.map digB, rfl, SqL.of (by rw [List.map_map]; exact hD2), ?_⟩
    have ea : ((x.cps.toList.map digB).all id) = x.cps.toList.all digB := by rw [List.all_map]; rfl
    rw [ea]
    have ef : figB x.cps.toList = (x.cps.toList.all digB && (decide (x.cps.toList = [48]) || decide (x.cps.toList[0]? ≠ some 48))) := by
      unfold figB
      rw [decide_eq_true n0, decide_eq_true (show x.cps.toList.length ≤ 60 by omega)]; rfl
    rw [ef] at k
    cases hb : x.cps.toList.all digB with
    | false =>
      rw [hb] at k
      exact ⟨_, rfl, iteT (k H2 s2)⟩
    | true =>
      rw [hb] at k
      refine ⟨_, rfl, iteF ?_⟩
      refine ⟨_, rfl, rfl, _, rfl, ?_⟩
      refine iteD (fun e2 => ?_) (fun e2 => ?_)
      · have e2 : x = ("0" : Str) := by injection e2
        subst e2
        exact k H2 s2
      · have n2 : x.cps.toList ≠ [48] := fun q => e2 (by rw [show x = ("0" : Str) from str_ext (by rw [q]; rfl)])
        refine ⟨_, rfl, rfl, x, _, rfl, rfl, _, rfl, ?_⟩
        rw [show Txt.startswith x ("0" : Str) = decide (x.cps.toList[0]? = some 48) from starts_one x 48]
        rw [decide_eq_false n2] at k
        have := k H2 s2
        rw [Bool.true_and, Bool.false_or, decide_not] at this
        exact this
def spIsNumB : Sp := fun vs H Q _ => ∃ x : Str, vs = [.str x]/\x.length ≤ 9000/\∀ H', Same H H'->Q (.bl (numB x)) H'
theorem scIsNum : FnScope ["text"] ["text"] (defScope sIsNumber) := ⟨rfl, rfl, rfl, by decide +kernel, rfl, by decide +kernel, by decide +kernel⟩
theorem ok_isnumB {f fAF : Addr} {fd fdAF : FuncData} (F : Def K mg "is_number" sIsNumber ["text"] f fd) (FAF : Def K mg "are_figures" sAreFigures ["text"] fAF fdAF) (GAF : FnOk P w K mg base CX0 1 fAF fdAF ["text"] spFigsB) : FnOk P w K mg base CX0 2 f fd ["text"] spIsNumB := by
  refine F.fn.ok scIsNum (fun vs H Q E h => ?_) (fun cdv A outer s H vs Q E hr h => ?_)
  · obtain ⟨x, rfl, _⟩ := h
    rfl
  · obtain ⟨x, rfl, hl, k⟩ := h
    have ll := lenS x
    refine ⟨_, (pss_cons (ps_if (pt_val (pe_bm PySem.F.plainAttrs_str PySem.F.slot_str_startswith PySem.F.type_str_startswith mt_startswith (pv 0) (pa_consC pe_str pa_nil))) (pss_one (ps_ret (pe_and (pe_call GAF (hr.mono (by decide)) rfl FAF.mg FAF.fn.kp FAF.bn .nil pass0 (pa_consS (pe_slice sl_str (pv 0) (po_some pe_int) po_none) pa_nil)) (pe_one (pe_cmpR op_ne (pv 0) pe_str (nomark _)))))) pss_nil)
      (pss_one (ps_ret (pe_call GAF (hr.mono (by decide)) rfl FAF.mg FAF.fn.kp FAF.bn .nil pass0 (pa_cons (pv 0) pa_nil))))), ?_⟩
    refine ⟨_, rfl, rfl, _, _, rfl, rfl, _, rfl, ?_⟩
    rw [show Txt.startswith x ("-" : Str) = decide (x.cps.toList[0]? = some 45) from starts_one _ 45]
    unfold numB at k
    refine iteD (fun e => ?_) (fun e => ?_)
    · rw [if_pos e] at k
      have l1 : 1 ≤ x.length := by
        have := (List.getElem?_eq_some_iff.mp e).1
        omega
      refine ⟨_, rfl, _, rfl, _, 1, rfl, rfl, rfl, l1, len8000 hl, _, rfl, ?_, fun H' s' => ?_⟩
      · show (x.cps.toList.drop 1).toArray.size ≤ 9000
        rw [List.size_toArray, List.length_drop]; omega
      have ed : (⟨(x.cps.toList.drop 1).toArray⟩ : Str).cps.toList = x.cps.toList.drop 1 := by simp
      rw [ed]
      cases hb : figB (x.cps.toList.drop 1) with
      | false =>
        rw [hb] at k
        exact ⟨_, rfl, iteF (k H' s')⟩
      | true =>
        rw [hb] at k
        refine ⟨_, rfl, iteT ?_⟩
        refine ⟨_, rfl, rfl, ?_⟩
        have ei : (V.str x = V.str ("-0" : Str))<->x.cps.toList.drop 1 = [48] := by
          constructor
          · intro q
            have q : x = ("-0" : Str) := by injection q
            subst q; rfl
          · intro q
            congr 1
            refine str_ext ?_
            cases hc : x.cps.toList with
            | nil => rw [hc] at e; cases e
            | cons a t => rw [hc] at e q; cases e; rw [show t = [48] from q]; rfl
        have := k H' s'
        rw [Bool.true_and, decide_not, ← decide_eq_decide.mpr ei] at this
        exact this
    · rw [if_neg e] at k
      exact ⟨_, rfl, _, rfl, hl, k⟩
def spReadNumB (C : Addr) : Sp := fun vs H Q E => ∃ x : Str, vs = [.str x]/\x.length ≤ 9000/\(numB x = true->∀ H', Same H H'->Q (.int (valW x)) H')/\(numB x = false->∀ H', Same H H'->E (.ref C) none H')
theorem scReadNum : FnScope ["text"] ["text"] (defScope sReadNumber) := ⟨rfl, rfl, rfl, by decide +kernel, rfl, by decide +kernel, by decide +kernel⟩
theorem ok_readnumB {f fIN eNX : Addr} {fd fdIN : FuncData} (F : Def K mg "read_number" sReadNumber ["text"] f fd) (FIN : Def K mg "is_number" sIsNumber ["text"] fIN fdIN) (GIN : FnOk P w K mg base CX0 2 fIN fdIN ["text"] spIsNumB) (ENX : Err K mg "NoText" eNX) (B : Bi K mg) : FnOk P w K mg base (CXE P w) 3 f fd ["text"] (spReadNumB eNX) := by
  refine F.fn.okE scReadNum (fun vs H Q E h => ?_) (fun cdv A outer s H vs Q E hr h => ?_)
  · obtain ⟨x, rfl, _⟩ := h
    rfl
  · obtain ⟨x, rfl, hl, k1, k2⟩ := h
    refine ⟨_, (pss_cons (ps_if (PT.nox (pt_not (pt_val (pe_call GIN (hr.mono (by decide)) rfl FIN.mg FIN.fn.kp FIN.bn .nil pass0 (pa_cons (pv 0) pa_nil))))) (pss_one (ps_raise XE.of rfl rfl rfl ENX.mg ENX.cls (pa_consC pe_str pa_nil))) pss_nil)
      (pss_one (PS.nox (ps_ret (pe_callTy call_intS (by rfl) B.int PyProof.Rows.boot_int (pa_cons (pv 0) pa_nil)))))), ?_⟩
    refine ⟨_, rfl, x, rfl, hl, fun H' s' => ?_⟩
    cases hb : numB x with
    | true =>
      obtain ⟨h1, h2, _⟩ := num_text hb
      exact ⟨_, rfl, iteF ⟨_, rfl, _, _, rfl, h2, by omega, k1 hb H' s'⟩⟩
    | false => exact ⟨_, rfl, iteT ⟨by decide, k2 hb H' s'⟩⟩
def spReadRowB (C : Addr) : Sp := fun vs H Q E => ∃ x : Str, vs = [.str x]/\x.length ≤ 8000/\(rowOk x->∀ (L : Addr) (H' : Hp), Same H H'->H L = none->H' L = some (.lst (zV (rowVal x)))->Q (.ref L) H')/\(¬ rowOk x->∀ H', Same H H'->E (.ref C) none H')
theorem scReadRow : FnScope ["text"] ["text"] (defScope sReadRow) := ⟨rfl, rfl, rfl, by decide +kernel, rfl, by decide +kernel, by decide +kernel⟩
theorem ok_readrowB {f fRN eNX : Addr} {fd fdRN : FuncData} (F : Def K mg "read_row" sReadRow ["text"] f fd) (FRN : Def K mg "read_number" sReadNumber ["text"] fRN fdRN) (GRN : FnOk P w K mg base (CXE P w) 3 fRN fdRN ["text"] (spReadNumB eNX)) : FnOk P w K mg base (CXE P w) 4 f fd ["text"] (spReadRowB eNX) := by
  refine F.fn.okE scReadRow (fun vs H Q E h => ?_) (fun cdv A outer s H vs Q E hr h => ?_)
  · obtain ⟨x, rfl, _⟩ := h
    rfl
  · obtain ⟨x, rfl, hl, k1, k2⟩ := h
    refine ⟨_, (pss_cons (PS.nox (ps_if (pt_cmpR op_eq (pv 0) pe_str (nomark _)) (pss_one (ps_ret (pe_lst pa_nil))) pss_nil))
      (pss_one (ps_ret (pe_compX XE.of rfl rfl rfl (defScope sReadRow).names ["text"] ["text", "word"] (pi_listK K (pe_bm PySem.F.plainAttrs_str PySem.F.slot_str_split PySem.F.type_str_split mt_split (pv 0) (pa_consC pe_str pa_nil))) (fun _ _ _ _ => pf_nil) (fun _ _ _ _ => (pe_call GRN (hr.mono (by decide)) rfl FRN.mg FRN.fn.kp FRN.bn .nil compX_passes (pa_cons (pv 1) pa_nil))))))), ?_⟩
    refine ⟨_, rfl, rfl, _, rfl, ?_⟩
    refine iteD (fun e => ?_) (fun e => ?_)
    · have e : x = sD := by injection e
      have hv : rowVal x = [] := by unfold rowVal; rw [if_pos e]
      rw [hv] at k1
      exact ⟨by show 0 ≤ sizeLine; exact len12 (by decide), fun L hL => k1 (.inl e) L _ (same_upd hL) hL upd_same⟩
    · have nd : x ≠ sD := fun q => e (by rw [q]; rfl)
      have hv : rowVal x = (Txt.split x sB).map valW := by unfold rowVal; rw [if_neg nd]
      refine ⟨_, rfl, rfl, _, _, rfl, rfl, rfl, len8000 (by omega), fun S hS => ?_⟩
      refine ⟨S, rfl, ⟨_, SqL.of upd_same⟩, fun D hD => ?_⟩
      have hS2 : (upd H S (.lst ((Txt.split x (" " : Str)).map V.str))) S = some (.lst ((Txt.split x sB).map V.str)) := upd_same
      have s1 := same_upd (o := .lst ((Txt.split x (" " : Str)).map V.str)) hS
      have lp := pieces_le x sB
      by_cases hg : ∀ w ∈ Txt.split x sB, numB w = true
      · have ho : rowOk x := .inr hg
        refine comp_mapW (K := K) (a := S) (xs := Txt.split x sB) (el := V.str) (fv := fun w => V.int (valW w)) hS2 hD (by omega) (fun i w en H4 Qv s4 kk => ?_) fun H2 hD2 s2 => ?_
        · have hw := List.mem_of_getElem? en
          exact ⟨_, rfl, w, rfl, by have := piece_le hw; omega, fun _ H5 s5 => kk H5 s5, fun hb => by rw [hg w hw] at hb; cases hb⟩
        · refine k1 ho D H2 (s1.trans s2) (s1.free hD) ?_
          rw [hv, hD2]; unfold zV; rw [List.map_map]; rfl
      · have hn : ¬ rowOk x := fun q => by
          rcases q with q | q
          · exact nd q
          · exact hg q
        refine comp_fly (K := K) (a := S) (xs := Txt.split x sB) (el := V.str) (good := fun w => numB w = true) hS2 hD (by omega) hg (fun w hw H4 Qv s4 kk => ?_)
        exact ⟨_, rfl, w, rfl, by have := piece_le hw; omega, fun hb H5 s5 => kk hb _ H5 s5, fun hb H5 s5 => k2 hn H5 ((s1.trans s4).trans s5)⟩
def spReadRowsB (C : Addr) : Sp := fun vs H Q E => ∃ x : Str, vs = [.str x]/\x.length ≤ 8000 ∧
  (x = sM->∀ (D : Addr) (H' : Hp), RowsAt H' D [] []->Same H H'->H D = none->Q (.ref D) H') ∧
  (x ≠ sM->(∀ p ∈ Txt.split x sS, rowOk p)->∀ (D : Addr) (bs : List Addr) (H' : Hp), RowsAt H' D bs ((Txt.split x sS).map rowVal)->Same H H'->(∀ b ∈ bs, H b = none)->H D = none->Q (.ref D) H') ∧
  (x ≠ sM->¬ (∀ p ∈ Txt.split x sS, rowOk p)->∀ H', Same H H'->E (.ref C) none H')
theorem scReadRows : FnScope ["text"] ["text"] (defScope sReadRows) := ⟨rfl, rfl, rfl, by decide +kernel, rfl, by decide +kernel, by decide +kernel⟩
theorem ok_readrowsB {f fRR eNX : Addr} {fd fdRR : FuncData} (F : Def K mg "read_rows" sReadRows ["text"] f fd) (FRR : Def K mg "read_row" sReadRow ["text"] fRR fdRR) (GRR : FnOk P w K mg base (CXE P w) 4 fRR fdRR ["text"] (spReadRowB eNX)) : FnOk P w K mg base (CXE P w) 5 f fd ["text"] (spReadRowsB eNX) := by
  refine F.fn.okE scReadRows (fun vs H Q E h => ?_) (fun cdv A outer s H vs Q E hr h => ?_)
  · obtain ⟨x, rfl, _⟩ := h
    rfl
  · obtain ⟨x, rfl, hl, k0, k1, k2⟩ := h
    refine ⟨_, (pss_cons (PS.nox (ps_if (pt_cmpR op_eq (pv 0) pe_str (nomark _)) (pss_one (ps_ret (pe_lst pa_nil))) pss_nil))
      (pss_one (ps_ret (pe_compX XE.of rfl rfl rfl (defScope sReadRows).names ["text"] ["text", "part"] (pi_listK K (pe_bm PySem.F.plainAttrs_str PySem.F.slot_str_split PySem.F.type_str_split mt_split (pv 0) (pa_consC pe_str pa_nil))) (fun _ _ _ _ => pf_nil) (fun _ _ _ _ => (pe_call GRR (hr.mono (by decide)) rfl FRR.mg FRR.fn.kp FRR.bn .nil compX_passes (pa_cons (pv 1) pa_nil))))))), ?_⟩
    refine ⟨_, rfl, rfl, _, rfl, ?_⟩
    refine iteD (fun e => ?_) (fun e => ?_)
    · have e : x = sM := by injection e
      exact ⟨by show 0 ≤ sizeLine; exact len12 (by decide), fun L hL => k0 e L _ ⟨upd_same, rfl, fun i p z e => by simp at e⟩ (same_upd hL) hL⟩
    · have nm : x ≠ sM := fun q => e (by rw [q]; rfl)
      refine ⟨_, rfl, rfl, _, _, rfl, rfl, rfl, len8000 (by omega), fun S hS => ?_⟩
      refine ⟨S, rfl, ⟨_, SqL.of upd_same⟩, fun D hD => ?_⟩
      have hS2 : (upd H S (.lst ((Txt.split x (" / " : Str)).map V.str))) S = some (.lst ((Txt.split x sS).map V.str)) := upd_same
      have s1 := same_upd (o := .lst ((Txt.split x (" / " : Str)).map V.str)) hS
      have lp := pieces_le x sS
      by_cases hg : ∀ p ∈ Txt.split x sS, rowOk p
      · refine comp_newW (K := K) (a := S) (xs := Txt.split x sS) (el := V.str) (fz := rowVal) hS2 (by omega) hD (fun p hp H4 Qv s4 kk => ?_) fun bs H2 hR s2 fr => ?_
        · exact ⟨_, rfl, p, rfl, by have := piece_le hp; omega, fun _ L H5 s5 f5 h5 => kk L H5 s5 f5 h5, fun hn => absurd (hg p hp) hn⟩
        · exact k1 nm hg D bs H2 hR (s1.trans s2) (fun b hb => s1.free (fr b hb)) (s1.free hD)
      · refine comp_fly (K := K) (a := S) (xs := Txt.split x sS) (el := V.str) (good := rowOk) hS2 hD (by omega) hg (fun p hp H4 Qv s4 kk => ?_)
        exact ⟨_, rfl, p, rfl, by have := piece_le hp; omega, fun hb L H5 s5 _ _ => kk hb _ H5 s5, fun _ H5 s5 => k2 nm hg H5 ((s1.trans s4).trans s5)⟩
end
end Tw
namespace Tw
open PySem L2 PySem.StrLaws
section
variable {P : Program} {w : World} {K : PySem.W.Frag} {mg : Str->Option Value} {base : Heap}
def spCheckB (C : Addr) : Sp := fun vs H Q E => ∃ (n : Int) (a : Addr) (as : List Addr) (zss : List (List Int)), vs = [.int n, .ref a]/\RowsAt H a as zss/\zss.length ≤ 100/\(IsTree n zss->∀ H' : Hp, Same H H'->Q .non H')/\(¬ IsTree n zss->∀ H' : Hp, Same H H'->E (.ref C) none H')
theorem ok_checkB {f fT eNT : Addr} {fd fdT : FuncData} (F : Def K mg "check_tree" sCheck ["many", "roads"] f fd) (FT : Def K mg "is_tree" sIsTree ["many", "roads"] fT fdT) (GT : FnOk P w K mg base CX0 4 fT fdT ["many", "roads"] spIsTree) (ENT : Err K mg "NoTree" eNT) : FnOk P w K mg base (CXE P w) 5 f fd ["many", "roads"] (spCheckB eNT) := by
  refine F.fn.okE scCheck (fun vs H Q E h => ?_) (fun cdv A outer s H vs Q E hr h => ?_)
  · obtain ⟨n, a, as, zss, rfl, _⟩ := h
    rfl
  · obtain ⟨n, a, as, zss, rfl, hR, hz, k1, k2⟩ := h
    refine ⟨_, (pss_one (ps_if (PT.nox (pt_not (pt_val (pe_call GT (hr.mono (by decide)) rfl FT.mg FT.fn.kp FT.bn .nil pass0 (pa_cons (pv 0) (pa_cons (pv 1) pa_nil)))))) (pss_one (ps_raise XE.of rfl rfl rfl ENT.mg ENT.cls (pa_consC pe_str pa_nil))) pss_nil)), ?_⟩
    refine ⟨_, rfl, _, rfl, n, a, as, zss, rfl, hR, hz, fun b H' sm hb => ?_⟩
    refine ⟨_, rfl, ?_⟩
    cases b with
    | false => exact iteT ⟨by show 1 ≤ 1000; decide, k2 (fun t => by have := hb.mpr t; cases this) H' sm⟩
    | true => exact iteF (k1 (hb.mp rfl) H' sm)
theorem RowsAt.tail {H : Hp} {a b : Addr} {as : List Addr} {zss : List (List Int)} (h : RowsAt H a as zss) {k : Nat} (hb : H b = some (.lst ((as.drop k).map V.ref))) : RowsAt H b (as.drop k) (zss.drop k) :=
  ⟨hb, by rw [List.length_drop, List.length_drop, h.len], fun i p z e1 e2 => by
    rw [List.getElem?_drop] at e1 e2
    exact h.row _ p z e1 e2⟩
def spReadTree (NX NT : Addr) : Sp := fun vs H Q E => ∃ x : Str, vs = [.str x]/\x.length ≤ 8000 ∧
  ((x ≠ sM/\(¬ ∀ p ∈ Txt.split x sS, rowOk p)/\∀ H', Same H H'->E (.ref NX) none H') ∨
   ∃ zss : List (List Int), FitW zss/\x = rowsT zss/\(∀ (m : Int) (zs : List (List Int)), zss = [m] :: zs->IsTree m zs->∀ (T D : Addr) (bs : List Addr) (H' : Hp), Same H H'->H' T = some (.tup [.int m, .ref D])->RowsAt H' D bs zs->(∀ b ∈ bs, H b = none)->H D = none->Q (.ref T) H') ∧
     ((¬ ∃ (m : Int) (zs : List (List Int)), zss = [m] :: zs/\IsTree m zs)->∀ H', Same H H'->E (.ref NT) none H'))
theorem cut_from' {xs : List V} {j : Nat} (h : j ≤ xs.length) : cutV xs (some (j : Int)) none = xs.drop j := by
  unfold cutV
  rw [HT.sIx_none, HT.sIx_nat, Nat.min_eq_left h, List.take_of_length_le (by rw [List.length_drop]; exact Nat.le_refl _)]
theorem rows_meet {zss : List (List Int)} (fz : FitW zss) {H : Hp} {Q : Addr->Hp->Prop} {EE : Hp->Prop} (h : ∀ (D : Addr) (bs : List Addr) (H1 : Hp), RowsAt H1 D bs zss->Same H H1->(∀ b ∈ bs, H b = none)->H D = none->Q D H1) : (rowsT zss = sM->∀ (D : Addr) (H' : Hp), RowsAt H' D [] []->Same H H'->H D = none->Q D H')/\(rowsT zss ≠ sM->(∀ p ∈ Txt.split (rowsT zss) sS, rowOk p)->∀ (D : Addr) (bs : List Addr) (H' : Hp), RowsAt H' D bs ((Txt.split (rowsT zss) sS).map rowVal)->Same H H'->(∀ b ∈ bs, H b = none)->H D = none->Q D H')/\(rowsT zss ≠ sM->¬ (∀ p ∈ Txt.split (rowsT zss) sS, rowOk p)->∀ H', Same H H'->EE H') := by
  refine ⟨fun e D H1 hD s1 hD0 => ?_, fun e _ D bs H1 hD s1 fr hD0 => ?_, fun e q => ?_⟩
  · have e0 : zss = [] := Classical.byContradiction fun h0 => rows_minusW fz h0 e
    subst e0
    exact h D [] H1 hD s1 (fun b hb => nomatch hb) hD0
  · have h0 : zss ≠ [] := fun h0 => by subst h0; exact e rfl
    rw [(rows_ok fz h0).2] at hD
    exact h D bs H1 hD s1 fr hD0
  · have h0 : zss ≠ [] := fun h0 => by subst h0; exact e rfl
    exact absurd (rows_ok fz h0).1 q
theorem scReadTree : FnScope ["text", "rows"] ["text"] (defScope sReadTree) := ⟨rfl, rfl, rfl, by decide +kernel, rfl, by decide +kernel, by decide +kernel⟩
theorem rd_tree {f fRS fC eNX eNT : Addr} {fd fdRS fdC : FuncData} (F : Def K mg "read_tree" sReadTree ["text"] f fd) (FRS : Def K mg "read_rows" sReadRows ["text"] fRS fdRS) (FC : Def K mg "check_tree" sCheck ["many", "roads"] fC fdC) (GRS : FnOk P w K mg base (CXE P w) 5 fRS fdRS ["text"] (spReadRowsB eNX)) (GC : FnOk P w K mg base (CXE P w) 5 fC fdC ["many", "roads"] (spCheckB eNT)) (ENT : Err K mg "NoTree" eNT) (B : Bi K mg) : FnOk P w K mg base (CXE P w) 6 f fd ["text"] (spReadTree eNX eNT) := by
  refine F.fn.okE scReadTree (fun vs H Q E h => ?_) (fun cdv A outer s H vs Q E hr h => ?_)
  · obtain ⟨x, rfl, _⟩ := h
    rfl
  · obtain ⟨x, rfl, hl, h⟩ := h
    have nd := scReadTree.nd
    refine ⟨_, (pss_cons (ps_set (i := 1) nd rfl (Or.inl rfl) (pe_call GRS (hr.mono (by decide)) rfl FRS.mg FRS.fn.kp FRS.bn .nil (XE.of.passes rfl) (pa_cons (pv 0) pa_nil)))
      (pss_cons (ps_if (PT.nox (PW.pt (pw_or (pt_cmpR op_eq (pe_callB (lenK K) (by rfl) B.len PySem.boot_len (pa_cons (pv 1) pa_nil)) pe_int (nomark _)) (pw_or1 (pt_cmpR op_ne (pe_callB (lenK K) (by rfl) B.len PySem.boot_len (pa_consS (pe_ix (ixK K) (pv 1) pe_int (fun _ _ => rfl)) pa_nil)) pe_int (nomark _)))))) (pss_one (ps_raise XE.of rfl rfl rfl ENT.mg ENT.cls (pa_consC pe_str pa_nil))) pss_nil)
      (pss_cons (ps_expr (pe_call GC (hr.mono (by decide)) rfl FC.mg FC.fn.kp FC.bn .nil (XE.of.passes rfl) (pa_consS (pe_ix (ixK K) (pe_ix (ixK K) (pv 1) pe_int (fun _ _ => rfl)) pe_int (fun _ _ => rfl)) (pa_consS (pe_slice (slK K) (pv 1) (po_some pe_int) po_none) pa_nil))))
      (pss_one (PS.nox (ps_ret (pe_tup (pa_consS (pe_ix (ixK K) (pe_ix (ixK K) (pv 1) pe_int (fun _ _ => rfl)) pe_int (fun _ _ => rfl)) (pa_consS (pe_slice (slK K) (pv 1) (po_some pe_int) po_none) pa_nil))))))))), ?_⟩
    rcases h with ⟨nM, hn, k⟩ | ⟨zss, fz, rfl, k1, k2⟩
    · exact ⟨_, rfl, x, rfl, hl, fun e => absurd e nM, fun _ q => absurd q hn, fun _ _ H2 s2 => k H2 s2⟩
    · have hlw := rows_lenW fz
      refine ⟨_, rfl, _, rfl, by omega, rows_meet fz fun D bs H1 hD s1 fr hD0 => ?_⟩
      have bl := hD.len
      have zl := fz.2
      refine ⟨_, rfl, D, _, rfl, .inl (SqL.of hD.top), rfl, _, rfl, ?_⟩
      rw [dec_vint, List.length_map, bl]
      refine iteD (fun e => ?_) (fun e => ?_)
      · refine iteT ⟨by show 1 ≤ 1000; decide, k2 (fun ⟨m, zs, q, _⟩ => ?_) H1 s1⟩
        rw [q, List.length_cons] at e; omega
      obtain ⟨z0, zs, rfl⟩ : ∃ z0 zs, zss = z0 :: zs := by
        cases zss with
        | nil => exact absurd rfl e
        | cons z l => exact ⟨z, l, rfl⟩
      obtain ⟨p0, bs, rfl⟩ : ∃ p0 l, bs = p0 :: l := by
        cases bs with
        | nil => cases bl
        | cons p l => exact ⟨p, l, rfl⟩
      have hz0 : H1 p0 = some (.lst (zV z0)) := hD.row 0 p0 z0 rfl rfl
      refine ⟨_, rfl, D, _, _, _, rfl, rfl, SqL.of hD.top, atI_int (by decide) rfl, p0, _, rfl, .inl (SqL.of hz0), rfl, _, rfl, ?_⟩
      rw [dec_vint, zV_length]
      refine iteN (fun e2 => ?_) (fun e2 => ?_)
      · have e2' := of_decide_eq_false e2
        refine ⟨by show 1 ≤ 1000; decide, k2 (fun ⟨m, zs', q, _⟩ => ?_) H1 s1⟩
        injection q with q1 q2
        rw [q1] at e2'
        exact e2' rfl
      have e2' := of_decide_eq_true e2
      obtain ⟨m, rfl⟩ : ∃ m, z0 = [m] := by
        match z0, (show z0.length = 1 by omega) with
        | [m], _ => exact ⟨m, rfl⟩
      have tz : zs.length ≤ 100 := by rw [List.length_cons] at zl; omega
      have ec : cutV ((p0 :: bs).map V.ref) (some 1) none = bs.map V.ref := by
        rw [show (1 : Int) = ((1 : Nat) : Int) from rfl, cut_from' (by simp)]
        rfl
      have tl : ∀ {H' : Hp} {S : Addr}, Same H1 H'->H' S = some (.lst (bs.map V.ref))->RowsAt H' S bs zs := fun s' hS => RowsAt.tail (k := 1) (hD.mono s') hS
      refine ⟨_, rfl, D, _, _, _, rfl, rfl, SqL.of hD.top, atI_int (by decide) rfl, p0, _, _, _, rfl, rfl, SqL.of hz0, atI_int (by decide) rfl, _, rfl, _, rfl, D, _, rfl, SqL.of hD.top, fun S hS => ?_⟩
      rw [ec]
      have w2 := same_upd (o := .lst (bs.map V.ref)) hS
      have hS2 : (upd H1 S (.lst (bs.map V.ref))) S = some (.lst (bs.map V.ref)) := upd_same
      generalize upd H1 S (.lst (bs.map V.ref)) = H2 at w2 hS2 ⊢
      refine ⟨m, S, bs, zs, rfl, tl w2 hS2, tz, fun t H3 s3 => ?_, fun nt H3 s3 => k2 (fun ⟨m', zs', q, t⟩ => ?_) H3 ((s1.trans w2).trans s3)⟩
      rotate_left
      · injection q with q1 q2
        injection q1 with q1
        subst q1; subst q2
        exact nt t
      have s13 := w2.trans s3
      have hD3 := s13 _ _ hD.top
      refine ⟨_, rfl, D, _, _, _, rfl, rfl, SqL.of hD3, atI_int (by decide) rfl, p0, _, _, _, rfl, rfl, SqL.of (s13 _ _ hz0), atI_int (by decide) rfl, _, rfl, _, rfl, D, _, rfl, SqL.of hD3, fun S2 hS2 => ?_⟩
      rw [ec]
      have w4 := same_upd (o := .lst (bs.map V.ref)) hS2
      have hS4 : (upd H3 S2 (.lst (bs.map V.ref))) S2 = some (.lst (bs.map V.ref)) := upd_same
      generalize upd H3 S2 (.lst (bs.map V.ref)) = H4 at w4 hS4 ⊢
      refine ⟨by show 2 ≤ sizeLine; exact len12 (by decide), fun T hT => ?_⟩
      have w5 := same_upd (o := .tup [V.int m, V.ref S2]) hT
      have s05 := ((s1.trans s13).trans w4).trans w5
      exact k1 m zs rfl t T S2 bs _ s05 upd_same ((tl (s13.trans w4) hS4).mono w5) (fun b hb => fr b (List.mem_cons_of_mem _ hb)) ((s1.trans s13).free hS2)
def spShowTree (NT : Addr) : Sp := fun vs H Q E => ∃ (n : Int) (R : Addr) (as : List Addr) (zss : List (List Int)), vs = [.int n, .ref R]/\RowsAt H R as zss/\zss.length ≤ 15/\(IsTree n zss->FitW ([n] :: zss)/\∀ H', Same H H'->Q (.str (rowsT ([n] :: zss))) H')/\(¬ IsTree n zss->∀ H', Same H H'->E (.ref NT) none H')
theorem scShowTree : FnScope ["many", "roads"] ["many", "roads"] (defScope sShownTree) := ⟨rfl, rfl, rfl, by decide +kernel, rfl, by decide +kernel, by decide +kernel⟩
theorem RowsAt.consR {H : Hp} {a b p : Addr} {as : List Addr} {zss : List (List Int)} {z : List Int} (h : RowsAt H a as zss) (hp : H p = some (.lst (zV z))) (hb : H b = some (.lst ((p :: as).map V.ref))) : RowsAt H b (p :: as) (z :: zss) :=
  ⟨hb, by rw [List.length_cons, List.length_cons, h.len], fun i q y e1 e2 => by
    cases i with
    | zero =>
      have e1 : p = q := by simpa using e1
      have e2 : z = y := by simpa using e2
      subst e1; subst e2; exact hp
    | succ i => exact h.row i q y (by simpa using e1) (by simpa using e2)⟩
theorem sh_tree {f fC fSH eNT : Addr} {fd fdC fdSH : FuncData} (F : Def K mg "shown_tree" sShownTree ["many", "roads"] f fd) (FC : Def K mg "check_tree" sCheck ["many", "roads"] fC fdC) (FSH : Def K mg "shown_rows" sShownRows ["rows"] fSH fdSH) (GC : FnOk P w K mg base (CXE P w) 5 fC fdC ["many", "roads"] (spCheckB eNT)) (GSH : FnOk P w K mg base CX0 2 fSH fdSH ["rows"] spShowRows) : FnOk P w K mg base (CXE P w) 6 f fd ["many", "roads"] (spShowTree eNT) := by
  refine F.fn.okE scShowTree (fun vs H Q E h => ?_) (fun cdv A outer s H vs Q E hr h => ?_)
  · obtain ⟨n, R, as, zss, rfl, _⟩ := h
    rfl
  · obtain ⟨n, R, as, zss, rfl, hR, hz, k1, k2⟩ := h
    have nd := scShowTree.nd
    refine ⟨_, (pss_cons (ps_expr (pe_call GC (hr.mono (by decide)) rfl FC.mg FC.fn.kp FC.bn .nil (XE.of.passes rfl) (pa_cons (pv 0) (pa_cons (pv 1) pa_nil))))
      (pss_one (PS.nox (ps_ret (pe_call GSH (hr.mono (by decide)) rfl FSH.mg FSH.fn.kp FSH.bn .nil pass0 (pa_consB (pe_op op_cat (pe_lst (pa_consL (pe_lst (pa_cons (pv 0) pa_nil)) pa_nil)) (pv 1)) pa_nil)))))), ?_⟩
    refine ⟨_, rfl, _, rfl, n, R, as, zss, rfl, hR, by omega, fun t H1 s1 => ?_, k2⟩
    obtain ⟨fz, k⟩ := k1 t
    have al := hR.len
    refine ⟨_, rfl, by show 1 ≤ sizeLine; exact len12 (by decide), fun Z1 hZ1 => ⟨by show 1 ≤ sizeLine; exact len12 (by decide), fun Z2 hZ2 => ?_⟩⟩
    have w2 := same_upd (o := .lst [V.int n]) hZ1
    have u2 : (upd H1 Z1 (.lst [V.int n])) Z1 = some (.lst (zV [n])) := upd_same
    generalize upd H1 Z1 (.lst [V.int n]) = H2 at w2 u2 hZ2 ⊢
    have w3 := same_upd (o := .lst [V.ref Z1]) hZ2
    have u3 : (upd H2 Z2 (.lst [V.ref Z1])) Z2 = some (.lst [V.ref Z1]) := upd_same
    generalize upd H2 Z2 (.lst [V.ref Z1]) = H3 at w3 u3 ⊢
    have s13 := (s1.trans w2).trans w3
    have hR3 := hR.mono s13
    refine ⟨_, rfl, Z2, R, _, _, rfl, rfl, u3, hR3.top, by rw [List.length_map]; exact len2000 (by show 1 + as.length ≤ _; omega), fun Z3 hZ3 => ?_⟩
    have w4 := same_upd (o := .lst ([V.ref Z1] ++ as.map V.ref)) hZ3
    have u4 : (upd H3 Z3 (.lst ([V.ref Z1] ++ as.map V.ref))) Z3 = some (.lst ((Z1 :: as).map V.ref)) := upd_same
    generalize upd H3 Z3 (.lst ([V.ref Z1] ++ as.map V.ref)) = H4 at w4 u4 ⊢
    exact ⟨Z3, Z1 :: as, [n] :: zss, rfl, (hR3.mono w4).consR (w4 _ _ (w3 _ _ u2)) u4, fz, fun H5 s5 => k H5 ((s13.trans w4).trans s5)⟩
end
end Tw
namespace Tw
open PySem L2 PySem.StrLaws
section
variable {P : Program} {w : World} {K : PySem.W.Frag} {mg : Str->Option Value} {base : Heap}
def spShown : Sp := fun vs H Q _ => ∃ (a : Addr) (as : List Addr) (zss : List (List Int)), vs = [.ref a]/\RowsAt H a as zss/\FitW zss/\∀ H', Same H H'->Q (.str (rowsT zss)) H'
theorem scShown : FnScope ["_law_rows", "_law_parts", "_law_row", "_law_words"] ["_law_rows"] (defScope sShown) := ⟨rfl, rfl, rfl, by decide +kernel, rfl, by decide +kernel, by decide +kernel⟩
theorem ok_shown {f : Addr} {fd : FuncData} (F : Def K mg "_law_shown" sShown ["_law_rows"] f fd) (hS : mg "str" = none) (B : Bi K mg) : FnOk P w K mg base CX0 1 f fd ["_law_rows"] spShown := by
  refine F.fn.ok scShown (fun vs H Q E h => ?_) (fun cdv A outer s H vs Q E hr h => ?_)
  · obtain ⟨a, as, zss, rfl, _⟩ := h
    rfl
  · obtain ⟨a, as, zss, rfl, hR, fz, k⟩ := h
    have nd := scShown.nd
    have al := hR.len
    have zl := fz.2
    refine ⟨_, (pss_cons (ps_set (i := 1) nd rfl (Or.inl rfl) (pe_lst pa_nil))
      (pss_cons (ps_for PassesOwn.never rfl (pi_listK K (pv 0)) (pg_name (i := 2) nd rfl (Or.inl rfl)) (pss_cons (ps_setC (defScope sShown).names ["_law_rows", "_law_parts", "_law_row", "_law_words"] ["_law_rows", "_law_parts", "_law_row", "_law_words", "_law_number"] 3 nd rfl (Or.inl rfl) (pi_listK K (pv 2)) (fun _ _ _ _ => pf_nil) (fun _ _ _ _ => (pe_callTy call_str_int (by rfl) hS PyProof.Rows.boot_str (pa_cons (pv 4) pa_nil))))
      (pss_cons (ps_if (pt_cmpR op_eq (pe_callB (lenK K) (by rfl) B.len PySem.boot_len (pa_cons (pv 2) pa_nil)) pe_int (nomark _)) (pss_one (ps_set (i := 3) nd rfl (Or.inl rfl) (pe_lst (pa_consC pe_str pa_nil)))) pss_nil)
      (pss_one (ps_expr (pe_bm PySem.F.plainAttrs_list PySem.F.slot_list_append PySem.F.type_list_append mt_append (pv 1) (pa_cons (pe_bm PySem.F.plainAttrs_str PySem.F.slot_str_join PySem.F.type_str_join (mt_joinK K) pe_str (pa_cons (pv 3) pa_nil)) pa_nil)))))))
      (pss_one (ps_ret (pe_ix (ixK K) (pe_lst (pa_cons (pe_bm PySem.F.plainAttrs_str PySem.F.slot_str_join PySem.F.type_str_join (mt_joinK K) pe_str (pa_cons (pv 1) pa_nil)) (pa_consC pe_str pa_nil))) (pe_callTy call_int1 (by rfl) B.int PyProof.Rows.boot_int (pa_cons (pe_cmpR op_eq (pe_callB (lenK K) (by rfl) B.len PySem.boot_len (pa_cons (pv 0) pa_nil)) pe_int (nomark _)) pa_nil)) (fun _ _ => rfl)))))), ?_⟩
    refine ⟨by show 0 ≤ sizeLine; exact len12 (by decide), fun D hD => ?_⟩
    have w1 := same_upd (o := .lst []) hD
    have u1 : (upd H D (.lst [])) D = some (.lst []) := upd_same
    generalize upd H D (.lst []) = H1 at w1 u1 ⊢
    refine ⟨_, rfl, a, rfl, ⟨_, SqL.of (w1 _ _ hR.top)⟩, for_list (K := K) (a := a) (xs := as.map V.ref) (fun i σ HX => ∃ v2 v3 : Option V, σ = [some (.ref a), some (.ref D), v2, v3]/\HX D = some (.lst ((zss.take i).map fun z => V.str (rowT z)))/\Same H HX) ⟨none, none, rfl, u1, w1⟩ (fun i σ HX _ ⟨_, _, _, _, h⟩ => SqL.of (h _ _ hR.top)) ?_ ?_⟩
    · rintro i y σ HX hi ⟨v2, v3, rfl, hDX, sX⟩
      obtain ⟨p, hp, rfl⟩ := get_ref hi
      have hil : i < zss.length := by rw [← al]; exact (List.getElem?_eq_some_iff.mp hp).1
      obtain ⟨z, ez⟩ : ∃ z, zss[i]? = some z := ⟨_, List.getElem?_eq_getElem hil⟩
      have fzz := fz.1 z (List.mem_of_getElem? ez)
      have hrow := sX _ _ (hR.row i p z hp ez)
      have f4 := fzz.2
      have el : (zss.take (i + 1)).map (fun z => V.str (rowT z)) = (zss.take i).map (fun z => V.str (rowT z)) ++ [V.str (rowT z)] := by
        rw [List.take_add_one, ez, List.map_append]; rfl
      have ln : ((zss.take i).map fun z => V.str (rowT z)).length < sizeLine := by rw [List.length_map, List.length_take]; exact small1000 (by omega)
      refine ⟨_, rfl, p, rfl, ⟨_, SqL.of hrow⟩, fun C hC => ?_⟩
      refine comp_map (K := K) (a := p) (xs := z) (el := V.int) (fv := fun n => V.str (num n)) hrow hC (by omega) (fun j n en H4 Qv s4 kk => ?_) fun H2 hC2 s2 => ?_
      · exact ⟨_, rfl, n, rfl, bits_num (fzz.1 n (List.mem_of_getElem? en)), kk H4 (Same.refl _)⟩
      have hD2 := s2 _ _ hDX
      refine ⟨_, rfl, p, _, rfl, .inl (SqL.of (s2 _ _ hrow)), rfl, _, rfl, ?_⟩
      rw [dec_vint, zV_length]
      refine iteD (fun e => ?_) (fun e => ?_)
      · have e0 : z = [] := List.eq_nil_of_length_eq_zero (by omega)
        subst e0
        refine ⟨by show 1 ≤ sizeLine; exact len12 (by decide), fun C3 hC3 => ?_⟩
        have w3 := same_upd (o := .lst [V.str ("." : Str)]) hC3
        have u3 : (upd H2 C3 (.lst [V.str ("." : Str)])) C3 = some (.lst ([sD].map V.str)) := upd_same
        generalize upd H2 C3 (.lst [V.str ("." : Str)]) = H3 at w3 u3 ⊢
        have s13 := (sX.trans s2).trans w3
        refine ⟨_, rfl, .inl ⟨rfl, _, SqL.of (w3 _ _ hD2)⟩, rfl, _, rfl, _, C3, [sD], rfl, rfl, SqL.of u3, by decide, ?_⟩
        refine ⟨D, _, _, rfl, rfl, w3 _ _ hD2, ln, ?_⟩
        exact ⟨_, _, rfl, by rw [upd_same, el]; rfl, fun b o eb => by rw [upd_ne (ne_of_none eb hD)]; exact s13 b o eb⟩
      · have h0 : z ≠ [] := fun q => e (by rw [q]; rfl)
        refine ⟨_, rfl, .inl ⟨rfl, _, SqL.of hD2⟩, rfl, _, rfl, _, C, z.map num, rfl, rfl, SqL.of (by rw [List.map_map]; exact hC2), joinOk_row fzz, ?_⟩
        refine ⟨D, _, _, rfl, rfl, hD2, ln, ?_⟩
        have s12 := sX.trans s2
        refine ⟨_, _, rfl, ?_, fun b o eb => by rw [upd_ne (ne_of_none eb hD)]; exact s12 b o eb⟩
        rw [upd_same, el]
        unfold rowT
        rw [if_neg h0]; rfl
    · rintro σ HX ⟨v2, v3, rfl, hDX, sX⟩
      rw [List.length_map, al, List.take_length] at hDX
      refine ⟨rfl, _, rfl, _, D, zss.map rowT, rfl, rfl, SqL.of (by rw [List.map_map]; exact hDX), joinOk_rowsW fz, ?_⟩
      refine ⟨by show 2 ≤ sizeLine; exact len12 (by decide), fun Z hZ => ?_⟩
      have wZ := same_upd (o := .lst [V.str (Str.join (" / " : Str) (zss.map rowT)), V.str ("-" : Str)]) hZ
      refine ⟨_, rfl, a, _, rfl, .inl (SqL.of ((sX.trans wZ) _ _ hR.top)), rfl, .inr ⟨_, rfl, ?_⟩⟩
      have at' : atI [V.str (Str.join (" / " : Str) (zss.map rowT)), V.str ("-" : Str)] (if decide (V.int ((as.map V.ref).length : Nat) = V.int 0) = true then 1 else 0) = some (V.str (rowsT zss)) := by
        rw [dec_vint, List.length_map, al]
        by_cases e : zss = []
        · subst e; rfl
        · rw [decide_eq_false (fun q => e (List.eq_nil_of_length_eq_zero (by omega))), if_neg (by decide)]
          unfold rowsT
          rw [if_neg e]; rfl
      exact ⟨Z, _, _, _, rfl, rfl, SqL.of upd_same, at', k _ (sX.trans wZ)⟩
end
end Tw
namespace L2
open PySem PySem.Spec PyProof.Rows
section
variable {X : Cx}
end
end L2
namespace Tw
open PySem L2
open PySem.Builtin.Int (intBits)
section
variable {P : Program} {w : World} {K : PySem.W.Frag} {mg : Str->Option Value} {base : Heap}
def RwAt (H : Hp) (as : List Addr) (zss : List (List Int)) : Prop := as.length = zss.length/\∀ (i : Nat) (p : Addr) (z : List Int), as[i]? = some p->zss[i]? = some z->H p = some (.lst (zV z))
theorem RwAt.app {H : Hp} {as bs : List Addr} {zss zs : List (List Int)} (h1 : RwAt H as zss) (h2 : RwAt H bs zs) : RwAt H (as ++ bs) (zss ++ zs) := by
  refine ⟨by rw [List.length_append, List.length_append, h1.1, h2.1], fun i p z e1 e2 => ?_⟩
  by_cases c : i < as.length
  · rw [List.getElem?_append_left c] at e1
    rw [List.getElem?_append_left (by rw [← h1.1]; exact c)] at e2
    exact h1.2 i p z e1 e2
  · rw [List.getElem?_append_right (by omega)] at e1
    rw [List.getElem?_append_right (by rw [← h1.1]; omega), ← h1.1] at e2
    exact h2.2 _ p z e1 e2
theorem RwAt.take {H : Hp} {as : List Addr} {zss : List (List Int)} (h : RwAt H as zss) (j : Nat) : RwAt H (as.take j) (zss.take j) := by
  refine ⟨by rw [List.length_take, List.length_take, h.1], fun i p z e1 e2 => ?_⟩
  rw [List.getElem?_take] at e1 e2
  split at e1
  · rename_i c
    rw [if_pos c] at e2
    exact h.2 i p z e1 e2
  · cases e1
theorem RwAt.drop {H : Hp} {as : List Addr} {zss : List (List Int)} (h : RwAt H as zss) (j : Nat) : RwAt H (as.drop j) (zss.drop j) := by
  refine ⟨by rw [List.length_drop, List.length_drop, h.1], fun i p z e1 e2 => ?_⟩
  rw [List.getElem?_drop] at e1 e2
  exact h.2 _ p z e1 e2
theorem RwAt.mono {H H' : Hp} {as : List Addr} {zss : List (List Int)} (h : RwAt H as zss) (s : Same H H') : RwAt H' as zss := ⟨h.1, fun i p z e1 e2 => s _ _ (h.2 i p z e1 e2)⟩
theorem RwAt.one {H : Hp} {p : Addr} {z : List Int} (h : H p = some (.lst (zV z))) : RwAt H [p] [z] := ⟨rfl, fun i q y e1 e2 => by
  match i, e1, e2 with
  | 0, e1, e2 =>
    have e1 : p = q := by simpa using e1
    have e2 : z = y := by simpa using e2
    subst e1; subst e2; exact h⟩
theorem cut_to {xs : List V} {j : Nat} (h : j ≤ xs.length) : cutV xs none (some (j : Int)) = xs.take j := by
  unfold cutV
  rw [HT.sIx_none, HT.sIx_nat, Nat.min_eq_left h, Nat.sub_zero, List.drop_zero]
theorem cut_from {xs : List V} {j : Nat} (h : j ≤ xs.length) : cutV xs (some (j : Int)) none = xs.drop j := by
  unfold cutV
  rw [HT.sIx_none, HT.sIx_nat, Nat.min_eq_left h, List.take_of_length_le (by rw [List.length_drop]; exact Nat.le_refl _)]
end
end Tw
namespace Tw
open PySem L2 PySem.StrLaws
open PySem.Builtin.Int (intBits)
section
variable {P : Program} {w : World} {K : PySem.W.Frag} {mg : Str->Option Value} {base : Heap}
def Row3 (z : List Int) : Prop := 1 ≤ z.length/\z.length ≤ 3/\∀ n ∈ z, -(10 ^ 50) < n/\n < 10 ^ 50
theorem Row3.fit {z : List Int} (h : Row3 z) : FitR z := ⟨fun n hn => by have := h.2.2 n hn; exact ⟨by omega, by omega⟩, by have := h.2.1; omega⟩
def spBent : Sp := fun vs H Q _ => ∃ (a : Addr) (as : List Addr) (zss : List (List Int)) (c : Int), vs = [.ref a, .int c]/\RowsAt H a as zss/\1 ≤ zss.length/\zss.length ≤ 12/\(∀ z ∈ zss, Row3 z)/\intBits c ≤ 2 ^ 20 ∧
  ∀ (L : Addr) (bs : List Addr) (zs : List (List Int)) (H' : Hp), Same H H'->RowsAt H' L bs zs->FitW zs->Q (.ref L) H'
def Part (H : Hp) (q : Addr) : Prop := ∃ (rf : List Addr) (zs : List (List Int)), H q = some (.lst (rf.map V.ref))/\RwAt H rf zs/\(∀ z ∈ zs, FitR z)/\zs.length ≤ 2
theorem Part.mono {H H' : Hp} {q : Addr} (h : Part H q) (s : Same H H') : Part H' q := by
  obtain ⟨rf, zs, h1, h2, h3⟩ := h
  exact ⟨rf, zs, s _ _ h1, h2.mono s, h3⟩
theorem Part.nil {H : Hp} {q : Addr} (h : H q = some (.lst [])) : Part H q := ⟨[], [], h, ⟨rfl, fun i p z e => by simp at e⟩, (fun z hz => nomatch hz), by decide⟩
theorem Part.one {H : Hp} {q p : Addr} {z : List Int} (h : H q = some (.lst [V.ref p])) (hp : H p = some (.lst (zV z))) (hf : FitR z) : Part H q := ⟨[p], [z], h, RwAt.one hp, fun y hy => by rw [List.mem_singleton.mp hy]; exact hf, by show 1 ≤ 2; decide⟩
theorem Part.two {H : Hp} {q p : Addr} {z : List Int} (h : H q = some (.lst [V.ref p, V.ref p])) (hp : H p = some (.lst (zV z))) (hf : FitR z) : Part H q := ⟨[p, p], [z, z], h, (RwAt.one hp).app (RwAt.one hp), fun y hy => by
  have : y = z := by simpa using hy
  rw [this]; exact hf, by show 2 ≤ 2; decide⟩
theorem scBent : FnScope ["_law_rows", "_law_cell", "_law_choice", "_law_at", "_law_row", "_law_some", "_law_place", "_law_number", "_law_changed"] ["_law_rows", "_law_cell"] (defScope sBent) := ⟨rfl, rfl, rfl, by decide +kernel, rfl, by decide +kernel, by decide +kernel⟩
theorem ok_bent85 {f fM : Addr} {fd fdM : FuncData} (F : Def K mg "_law_bent" sBent ["_law_rows", "_law_cell"] f fd) (FM : Def K mg "_law_mix" sMix ["_law_number", "_law_k"] fM fdM) (B : Bi K mg) : FnOk P w K mg base CX0 2 f fd ["_law_rows", "_law_cell"] spBent := by
  have GM : FnOk P w K mg base CX0 1 fM fdM ["_law_number", "_law_k"] spMix := ok_mix FM
  refine F.fn.ok scBent (fun vs H Q E h => ?_) (fun cdv A outer s H vs Q E hr h => ?_)
  · obtain ⟨a, as, zss, c, rfl, _⟩ := h
    rfl
  · obtain ⟨a, as, zss, c, rfl, hR, z1, z2, hz, hc, k⟩ := h
    have nd := scBent.nd
    have al := hR.len
    have hc' : intBits c ≤ 2 ^ 21 := Nat.le_trans hc (by decide)
    refine ⟨_, (pss_cons (ps_set (i := 2) nd rfl (Or.inl rfl) (pe_op op_mod (pe_call GM (hr.mono (by decide)) rfl FM.mg FM.fn.kp FM.bn .nil pass0 (pa_cons (pv 1) (pa_consC pe_int pa_nil))) pe_int))
      (pss_cons (ps_set (i := 3) nd rfl (Or.inl rfl) (pe_op op_mod (pe_call GM (hr.mono (by decide)) rfl FM.mg FM.fn.kp FM.bn .nil pass0 (pa_cons (pv 1) (pa_consC pe_int pa_nil))) (pe_callB (lenK K) (by rfl) B.len PySem.boot_len (pa_cons (pv 0) pa_nil))))
      (pss_cons (ps_set (i := 4) nd rfl (Or.inl rfl) (pe_ix (ixK K) (pv 0) (pv 3) (fun _ _ => rfl)))
      (pss_cons (ps_if (pt_cmpR op_lt (pv 2) pe_int (nomark _)) (pss_cons (ps_set (i := 5) nd rfl (Or.inl rfl) (pe_lst (pa_consL (pe_lst pa_nil) (pa_consL (pe_lst (pa_cons (pv 4) (pa_cons (pv 4) pa_nil))) (pa_consL (pe_lst (pa_consS (pe_rev (pv 4) (pe_un un_neg pe_int)) pa_nil)) (pa_consL (pe_lst (pa_consB (pe_op op_cat (pv 4) (pe_lst (pa_consC pe_int pa_nil))) pa_nil)) (pa_consL (pe_lst (pa_consS (pe_slice (slK K) (pv 4) (po_some pe_int) po_none) pa_nil)) pa_nil)))))))
      (pss_one (ps_ret (pe_op op_cat (pe_op op_cat (pe_slice (slK K) (pv 0) po_none (po_some (pv 3))) (pe_ix (ixK K) (pv 5) (pv 2) (fun _ _ => rfl))) (pe_slice (slK K) (pv 0) (po_some (pe_op op_add (pv 3) pe_int)) po_none))))) pss_nil)
      (pss_cons (ps_if (pt_cmpR op_gt (pv 2) pe_int (nomark _)) (pss_one (ps_ret (pv 0))) pss_nil)
      (pss_cons (ps_set (i := 6) nd rfl (Or.inl rfl) (pe_op op_mod (pe_call GM (hr.mono (by decide)) rfl FM.mg FM.fn.kp FM.bn .nil pass0 (pa_cons (pv 1) (pa_consC pe_int pa_nil))) (pe_callB (lenK K) (by rfl) B.len PySem.boot_len (pa_cons (pv 4) pa_nil))))
      (pss_cons (ps_set (i := 7) nd rfl (Or.inl rfl) (pe_ix (ixK K) (pe_lst (pa_cons (pe_un un_neg pe_int) (pa_consC pe_int (pa_consC pe_int (pa_consB (pe_op op_mod (pe_call GM (hr.mono (by decide)) rfl FM.mg FM.fn.kp FM.bn .nil pass0 (pa_cons (pv 1) (pa_consC pe_int pa_nil))) pe_int) (pa_consB (pe_op op_mod (pv 1) (pe_op op_pow pe_int pe_int)) (pa_consB (pe_op op_add (pe_ix (ixK K) (pv 4) (pv 6) (fun _ _ => rfl)) pe_int) pa_nil))))))) (pe_op op_sub (pv 2) pe_int) (fun _ _ => rfl)))
      (pss_cons (ps_set (i := 8) nd rfl (Or.inl rfl) (pe_op op_cat (pe_op op_cat (pe_slice (slK K) (pv 4) po_none (po_some (pv 6))) (pe_lst (pa_cons (pv 7) pa_nil))) (pe_slice (slK K) (pv 4) (po_some (pe_op op_add (pv 6) pe_int)) po_none)))
      (pss_one (ps_ret (pe_op op_cat (pe_op op_cat (pe_slice (slK K) (pv 0) po_none (po_some (pv 3))) (pe_lst (pa_cons (pv 8) pa_nil))) (pe_slice (slK K) (pv 0) (po_some (pe_op op_add (pv 3) pe_int)) po_none)))))))))))), ?_⟩
    refine ⟨_, rfl, _, _, rfl, hc', by decide, by decide, _, _, rfl, rfl, (by show (0 : Int) < 14; decide), ?_⟩
    have ch0 := Int.emod_nonneg (mixF c 10) (show (14 : Int) ≠ 0 by decide)
    have ch1 := Int.emod_lt_of_pos (mixF c 10) (show (0 : Int) < 14 by decide)
    refine ⟨_, rfl, _, _, rfl, hc', by decide, by decide, _, rfl, a, _, rfl, .inl (SqL.of hR.top), _, _, rfl, rfl, (by show (0 : Int) < ((as.map V.ref).length : Nat); rw [List.length_map]; omega), ?_⟩
    dsimp only
    rw [List.length_map, al]
    have at0 := Int.emod_nonneg (mixF c 11) (show (zss.length : Int) ≠ 0 by omega)
    have at1 := Int.emod_lt_of_pos (mixF c 11) (show (0 : Int) < zss.length by omega)
    generalize mixF c 11 % (zss.length : Int) = ai at at0 at1 ⊢
    obtain ⟨j, rfl⟩ : ∃ j : Nat, ai = (j : Int) := ⟨ai.toNat, by omega⟩
    have hj : j < zss.length := by omega
    obtain ⟨p, hp⟩ : ∃ p, as[j]? = some p := ⟨as[j]'(by omega), List.getElem?_eq_getElem _⟩
    obtain ⟨z, ez⟩ : ∃ z, zss[j]? = some z := ⟨zss[j], List.getElem?_eq_getElem _⟩
    have hrow := hR.row j p z hp ez
    have hz3 := hz z (List.mem_of_getElem? ez)
    refine ⟨_, rfl, _, rfl, a, _, _, _, rfl, rfl, SqL.of hR.top, atI_nat (ref_get hp), ?_⟩
    generalize mixF c 10 % 14 = ch at ch0 ch1 ⊢
    refine ⟨_, rfl, _, _, rfl, rfl, _, rfl, ?_⟩
    refine iteD (fun g1 => ?_) (fun g1 => ?_)
    · refine ⟨by show 0 ≤ sizeLine; exact len12 (by decide), fun Q0 hQ0 => ?_⟩
      have w1 := same_upd (o := .lst []) hQ0
      have q0 : (upd H Q0 (.lst [])) Q0 = some (.lst []) := upd_same
      generalize upd H Q0 (.lst []) = H1 at w1 q0 ⊢
      refine ⟨_, rfl, _, rfl, by show 2 ≤ sizeLine; exact len12 (by decide), fun Q1 hQ1 => ?_⟩
      have w2 := same_upd (o := .lst [V.ref p, V.ref p]) hQ1
      have q1 : (upd H1 Q1 (.lst [V.ref p, V.ref p])) Q1 = some (.lst [V.ref p, V.ref p]) := upd_same
      generalize upd H1 Q1 (.lst [V.ref p, V.ref p]) = H2 at w2 q1 ⊢
      have s02 := w1.trans w2
      refine ⟨_, rfl, _, rfl, p, _, rfl, rfl, SqL.of (s02 _ _ hrow), fun N2 hN2 => ?_⟩
      have er : (zV z).reverse = zV z.reverse := by unfold zV; rw [List.map_reverse]
      rw [er]
      have w3 := same_upd (o := .lst (zV z.reverse)) hN2
      have n2 : (upd H2 N2 (.lst (zV z.reverse))) N2 = some (.lst (zV z.reverse)) := upd_same
      generalize upd H2 N2 (.lst (zV z.reverse)) = H3 at w3 n2 ⊢
      refine ⟨by show 1 ≤ sizeLine; exact len12 (by decide), fun Q2 hQ2 => ?_⟩
      have w4 := same_upd (o := .lst [V.ref N2]) hQ2
      have q2 : (upd H3 Q2 (.lst [V.ref N2])) Q2 = some (.lst [V.ref N2]) := upd_same
      generalize upd H3 Q2 (.lst [V.ref N2]) = H4 at w4 q2 ⊢
      have s04 := (s02.trans w3).trans w4
      refine ⟨_, rfl, by show 1 ≤ sizeLine; exact len12 (by decide), fun X3 hX3 => ?_⟩
      have w5 := same_upd (o := .lst [V.int 1]) hX3
      have x3 : (upd H4 X3 (.lst [V.int 1])) X3 = some (.lst [V.int 1]) := upd_same
      generalize upd H4 X3 (.lst [V.int 1]) = H5 at w5 x3 ⊢
      have s05 := s04.trans w5
      have zl3 := hz3.2.1
      refine ⟨p, X3, _, _, rfl, rfl, s05 _ _ hrow, x3, by rw [zV_length]; exact len2000 (by show z.length + 1 ≤ _; omega), fun N3 hN3 => ?_⟩
      rw [zV_append]
      have w6 := same_upd (o := .lst (zV (z ++ [1]))) hN3
      have n3 : (upd H5 N3 (.lst (zV (z ++ [1])))) N3 = some (.lst (zV (z ++ [1]))) := upd_same
      generalize upd H5 N3 (.lst (zV (z ++ [1]))) = H6 at w6 n3 ⊢
      refine ⟨by show 1 ≤ sizeLine; exact len12 (by decide), fun Q3 hQ3 => ?_⟩
      have w7 := same_upd (o := .lst [V.ref N3]) hQ3
      have q3 : (upd H6 Q3 (.lst [V.ref N3])) Q3 = some (.lst [V.ref N3]) := upd_same
      generalize upd H6 Q3 (.lst [V.ref N3]) = H7 at w7 q3 ⊢
      have s07 := (s05.trans w6).trans w7
      refine ⟨_, rfl, _, rfl, p, _, rfl, SqL.of (s07 _ _ hrow), fun N4 hN4 => ?_⟩
      have ec : cutV (zV z) (some 1) none = zV (z.drop 1) := by
        rw [show (1 : Int) = ((1 : Nat) : Int) from rfl, cut_from (by rw [zV_length]; exact hz3.1)]
        unfold zV; rw [List.map_drop]
      rw [ec]
      have w8 := same_upd (o := .lst (zV (z.drop 1))) hN4
      have n4 : (upd H7 N4 (.lst (zV (z.drop 1)))) N4 = some (.lst (zV (z.drop 1))) := upd_same
      generalize upd H7 N4 (.lst (zV (z.drop 1))) = H8 at w8 n4 ⊢
      refine ⟨by show 1 ≤ sizeLine; exact len12 (by decide), fun Q4 hQ4 => ?_⟩
      have w9 := same_upd (o := .lst [V.ref N4]) hQ4
      have q4 : (upd H8 Q4 (.lst [V.ref N4])) Q4 = some (.lst [V.ref N4]) := upd_same
      generalize upd H8 Q4 (.lst [V.ref N4]) = H9 at w9 q4 ⊢
      have s09 := (s07.trans w8).trans w9
      refine ⟨by show 5 ≤ sizeLine; exact len12 (by decide), fun Z hZ => ?_⟩
      have wA := same_upd (o := .lst [V.ref Q0, V.ref Q1, V.ref Q2, V.ref Q3, V.ref Q4]) hZ
      have uZ : (upd H9 Z (.lst [V.ref Q0, V.ref Q1, V.ref Q2, V.ref Q3, V.ref Q4])) Z = some (.lst ([Q0, Q1, Q2, Q3, Q4].map V.ref)) := upd_same
      generalize upd H9 Z (.lst [V.ref Q0, V.ref Q1, V.ref Q2, V.ref Q3, V.ref Q4]) = HA at wA uZ ⊢
      have s0A := s09.trans wA
      have s4A : Same H4 HA := ((((w5.trans w6).trans w7).trans w8).trans w9).trans wA
      have s7A : Same H7 HA := (w8.trans w9).trans wA
      have hf := hz3.fit
      have parts : ∀ q ∈ [Q0, Q1, Q2, Q3, Q4], Part HA q := by
        intro q hq
        simp only [List.mem_cons, List.not_mem_nil, or_false] at hq
        rcases hq with rfl | rfl | rfl | rfl | rfl
        · exact (Part.nil q0).mono (((w2.trans w3).trans w4).trans s4A)
        · exact (Part.two q1 (s02 _ _ hrow) hf).mono ((w3.trans w4).trans s4A)
        · exact (Part.one q2 (w4 _ _ n2) ⟨fun n hn => hf.1 n (List.mem_reverse.mp hn), by rw [List.length_reverse]; exact hf.2⟩).mono s4A
        · refine (Part.one q3 (w7 _ _ n3) ⟨fun n hn => ?_, by rw [List.length_append]; show z.length + 1 ≤ 4; omega⟩).mono s7A
          rcases List.mem_append.mp hn with e | e
          · exact hf.1 n e
          · rw [List.mem_singleton.mp e]; exact ⟨by decide, by decide⟩
        · exact (Part.one q4 (w9 _ _ n4) ⟨fun n hn => hf.1 n (List.mem_of_mem_drop hn), by rw [List.length_drop]; have := hf.2; omega⟩).mono wA
      obtain ⟨v, hv, sq, atv, _⟩ := pick_list (K := K) uZ ch0 (by rw [List.length_map]; show ch < 5; omega)
      obtain ⟨q, hq, rfl⟩ := List.mem_map.mp hv
      obtain ⟨rf, zs, hqA, rw_, fzs, lzs⟩ := parts q hq
      refine ⟨_, rfl, _, rfl, _, rfl, a, _, rfl, SqL.of (s0A _ _ hR.top), fun Y1 hY1 => ?_⟩
      rw [cut_to (show j ≤ (as.map V.ref).length by rw [List.length_map]; omega), ← List.map_take]
      have wB := same_upd (o := .lst ((as.take j).map V.ref)) hY1
      have y1 : (upd HA Y1 (.lst ((as.take j).map V.ref))) Y1 = some (.lst ((as.take j).map V.ref)) := upd_same
      generalize upd HA Y1 (.lst ((as.take j).map V.ref)) = HB at wB y1 ⊢
      refine ⟨_, rfl, _, rfl, Z, _, _, _, rfl, rfl, SqL.of (wB _ _ uZ), atv, ?_⟩
      have hqB := wB _ _ hqA
      have rwB := rw_.mono wB
      have tk : (as.take j).length = j := by rw [List.length_take]; omega
      have rl := rwB.1
      refine ⟨Y1, q, _, _, rfl, rfl, y1, hqB, by rw [List.length_map, List.length_map, tk]; exact len2000 (by omega), fun Y2 hY2 => ?_⟩
      rw [← List.map_append]
      have wC := same_upd (o := .lst ((as.take j ++ rf).map V.ref)) hY2
      have y2 : (upd HB Y2 (.lst ((as.take j ++ rf).map V.ref))) Y2 = some (.lst ((as.take j ++ rf).map V.ref)) := upd_same
      generalize upd HB Y2 (.lst ((as.take j ++ rf).map V.ref)) = HC at wC y2 ⊢
      have s0C := (s0A.trans wB).trans wC
      refine ⟨_, rfl, _, rfl, _, _, rfl, rfl, _, rfl, a, _, rfl, SqL.of (s0C _ _ hR.top), fun Y3 hY3 => ?_⟩
      rw [show ((j : Int) + 1) = ((j + 1 : Nat) : Int) from rfl, cut_from (show j + 1 ≤ (as.map V.ref).length by rw [List.length_map]; omega), ← List.map_drop]
      have wD := same_upd (o := .lst ((as.drop (j + 1)).map V.ref)) hY3
      have y3 : (upd HC Y3 (.lst ((as.drop (j + 1)).map V.ref))) Y3 = some (.lst ((as.drop (j + 1)).map V.ref)) := upd_same
      generalize upd HC Y3 (.lst ((as.drop (j + 1)).map V.ref)) = HD at wD y3 ⊢
      refine ⟨Y2, Y3, _, _, rfl, rfl, wD _ _ y2, y3, by rw [List.length_map, List.length_map, List.length_append, tk, List.length_drop]; exact len2000 (by omega), fun Y4 hY4 => ?_⟩
      rw [← List.map_append]
      have wE := same_upd (o := .lst ((as.take j ++ rf ++ as.drop (j + 1)).map V.ref)) hY4
      have s0E := (s0C.trans wD).trans wE
      have ra : RwAt H as zss := ⟨hR.len, hR.row⟩
      have rE := (((ra.take j).mono s0E).app (rwB.mono ((wC.trans wD).trans wE))).app ((ra.drop (j + 1)).mono s0E)
      refine k Y4 _ (zss.take j ++ zs ++ zss.drop (j + 1)) _ s0E ⟨upd_same, rE.1, rE.2⟩ ⟨fun y hy => ?_, ?_⟩
      · rcases List.mem_append.mp hy with hy | hy
        · rcases List.mem_append.mp hy with hy | hy
          · exact (hz y (List.mem_of_mem_take hy)).fit
          · exact fzs y hy
        · exact (hz y (List.mem_of_mem_drop hy)).fit
      · rw [List.length_append, List.length_append, List.length_take, List.length_drop]; omega
    refine ⟨_, rfl, _, _, rfl, rfl, _, rfl, ?_⟩
    refine iteD (fun g2 => ?_) (fun g2 => ?_)
    · exact ⟨_, rfl, k a as zss H (Same.refl _) hR ⟨fun y hy => (hz y hy).fit, by omega⟩⟩
    have zl1 := hz3.1
    have zl3 := hz3.2.1
    refine ⟨_, rfl, _, _, rfl, hc', by decide, by decide, _, rfl, p, _, rfl, .inl (SqL.of hrow), _, _, rfl, rfl, (by show (0 : Int) < ((zV z).length : Nat); rw [zV_length]; omega), ?_⟩
    dsimp only
    rw [zV_length]
    have pt0 := Int.emod_nonneg (mixF c 12) (show (z.length : Int) ≠ 0 by omega)
    have pt1 := Int.emod_lt_of_pos (mixF c 12) (show (0 : Int) < z.length by omega)
    generalize mixF c 12 % (z.length : Int) = pi at pt0 pt1 ⊢
    obtain ⟨i, rfl⟩ : ∃ i : Nat, pi = (i : Int) := ⟨pi.toNat, by omega⟩
    obtain ⟨x, hx⟩ : ∃ x, z[i]? = some x := ⟨z[i]'(by omega), List.getElem?_eq_getElem _⟩
    have xf := hz3.2.2 x (List.mem_of_getElem? hx)
    refine ⟨_, rfl, _, rfl, _, _, rfl, hc', by decide, by decide, _, _, rfl, rfl, (by show (0 : Int) < 12; decide), ?_⟩
    refine ⟨_, rfl, _, _, rfl, rfl, ⟨by decide, by decide, by decide⟩, _, _, rfl, rfl, (by show (0 : Int) < 10 ^ 40; decide), ?_⟩
    refine ⟨_, rfl, _, rfl, p, _, _, _, rfl, rfl, SqL.of hrow, atI_nat (zV_get hx), _, _, rfl, rfl, ?_⟩
    refine ⟨by show 6 ≤ sizeLine; exact len12 (by decide), fun Z hZ => ?_⟩
    have uZ : (upd H Z (.lst [V.int (-1), V.int 0, V.int 13, V.int (mixF c 13 % 12), V.int (c % 10 ^ Int.toNat 40), V.int (x + 1)])) Z = some (.lst (zV [(-1 : Int), 0, 13, mixF c 13 % 12, c % 10 ^ Int.toNat 40, x + 1])) := upd_same
    have nf : ∀ y ∈ [(-1 : Int), 0, 13, mixF c 13 % 12, c % 10 ^ Int.toNat 40, x + 1], Fit y := by
      intro y hy
      have a0 := Int.emod_nonneg (mixF c 13) (show (12 : Int) ≠ 0 by decide)
      have a1 := Int.emod_lt_of_pos (mixF c 13) (show (0 : Int) < 12 by decide)
      have b0 := Int.emod_nonneg c (show (10 ^ Int.toNat 40 : Int) ≠ 0 by decide)
      have b1 := Int.emod_lt_of_pos c (show (0 : Int) < 10 ^ Int.toNat 40 by decide)
      have b2 : (10 ^ Int.toNat 40 : Int) = 10 ^ 40 := rfl
      rw [b2] at b0 b1 hy
      simp only [List.mem_cons, List.not_mem_nil, or_false] at hy
      unfold Fit
      rcases hy with e | e | e | e | e | e <;> subst e <;> constructor <;> omega
    have wZ := same_upd (o := .lst [V.int (-1), V.int 0, V.int 13, V.int (mixF c 13 % 12), V.int (c % 10 ^ Int.toNat 40), V.int (x + 1)]) hZ
    obtain ⟨v, hv, sq, atv, _⟩ := pick_list (K := K) uZ (i := ch - 5) (by omega) (by rw [zV_length]; show ch - 5 < 6; omega)
    obtain ⟨y, hy, rfl⟩ := List.mem_map.mp hv
    have fy := nf y hy
    refine ⟨_, rfl, _, _, rfl, rfl, Z, _, _, _, rfl, rfl, sq, atv, ?_⟩
    clear atv sq hv uZ
    generalize upd H Z (.lst [V.int (-1), V.int 0, V.int 13, V.int (mixF c 13 % 12), V.int (c % 10 ^ Int.toNat 40), V.int (x + 1)]) = H1 at wZ ⊢
    have hrow1 := wZ _ _ hrow
    refine ⟨_, rfl, _, rfl, _, rfl, p, _, rfl, SqL.of hrow1, fun Y1 hY1 => ?_⟩
    rw [cut_to (show i ≤ (zV z).length by rw [zV_length]; omega)]
    have et : (zV z).take i = zV (z.take i) := by unfold zV; rw [List.map_take]
    rw [et]
    have w2 := same_upd (o := .lst (zV (z.take i))) hY1
    have y1 : (upd H1 Y1 (.lst (zV (z.take i)))) Y1 = some (.lst (zV (z.take i))) := upd_same
    generalize upd H1 Y1 (.lst (zV (z.take i))) = H2 at w2 y1 ⊢
    refine ⟨_, rfl, by show 1 ≤ sizeLine; exact len12 (by decide), fun Y2 hY2 => ?_⟩
    have w3 := same_upd (o := .lst [V.int y]) hY2
    have y2 : (upd H2 Y2 (.lst [V.int y])) Y2 = some (.lst [V.int y]) := upd_same
    generalize upd H2 Y2 (.lst [V.int y]) = H3 at w3 y2 ⊢
    have tk : (z.take i).length = i := by rw [List.length_take]; omega
    refine ⟨Y1, Y2, _, _, rfl, rfl, w3 _ _ y1, y2, by rw [zV_length, tk]; exact len2000 (by show i + 1 ≤ _; omega), fun Y3 hY3 => ?_⟩
    rw [zV_append]
    have w4 := same_upd (o := .lst (zV (z.take i ++ [y]))) hY3
    have y3 : (upd H3 Y3 (.lst (zV (z.take i ++ [y])))) Y3 = some (.lst (zV (z.take i ++ [y]))) := upd_same
    generalize upd H3 Y3 (.lst (zV (z.take i ++ [y]))) = H4 at w4 y3 ⊢
    have s14 := (w2.trans w3).trans w4
    refine ⟨_, rfl, _, rfl, _, _, rfl, rfl, _, rfl, p, _, rfl, SqL.of (s14 _ _ hrow1), fun Y4 hY4 => ?_⟩
    rw [show ((i : Int) + 1) = ((i + 1 : Nat) : Int) from rfl, cut_from (show i + 1 ≤ (zV z).length by rw [zV_length]; omega)]
    have ed : (zV z).drop (i + 1) = zV (z.drop (i + 1)) := by unfold zV; rw [List.map_drop]
    rw [ed]
    have w5 := same_upd (o := .lst (zV (z.drop (i + 1)))) hY4
    have y4 : (upd H4 Y4 (.lst (zV (z.drop (i + 1))))) Y4 = some (.lst (zV (z.drop (i + 1)))) := upd_same
    generalize upd H4 Y4 (.lst (zV (z.drop (i + 1)))) = H5 at w5 y4 ⊢
    refine ⟨Y3, Y4, _, _, rfl, rfl, w5 _ _ y3, y4, by rw [zV_length, zV_length, List.length_append, tk, List.length_drop]; exact len2000 (by show i + 1 + _ ≤ _; omega), fun C hC => ?_⟩
    have ea : zV (z.take i ++ [y]) ++ zV (z.drop (i + 1)) = zV (z.take i ++ [y] ++ z.drop (i + 1)) := by unfold zV; rw [List.map_append (l₂ := z.drop (i + 1))]
    rw [ea]
    have fr : FitR (z.take i ++ [y] ++ z.drop (i + 1)) := ⟨fun n hn => by
      have hf := hz3.fit
      rcases List.mem_append.mp hn with hn | hn
      · rcases List.mem_append.mp hn with hn | hn
        · exact hf.1 n (List.mem_of_mem_take hn)
        · rw [List.mem_singleton.mp hn]; exact fy
      · exact hf.1 n (List.mem_of_mem_drop hn), by rw [List.length_append, List.length_append, tk, List.length_drop]; show i + 1 + (z.length - (i + 1)) ≤ 4; omega⟩
    generalize z.take i ++ [y] ++ z.drop (i + 1) = zc at fr ⊢
    have w6 := same_upd (o := .lst (zV zc)) hC
    have yc : (upd H5 C (.lst (zV zc))) C = some (.lst (zV zc)) := upd_same
    generalize upd H5 C (.lst (zV zc)) = H6 at w6 yc ⊢
    have s06 := ((wZ.trans s14).trans w5).trans w6
    refine ⟨_, rfl, _, rfl, _, rfl, a, _, rfl, SqL.of (s06 _ _ hR.top), fun Y5 hY5 => ?_⟩
    rw [cut_to (show j ≤ (as.map V.ref).length by rw [List.length_map]; omega), ← List.map_take]
    have w7 := same_upd (o := .lst ((as.take j).map V.ref)) hY5
    have y5 : (upd H6 Y5 (.lst ((as.take j).map V.ref))) Y5 = some (.lst ((as.take j).map V.ref)) := upd_same
    generalize upd H6 Y5 (.lst ((as.take j).map V.ref)) = H7 at w7 y5 ⊢
    refine ⟨_, rfl, by show 1 ≤ sizeLine; exact len12 (by decide), fun Y6 hY6 => ?_⟩
    have w8 := same_upd (o := .lst [V.ref C]) hY6
    have y6 : (upd H7 Y6 (.lst [V.ref C])) Y6 = some (.lst ([C].map V.ref)) := upd_same
    generalize upd H7 Y6 (.lst [V.ref C]) = H8 at w8 y6 ⊢
    have ta : (as.take j).length = j := by rw [List.length_take]; omega
    refine ⟨Y5, Y6, _, _, rfl, rfl, w8 _ _ y5, y6, by rw [List.length_map, ta]; exact len2000 (by show j + 1 ≤ _; omega), fun Y7 hY7 => ?_⟩
    rw [← List.map_append]
    have w9 := same_upd (o := .lst ((as.take j ++ [C]).map V.ref)) hY7
    have y7 : (upd H8 Y7 (.lst ((as.take j ++ [C]).map V.ref))) Y7 = some (.lst ((as.take j ++ [C]).map V.ref)) := upd_same
    generalize upd H8 Y7 (.lst ((as.take j ++ [C]).map V.ref)) = H9 at w9 y7 ⊢
    have s09 := ((s06.trans w7).trans w8).trans w9
    refine ⟨_, rfl, _, rfl, _, _, rfl, rfl, _, rfl, a, _, rfl, SqL.of (s09 _ _ hR.top), fun Y8 hY8 => ?_⟩
    rw [show ((j : Int) + 1) = ((j + 1 : Nat) : Int) from rfl, cut_from (show j + 1 ≤ (as.map V.ref).length by rw [List.length_map]; omega), ← List.map_drop]
    have wA := same_upd (o := .lst ((as.drop (j + 1)).map V.ref)) hY8
    have y8 : (upd H9 Y8 (.lst ((as.drop (j + 1)).map V.ref))) Y8 = some (.lst ((as.drop (j + 1)).map V.ref)) := upd_same
    generalize upd H9 Y8 (.lst ((as.drop (j + 1)).map V.ref)) = HA at wA y8 ⊢
    refine ⟨Y7, Y8, _, _, rfl, rfl, wA _ _ y7, y8, by rw [List.length_map, List.length_map, List.length_append, ta, List.length_drop]; exact len2000 (by show j + 1 + _ ≤ _; omega), fun Y9 hY9 => ?_⟩
    rw [← List.map_append]
    have wB := same_upd (o := .lst ((as.take j ++ [C] ++ as.drop (j + 1)).map V.ref)) hY9
    have s0B := (s09.trans wA).trans wB
    have ra : RwAt H as zss := ⟨hR.len, hR.row⟩
    have rE := (((ra.take j).mono s0B).app ((RwAt.one yc).mono ((((w7.trans w8).trans w9).trans wA).trans wB))).app ((ra.drop (j + 1)).mono s0B)
    refine k Y9 _ (zss.take j ++ [zc] ++ zss.drop (j + 1)) _ s0B ⟨upd_same, rE.1, rE.2⟩ ⟨fun y hy => ?_, ?_⟩
    · rcases List.mem_append.mp hy with hy | hy
      · rcases List.mem_append.mp hy with hy | hy
        · exact (hz y (List.mem_of_mem_take hy)).fit
        · rw [List.mem_singleton.mp hy]; exact fr
      · exact (hz y (List.mem_of_mem_drop hy)).fit
    · rw [List.length_append, List.length_append, List.length_take, List.length_drop]; show min j zss.length + 1 + _ ≤ 16; omega
end
end Tw
namespace Tw
open PySem L2
open PyProof.Rows (firstMet firstMet_any firstMet_succ)
section
variable {P : Program} {w : World} {K : PySem.W.Frag} {mg : Str->Option Value} {base : Heap}
theorem map_getD (ns : List Int) : (List.range ns.length).map (fun i => ns.getD i 0) = ns := by
  refine List.ext_getElem? fun i => ?_
  rw [List.getElem?_map]
  by_cases hi : i < ns.length
  · rw [List.getElem?_range hi, List.getElem?_eq_getElem hi]
    show some (ns.getD i 0) = _
    rw [List.getD_eq_getElem?_getD, List.getElem?_eq_getElem hi]; rfl
  · rw [List.getElem?_eq_none (by rw [List.length_range]; omega), List.getElem?_eq_none (by omega)]; rfl
theorem firstMet_mem {ns : List Int} {y : Int} : y ∈ firstMet (fun i => ns.getD i 0) ns.length<->y ∈ ns := by
  have h := firstMet_any (fun i => ns.getD i 0) ns.length y
  rw [map_getD] at h
  rw [Bool.eq_iff_iff, List.any_eq_true, List.any_eq_true] at h
  constructor
  · intro hy
    obtain ⟨x, hx, e⟩ := h.mp ⟨y, hy, by simp⟩
    have : x = y := by simpa using e
    rw [← this]; exact hx
  · intro hy
    obtain ⟨x, hx, e⟩ := h.mpr ⟨y, hy, by simp⟩
    have : x = y := by simpa using e
    rw [← this]; exact hx
theorem firstMet_nodup (val : Nat->Int) : ∀ i, (firstMet val i).Nodup
  | 0 => by show ([] : List Int).Nodup; exact List.nodup_nil
  | i + 1 => by
    rw [firstMet_succ]
    unfold PyProof.Rows.step_dedup
    have ih := firstMet_nodup val i
    split
    · exact ih
    · rename_i h
      refine List.nodup_append.mpr ⟨ih, by simp, fun a ha b hb e => ?_⟩
      have : b = val i := by simpa using hb
      exact h (List.any_eq_true.mpr ⟨a, ha, by rw [e, this]; simp⟩)
theorem unlike_one {ns : List Int} (hn : 0 < ns.length) : unlike ns = 1<->∃ x, ∀ y ∈ ns, y = x := by
  unfold unlike
  constructor
  · intro h
    match hm : firstMet (fun i => ns.getD i 0) ns.length, h with
    | [x], _ =>
      refine ⟨x, fun y hy => ?_⟩
      have := firstMet_mem.mpr hy
      rw [hm] at this
      exact List.mem_singleton.mp this
  · rintro ⟨x, hx⟩
    have nd := firstMet_nodup (fun i => ns.getD i 0) ns.length
    have all : ∀ y ∈ firstMet (fun i => ns.getD i 0) ns.length, y = x := fun y hy => hx y (firstMet_mem.mp hy)
    have ne : firstMet (fun i => ns.getD i 0) ns.length ≠ [] := fun e => by
      have : ns[0] ∈ firstMet (fun i => ns.getD i 0) ns.length := firstMet_mem.mpr (List.getElem_mem hn)
      rw [e] at this; cases this
    match hm : firstMet (fun i => ns.getD i 0) ns.length, nd, all, ne with
    | [y], _, _, _ => rfl
    | y :: z :: t, nd, all, _ =>
      exfalso
      have e1 := all y (by simp)
      have e2 := all z (by simp)
      have := (List.nodup_cons.mp nd).1
      exact this (by rw [e1, ← e2]; simp)
theorem range_zV (n : Nat) : ((List.range n).map fun i => V.int (i : Nat)) = zV (pl n) := by unfold zV pl; rw [List.map_map]; rfl
theorem isRoadB_mem {n : Int} {zss : List (List Int)} (t : IsTree n zss) {z : List Int} (h : z ∈ zss) : isRoadB n z = true := by
  obtain ⟨rs, e, v, _⟩ := t.ex
  rw [e] at h
  obtain ⟨r, hr, rfl⟩ := List.mem_map.mp h
  exact isRoad_iff.mpr ⟨r, rfl, v r hr⟩
end
end Tw
namespace Tw
open PySem L2
section
variable {P : Program} {w : World} {K : PySem.W.Frag} {mg : Str->Option Value} {base : Heap}
def TreeRows (zss : List (List Int)) : Prop := ∃ (m : Int) (zs : List (List Int)), zss = [m] :: zs/\IsTree m zs
def spIsT : Sp := fun vs H Q _ => ∃ (a : Addr) (as : List Addr) (zss : List (List Int)), vs = [.ref a]/\RowsAt H a as zss/\zss.length ≤ 100 ∧
  ∀ (b : Bool) (H' : Hp), Same H H'->(b = true<->TreeRows zss)->Q (.bl b) H'
theorem scIsT : FnScope ["_law_rows", "_law_many", "_law_road", "_law_marks", "_law_a", "_law_b", "_law_length"] ["_law_rows"] (defScope sLIsTree) := ⟨rfl, rfl, rfl, by decide +kernel, rfl, by decide +kernel, by decide +kernel⟩
theorem ok_ist {f : Addr} {fd : FuncData} (F : Def K mg "_law_is_tree" sLIsTree ["_law_rows"] f fd) (B : Bi K mg) : FnOk P w K mg base CX0 1 f fd ["_law_rows"] spIsT := by
  refine F.fn.ok scIsT (fun vs H Q E h => ?_) (fun cdv A outer s H vs Q E hr h => ?_)
  · obtain ⟨a, as, zss, rfl, _⟩ := h
    rfl
  · obtain ⟨a, as0, zss0, rfl, hR0, hz0, k⟩ := h
    have nd := scIsT.nd
    have al0 := hR0.len
    refine ⟨_, (pss_cons (ps_if (PW.pt (pw_or (pt_cmpR op_eq (pe_callB (lenK K) (by rfl) B.len PySem.boot_len (pa_cons (pv 0) pa_nil)) pe_int (nomark _)) (pw_or1 (pt_cmpR op_ne (pe_callB (lenK K) (by rfl) B.len PySem.boot_len (pa_consS (pe_ix (ixK K) (pv 0) pe_int (fun _ _ => rfl)) pa_nil)) pe_int (nomark _))))) (pss_one (ps_ret pe_bl)) pss_nil)
      (pss_cons (ps_set (i := 1) nd rfl (Or.inl rfl) (pe_ix (ixK K) (pe_ix (ixK K) (pv 0) pe_int (fun _ _ => rfl)) pe_int (fun _ _ => rfl)))
      (pss_cons (ps_if (PW.pt (pw_or (pt_cmpR op_lt (pv 1) pe_int (nomark _)) (pw_or (pt_cmpR op_gt (pv 1) pe_int (nomark _)) (pw_or1 (pt_cmpR op_ne (pe_callB (lenK K) (by rfl) B.len PySem.boot_len (pa_cons (pv 0) pa_nil)) (pv 1) (nomark _)))))) (pss_one (ps_ret pe_bl)) pss_nil)
      (pss_cons (ps_for PassesOwn.never rfl (pi_listK K (pe_slice (slK K) (pv 0) (po_some pe_int) po_none)) (pg_name (i := 2) nd rfl (Or.inl rfl)) (pss_one (ps_if (PW.pt (pw_or (pt_cmpR op_ne (pe_callB (lenK K) (by rfl) B.len PySem.boot_len (pa_cons (pv 2) pa_nil)) pe_int (nomark _)) (pw_or (pt_cmpR op_lt (pe_ix (ixK K) (pv 2) pe_int (fun _ _ => rfl)) pe_int (nomark _)) (pw_or (pt_cmpR op_eq (pe_ix (ixK K) (pv 2) pe_int (fun _ _ => rfl)) (pe_ix (ixK K) (pv 2) pe_int (fun _ _ => rfl)) (nomark _)) (pw_or (pt_cmpR op_lt (pe_callB (minL K rfl) (by rfl) B.min PyProof.Rows.boot_min (pa_consS (pe_slice (slK K) (pv 2) po_none (po_some pe_int)) pa_nil)) pe_int (nomark _)) (pw_or1 (pt_cmpR op_ge (pe_callB (maxL K rfl) (by rfl) B.max PyProof.Rows.boot_max (pa_consS (pe_slice (slK K) (pv 2) po_none (po_some pe_int)) pa_nil)) (pv 1) (nomark _)))))))) (pss_one (ps_ret pe_bl)) pss_nil)))
      (pss_cons (ps_set (i := 3) nd rfl (Or.inr rfl) (pe_listrange rfl rfl B.list rfl B.range (pv 1)))
      (pss_cons (ps_for PassesOwn.never rfl (pi_listK K (pe_slice (slK K) (pv 0) (po_some pe_int) po_none)) (pg_lst rfl (pgs_cons (pg_name (i := 4) nd rfl (Or.inr rfl)) (pgs_cons (pg_name (i := 5) nd rfl (Or.inr rfl)) (pgs_cons (pg_name (i := 6) nd rfl (Or.inl rfl)) pgs_nil)))) (pss_one (ps_set (i := 3) nd rfl (Or.inr rfl) (pe_comp (defScope sLIsTree).names ["_law_rows", "_law_many", "_law_road", "_law_marks", "_law_a", "_law_b", "_law_length"] ["_law_rows", "_law_many", "_law_road", "_law_marks", "_law_a", "_law_b", "_law_length", "_law_mark"] (pi_listK K (pv 3)) (fun _ _ _ _ => pf_nil) (fun _ _ _ _ => (pe_ix (ixK K) (pe_lst (pa_cons (pv 7) (pa_consS (pe_ix (ixK K) (pv 3) (pv 4) (fun _ _ => rfl)) pa_nil))) (pe_callTy call_int1 (by rfl) B.int PyProof.Rows.boot_int (pa_cons (pe_cmpR op_eq (pv 7) (pe_ix (ixK K) (pv 3) (pv 5) (fun _ _ => rfl)) (nomark _)) pa_nil)) (fun _ _ => rfl)))))))
      (pss_one (ps_ret (pe_cmpR op_eq (pe_lenset rfl rfl B.len rfl B.set (pv 3)) pe_int (nomark _)))))))))), ?_⟩
    have no : ∀ {H' : Hp}, Same H H'->¬ TreeRows zss0->Q (.bl false) H' := fun s h => k false _ s ⟨(fun z => nomatch z), fun t => absurd t h⟩
    refine ⟨_, rfl, a, _, rfl, .inl (SqL.of hR0.top), rfl, _, rfl, ?_⟩
    rw [dec_vint, List.length_map, al0]
    refine iteD (fun e => ?_) (fun e => ?_)
    · refine iteT (no (Same.refl H) fun ⟨m, zs, q, _⟩ => ?_)
      rw [q, List.length_cons] at e; omega
    obtain ⟨z0, zss, rfl⟩ : ∃ z0 zs, zss0 = z0 :: zs := by
      cases zss0 with
      | nil => exact absurd rfl e
      | cons z l => exact ⟨z, l, rfl⟩
    obtain ⟨p0, as, rfl⟩ : ∃ p0 l, as0 = p0 :: l := by
      cases as0 with
      | nil => cases al0
      | cons p l => exact ⟨p, l, rfl⟩
    have hz0' : H p0 = some (.lst (zV z0)) := hR0.row 0 p0 z0 rfl rfl
    refine ⟨_, rfl, a, _, _, _, rfl, rfl, SqL.of hR0.top, atI_int (by decide) rfl, p0, _, rfl, .inl (SqL.of hz0'), rfl, _, rfl, ?_⟩
    rw [dec_vint, zV_length]
    refine iteN (fun e2 => ?_) (fun e2 => ?_)
    · have e2' := of_decide_eq_false e2
      refine no (Same.refl H) fun ⟨m, zs', q, _⟩ => ?_
      injection q with q1 q2
      rw [q1] at e2'
      exact e2' rfl
    have e2' := of_decide_eq_true e2
    obtain ⟨n, rfl⟩ : ∃ m, z0 = [m] := by
      match z0, (show z0.length = 1 by omega) with
      | [m], _ => exact ⟨m, rfl⟩
    have no : ∀ {H' : Hp}, Same H H'->¬ IsTree n zss->Q (.bl false) H' := fun s h => no s fun ⟨m, zs, q, t⟩ => by
      injection q with q1 q2
      injection q1 with q1
      subst q1; subst q2
      exact h t
    have k : ∀ (b : Bool) (H' : Hp), Same H H'->(b = true<->IsTree n zss)->Q (.bl b) H' := fun b H' s hb => k b H' s (hb.trans ⟨fun t => ⟨n, zss, rfl, t⟩, fun ⟨m, zs, q, t⟩ => by
      injection q with q1 q2
      injection q1 with q1
      subst q1; subst q2
      exact t⟩)
    have al : as.length = zss.length := by rw [List.length_cons, List.length_cons] at al0; omega
    have hz : zss.length ≤ 100 := by rw [List.length_cons] at hz0; omega
    have ec : cutV ((p0 :: as).map V.ref) (some 1) none = as.map V.ref := by
      rw [show (1 : Int) = ((1 : Nat) : Int) from rfl, cut_from (by simp)]
      rfl
    refine ⟨_, rfl, a, _, _, _, rfl, rfl, SqL.of hR0.top, atI_int (by decide) rfl, p0, _, _, _, rfl, rfl, SqL.of hz0', atI_int (by decide) rfl, ?_⟩
    refine ⟨_, rfl, _, _, rfl, rfl, _, rfl, ?_⟩
    refine iteD (fun h1 => ?_) (fun h1 => ?_)
    · refine iteT ?_
      exact no (Same.refl H) fun t => absurd t.lo (by omega)
    refine ⟨_, rfl, _, _, rfl, rfl, _, rfl, ?_⟩
    refine iteD (fun h2 => ?_) (fun h2 => ?_)
    · refine iteT ?_
      exact no (Same.refl H) fun t => absurd t.hi (by omega)
    obtain ⟨m, rfl⟩ : ∃ m : Nat, n = (m : Int) := ⟨n.toNat, by omega⟩
    refine ⟨_, rfl, a, _, rfl, .inl (SqL.of hR0.top), _, rfl, rfl, _, rfl, ?_⟩
    rw [dec_vint, List.length_map, al0]
    refine iteN (fun e => ?_) (fun e => ?_)
    · have := of_decide_eq_false e
      rw [List.length_cons] at this
      exact no (Same.refl H) fun t => absurd t.len (by omega)
    have hlen := of_decide_eq_true e
    rw [List.length_cons] at hlen
    have hlen : (zss.length : Int) = (m : Int) - 1 := by omega
    refine ⟨_, rfl, _, rfl, a, _, rfl, SqL.of hR0.top, fun R hRn => ?_⟩
    rw [ec]
    have wR := same_upd (o := .lst (as.map V.ref)) hRn
    have uR : (upd H R (.lst (as.map V.ref))) R = some (.lst (as.map V.ref)) := upd_same
    generalize upd H R (.lst (as.map V.ref)) = HR at wR uR ⊢
    have hR : RowsAt HR R as zss := RowsAt.tail (k := 1) (hR0.mono wR) uR
    have no : ∀ {H' : Hp}, Same HR H'->¬ IsTree m zss->Q (.bl false) H' := fun s h => no (wR.trans s) h
    refine ⟨R, rfl, ⟨_, SqL.of hR.top⟩, for_list (K := K) (a := R) (xs := as.map V.ref) (fun i σ H2 => ∃ v2 : Option V, σ = [some (.ref a), some (.int m), v2, none, none, none, none]/\Same HR H2/\∀ z ∈ zss.take i, isRoadB m z = true) ⟨none, rfl, Same.refl _, fun z hz => by simp at hz⟩
      (fun i σ H2 _ ⟨_, _, h, _⟩ => SqL.of (h _ _ hR.top)) ?_ ?_⟩
    · rintro i y σ H2 hi ⟨v2, rfl, s2, ok⟩
      obtain ⟨p, hp, rfl⟩ := get_ref hi
      have hil : i < zss.length := by rw [← al]; exact (List.getElem?_eq_some_iff.mp hp).1
      obtain ⟨z, ez⟩ : ∃ z, zss[i]? = some z := ⟨_, List.getElem?_eq_getElem hil⟩
      have hzm := List.mem_of_getElem? ez
      have hrow := s2 _ _ (hR.row i p z hp ez)
      have bad : isRoadB m z = false->¬ IsTree m zss := fun h t => by rw [isRoadB_mem t hzm] at h; cases h
      refine ⟨_, rfl, p, _, rfl, .inl (SqL.of hrow), rfl, _, rfl, ?_⟩
      rw [dec_vint, zV_length]
      refine iteN (fun e3 => ?_) (fun e3 => ?_)
      · refine iteT ?_
        have e3' := of_decide_eq_false e3
        refine no s2 (bad ?_)
        unfold isRoadB
        split
        · simp at e3'
        · rfl
      have e3' := of_decide_eq_true e3
      obtain ⟨x, y, l, rfl⟩ : ∃ x y l, z = [x, y, l] := by
        have : z.length = 3 := by omega
        match z, this with
        | [x, y, l], _ => exact ⟨x, y, l, rfl⟩
      have ek : isRoadB m [x, y, l] = (decide (0 ≤ x/\x < m) && decide (0 ≤ y/\y < m) && !decide (x = y) && decide (1 ≤ l)) := rfl
      refine ⟨_, rfl, p, _, _, _, rfl, rfl, SqL.of hrow, rfl, _, _, rfl, rfl, _, rfl, ?_⟩
      refine iteD (fun e4 => ?_) (fun e4 => ?_)
      · refine iteT ?_
        refine no s2 (bad ?_)
        rw [ek, decide_eq_false (show ¬ 1 ≤ l by omega), Bool.and_false]
      refine ⟨_, rfl, p, _, _, _, rfl, rfl, SqL.of hrow, rfl, _, rfl, p, _, _, _, rfl, rfl, SqL.of hrow, rfl, rfl, _, rfl, ?_⟩
      rw [dec_vint]
      refine iteD (fun e5 => ?_) (fun e5 => ?_)
      · refine no s2 (bad ?_)
        rw [ek, decide_eq_true e5]; simp
      refine ⟨_, rfl, _, rfl, p, _, rfl, SqL.of hrow, fun q1 hq1 => ?_⟩
      have u1 := same_upd (o := .lst [V.int x, V.int y]) hq1
      refine ⟨q1, [x, y], rfl, SqL.of upd_same, by show 0 < 2; decide, fun M hM hM' => ?_⟩
      refine ⟨_, _, rfl, rfl, _, rfl, ?_⟩
      have Mx := hM' x (by simp)
      have My := hM' y (by simp)
      have Mo : M = x ∨ M = y := by simpa using hM
      refine iteD (fun e6 => ?_) (fun e6 => ?_)
      · refine iteT ?_
        refine no (s2.trans u1) (bad ?_)
        rw [ek]
        rcases Mo with z | z
        · rw [decide_eq_false (show ¬ (0 ≤ x/\x < (m : Int)) by omega)]; simp
        · rw [decide_eq_false (show ¬ (0 ≤ y/\y < (m : Int)) by omega)]; simp
      refine ⟨_, rfl, _, rfl, p, _, rfl, SqL.of (u1 _ _ hrow), fun q2 hq2 => ?_⟩
      have u2 := u1.trans (same_upd (o := .lst [V.int x, V.int y]) hq2)
      refine ⟨q2, [x, y], rfl, SqL.of upd_same, by show 0 < 2; decide, fun N hN hN' => ?_⟩
      refine ⟨_, rfl, _, _, rfl, rfl, _, rfl, ?_⟩
      have Nx := hN' x (by simp)
      have Ny := hN' y (by simp)
      have No : N = x ∨ N = y := by simpa using hN
      refine iteD (fun e7 => ?_) (fun e7 => ?_)
      · refine no (s2.trans u2) (bad ?_)
        rw [ek]
        rcases No with z | z
        · rw [decide_eq_false (show ¬ (0 ≤ x/\x < (m : Int)) by omega)]; simp
        · rw [decide_eq_false (show ¬ (0 ≤ y/\y < (m : Int)) by omega)]; simp
      refine ⟨_, rfl, s2.trans u2, fun z hz => ?_⟩
      rw [List.take_add_one, ez, List.mem_append] at hz
      rcases hz with hz | hz
      · exact ok z hz
      · have : z = [x, y, l] := by simpa using hz
        rw [this, ek, decide_eq_true (show 0 ≤ x/\x < (m : Int) by omega), decide_eq_true (show 0 ≤ y/\y < (m : Int) by omega), decide_eq_false e5, decide_eq_true (show 1 ≤ l by omega)]; rfl
    rintro σ H2 ⟨v2, rfl, s2, ok⟩
    rw [List.length_map, al, List.take_length] at ok
    obtain ⟨rs, rfl, v⟩ := rows_roads (List.all_eq_true.mpr ok)
    rw [List.length_map] at hlen hz al
    have m1 : 1 ≤ m := by omega
    have m2 : m ≤ 12 := by omega
    refine ⟨_, rfl, m, rfl, by omega, fun M0 hM0 => ?_⟩
    rw [range_zV]
    have wM := same_upd (o := .lst (zV (pl m))) hM0
    have uM : (upd H2 M0 (.lst (zV (pl m)))) M0 = some (.lst (zV (pl m))) := upd_same
    generalize upd H2 M0 (.lst (zV (pl m))) = HM at wM uM ⊢
    have s0M := (wR.trans s2).trans wM
    refine ⟨_, rfl, _, rfl, a, _, rfl, SqL.of (s0M _ _ hR0.top), fun R2 hR2n => ?_⟩
    rw [ec]
    have wS := same_upd (o := .lst (as.map V.ref)) hR2n
    have uS : (upd HM R2 (.lst (as.map V.ref))) R2 = some (.lst (as.map V.ref)) := upd_same
    generalize upd HM R2 (.lst (as.map V.ref)) = HS at wS uS ⊢
    have s0S := s0M.trans wS
    have hR : RowsAt HS R2 as (rs.map rowI) := RowsAt.tail (k := 1) (hR0.mono s0S) uS
    refine ⟨R2, rfl, ⟨_, SqL.of hR.top⟩, for_list (K := K) (a := R2) (xs := as.map V.ref) (fun i σ H3 => ∃ (M : Addr) (ms : List Int) (v4 v5 v6 : Option V), σ = [some (.ref a), some (.int m), v2, some (.ref M), v4, v5, v6]/\Same HS H3/\H3 M = some (.lst (zV ms))/\Marks m (rs.take i) ms)
      ⟨M0, pl m, none, none, none, rfl, Same.refl _, wS _ _ uM, Marks.start⟩ (fun i σ H3 _ ⟨_, _, _, _, _, _, h, _⟩ => SqL.of (h _ _ hR.top)) ?_ ?_⟩
    · rintro i y σ H3 hi ⟨M, ms, v4, v5, v6, rfl, s3, hM3, mk⟩
      obtain ⟨p, hp, rfl⟩ := get_ref hi
      have hil : i < rs.length := by rw [← al]; exact (List.getElem?_eq_some_iff.mp hp).1
      obtain ⟨r, er⟩ : ∃ r, rs[i]? = some r := ⟨_, List.getElem?_eq_getElem hil⟩
      have hrow : H3 p = some (.lst [.int r.1, .int r.2.1, .int r.2.2]) := s3 _ _ (hR.row i p (rowI r) hp (by rw [List.getElem?_map, er]; rfl))
      have vr := v r (List.mem_of_getElem? er)
      have a0 := vr.a0; have a1 := vr.a1; have b0 := vr.b0; have b1 := vr.b1
      have ml := mk.len
      obtain ⟨xa, hxa⟩ : ∃ x, ms[r.1.toNat]? = some x := ⟨ms[r.1.toNat]'(by omega), List.getElem?_eq_getElem _⟩
      obtain ⟨xb, hxb⟩ : ∃ x, ms[r.2.1.toNat]? = some x := ⟨ms[r.2.1.toNat]'(by omega), List.getElem?_eq_getElem _⟩
      refine ⟨p, _, rfl, SqL.of hrow, rfl, _, _, rfl, _, _, rfl, _, _, rfl, rfl, ?_⟩
      refine ⟨_, rfl, M, rfl, ⟨_, SqL.of hM3⟩, fun D hD => ?_⟩
      refine comp_list (K := K) (a := M) (xs := zV ms) (fun j ys H4 => ys = zV ((ms.take j).map (remark xa xb))/\H4 D = some (.lst ys)/\Same H3 H4) (fun _ _ _ h => ⟨h.2.1, SqL.of (h.2.2 _ _ hM3)⟩) ⟨rfl, upd_same, same_upd hD⟩ ?_ ?_
      · rintro j y ys H4 hj ⟨rfl, hD4, s4⟩
        obtain ⟨x, hx, rfl⟩ := zV_item hj
        have hjl : j < ms.length := (List.getElem?_eq_some_iff.mp hx).1
        have hM4 := s4 _ _ hM3
        refine yesI ?_
        refine ⟨_, rfl, _, rfl, _, rfl, M, _, _, _, rfl, rfl, SqL.of hM4, atI_int a0 (zV_get hxa), by show 2 ≤ sizeLine; exact len12 (by decide), fun q hq => ?_⟩
        have u1 := same_upd (o := .lst [V.int x, V.int xa]) hq
        have nDq : D ≠ q := ne_of_none hD4 hq
        refine ⟨_, rfl, _, rfl, _, rfl, M, _, _, _, rfl, rfl, SqL.of (u1 _ _ hM4), atI_int b0 (zV_get hxb), rfl, .inr ⟨_, rfl, ?_⟩⟩
        have at' : atI [V.int x, V.int xa] (if decide (V.int x = V.int xb) = true then 1 else 0) = some (V.int (remark xa xb x)) := by
          rw [dec_vint]
          unfold remark
          by_cases e : x = xb
          · rw [if_pos e, decide_eq_true e, if_pos rfl]; rfl
          · rw [if_neg e, decide_eq_false e, if_neg (by decide)]; rfl
        refine ⟨q, _, _, _, rfl, rfl, SqL.of upd_same, at', by rw [upd_ne nDq]; exact hD4, ?_, ?_, upd_same, fun b o e => by rw [upd_ne (ne_of_none e hD)]; exact u1 b o (s4 b o e)⟩
        · rw [zV_length, List.length_map, List.length_take]; exact small1000 (by omega)
        · rw [List.take_add_one, hx, List.map_append]; exact zV_append _ _
      · rintro ys H4 ⟨rfl, hD4, s4⟩
        rw [zV_length, List.take_length] at hD4
        refine ⟨D, _, _, _, _, rfl, s3.trans s4, hD4, ?_⟩
        rw [List.take_add_one, er]
        exact mk.step vr hxa hxb
    · rintro σ H3 ⟨M, ms, v4, v5, v6, rfl, s3, hM3, mk⟩
      rw [List.length_map, al, List.take_length] at mk
      have ml := mk.len
      refine ⟨_, rfl, M, ms, rfl, SqL.of hM3, by omega, rfl, ?_⟩
      rw [dec_vint]
      refine k _ H3 (s0S.trans s3) ?_
      rw [decide_eq_true_iff, IsTree.iff m1 m2 hlen v, ← mk.conn m1 v, ← unlike_one (by omega)]
      omega
end
end Tw
namespace Tw
open PySem L2 PySem.StrLaws
section
variable {P : Program} {w : World} {K : PySem.W.Frag} {mg : Str->Option Value} {base : Heap}
structure Cx85 (K : PySem.W.Frag) (eTE eNT eNP eNR eNS eNI eNY eNW eNG eNK eNQ eNO eNN eNX C : Addr) (b1 b2 : Bool) : Prop where
  te : PySem.W.exmOne K (.ref C) (.ref eTE) = some true
  k1 : PySem.W.kitAny K (.ref C) [.ref eNI, .ref eNP, .ref eNR] = some false
  k2 : PySem.W.kitAny K (.ref C) [.ref eNS, .ref eNY, .ref eNW] = some false
  k3 : PySem.W.kitAny K (.ref C) [.ref eNG, .ref eNK, .ref eNQ] = some false
  k4 : PySem.W.kitAny K (.ref C) [.ref eNO, .ref eNN] = some false
  s1 : PySem.W.kitOne K (.ref C) (.ref eNX) = some b1
  s2 : PySem.W.kitOne K (.ref C) (.ref eNT) = some b2
  v : PySem.W.kitOne K (.ref C) (.type "ValueError") = some true
def Bad85 (t : Bool) (H : Hp) (wh : Int) (x : Str) (n : Int) (R : Addr) : Prop :=
  (t = true/\wh = 0/\x.length ≤ 8000/\x ≠ sM/\¬ ∀ p ∈ Txt.split x sS, rowOk p) ∨
  (t = false/\wh = 0/\∃ zss, FitW zss/\x = rowsT zss/\¬ TreeRows zss) ∨
  (t = false/\wh ≠ 0/\∃ as zss, RowsAt H R as zss/\zss.length ≤ 15/\¬ IsTree n zss)
def spRef85 : Sp := fun vs H Q _ => ∃ (t : Bool) (wh : Int) (x : Str) (n : Int) (R : Addr), vs = [.int wh, .str x, .int n, .ref R]/\Bad85 t H wh x n R/\∀ (L : Addr) (H' : Hp), Same H H'->H' L = some (.lst [.bl t, .bl (!t), .bl true])->Q (.ref L) H'
theorem asg_non {i : Nat} {r : TS} {D : Ends} {σ : St} {H : Hp} (h : r D (σ.set i (some .non)) H) : tSeq (tAsg (tC V.non) (gName i)) r D σ H := h
theorem seqif_meet {tc : TT} {t u r : TS} {D : Ends} {σ : St} {H : Hp} (W : St->Hp->Prop) (h : ∀ nx' : St->Hp->Prop, (∀ σ' H', W σ' H'->nx' σ' H')->tIfS tc t u { D with nx := nx' } σ H) (k : ∀ σ' H', W σ' H'->r D σ' H') : tSeq (tIfS tc t u) r D σ H := h _ k
theorem scRef85 : FnScope ["_law_which", "_law_text", "_law_many", "_law_roads", "_law_caught", "e"] ["_law_which", "_law_text", "_law_many", "_law_roads"] (defScope sRefused) := ⟨rfl, rfl, rfl, by decide +kernel, rfl, by decide +kernel, by decide +kernel⟩
theorem ok_ref85 {f fRT fST eTE eNT eNP eNR eNS eNI eNY eNW eNG eNK eNQ eNO eNN eNX : Addr} {fd fdRT fdST : FuncData} (F : Def K mg "_law_refused" sRefused ["_law_which", "_law_text", "_law_many", "_law_roads"] f fd) (FRT : Def K mg "read_tree" sReadTree ["text"] fRT fdRT) (FST : Def K mg "shown_tree" sShownTree ["many", "roads"] fST fdST) (GRT : FnOk P w K mg base (CXE P w) 6 fRT fdRT ["text"] (spReadTree eNX eNT)) (GST : FnOk P w K mg base (CXE P w) 6 fST fdST ["many", "roads"] (spShowTree eNT)) (ETE : Nam mg "TreeError" eTE) (ENT : Err K mg "NoTree" eNT) (ENP : Nam mg "NoPlace" eNP) (ENR : Nam mg "NoRoad" eNR) (ENS : Nam mg "NoSpot" eNS) (ENI : Nam mg "NoSite" eNI) (ENY : Nam mg "NoYard" eNY) (ENW : Nam mg "NoWorth" eNW) (ENG : Nam mg "NoGift" eNG) (ENK : Nam mg "NoKind" eNK) (ENQ : Nam mg "NoQuestion" eNQ) (ENO : Nam mg "NoRow" eNO) (ENN : Nam mg "NoName" eNN) (ENX : Err K mg "NoText" eNX) (hVE : mg "ValueError" = none) (CX : Cx85 K eTE eNT eNP eNR eNS eNI eNY eNW eNG eNK eNQ eNO eNN eNX eNX true false) (CT : Cx85 K eTE eNT eNP eNR eNS eNI eNY eNW eNG eNK eNQ eNO eNN eNX eNT false true) (B : Bi K mg) : FnOk P w K mg base CX0 7 f fd ["_law_which", "_law_text", "_law_many", "_law_roads"] spRef85 := by
  refine F.fn.ok scRef85 (fun vs H Q E h => ?_) (fun cdv A outer s H vs Q E hr h => ?_)
  · obtain ⟨t, wh, x, n, R, rfl, _⟩ := h
    rfl
  · obtain ⟨t, wh, tx, n, R, rfl, bad, k⟩ := h
    have nd := scRef85.nd
    refine ⟨_, (pss_cons (ps_set (i := 4) nd rfl (Or.inl rfl) pe_non)
      (pss_cons (ps_tryB (tb_if (pt_cmpR op_eq (pv 0) pe_int (nomark _)) (tb_call (i := 5) (j := 4) GRT (hr.mono (by decide)) rfl FRT.mg FRT.fn.kp FRT.bn .nil (pa_cons (pv 1) pa_nil) rfl ETE.mg rfl rfl rfl nd rfl rfl rfl rfl) (tb_call (i := 5) (j := 4) GST (hr.mono (by decide)) rfl FST.mg FST.fn.kp FST.bn .nil (pa_cons (pv 2) (pa_cons (pv 3) pa_nil)) rfl ETE.mg rfl rfl rfl nd rfl rfl rfl rfl)))
      (pss_cons (ps_if (PW.pt (pw_or (pt_val (pe_callB call_isx (by rfl) B.isinstance PyProof.Rows.boot_isinstance (pa_cons (pv 4) (pa_consT (pe_tup (pa_cons (pe_glob (v := .ref eNI) rfl ENI.mg rfl) (pa_cons (pe_glob (v := .ref eNP) rfl ENP.mg rfl) (pa_cons (pe_glob (v := .ref eNR) rfl ENR.mg rfl) pa_nil)))) pa_nil)))) (pw_or1 (pt_val (pe_callB call_isx (by rfl) B.isinstance PyProof.Rows.boot_isinstance (pa_cons (pv 4) (pa_consT (pe_tup (pa_cons (pe_glob (v := .ref eNS) rfl ENS.mg rfl) (pa_cons (pe_glob (v := .ref eNY) rfl ENY.mg rfl) (pa_cons (pe_glob (v := .ref eNW) rfl ENW.mg rfl) pa_nil)))) pa_nil))))))) (pss_one (ps_ret (pe_lst pa_nil))) pss_nil)
      (pss_cons (ps_if (PW.pt (pw_or (pt_val (pe_callB call_isx (by rfl) B.isinstance PyProof.Rows.boot_isinstance (pa_cons (pv 4) (pa_consT (pe_tup (pa_cons (pe_glob (v := .ref eNG) rfl ENG.mg rfl) (pa_cons (pe_glob (v := .ref eNK) rfl ENK.mg rfl) (pa_cons (pe_glob (v := .ref eNQ) rfl ENQ.mg rfl) pa_nil)))) pa_nil)))) (pw_or1 (pt_val (pe_callB call_isx (by rfl) B.isinstance PyProof.Rows.boot_isinstance (pa_cons (pv 4) (pa_consT (pe_tup (pa_cons (pe_glob (v := .ref eNO) rfl ENO.mg rfl) (pa_cons (pe_glob (v := .ref eNN) rfl ENN.mg rfl) pa_nil))) pa_nil))))))) (pss_one (ps_ret (pe_lst pa_nil))) pss_nil)
      (pss_one (ps_ret (pe_lst (pa_cons (pe_callB call_isx (by rfl) B.isinstance PyProof.Rows.boot_isinstance (pa_cons (pv 4) (pa_cons (pe_glob (v := .ref eNX) rfl ENX.mg rfl) pa_nil))) (pa_cons (pe_callB call_isx (by rfl) B.isinstance PyProof.Rows.boot_isinstance (pa_cons (pv 4) (pa_cons (pe_glob (v := .ref eNT) rfl ENT.mg rfl) pa_nil))) (pa_cons (pe_callB call_isx (by rfl) B.isinstance PyProof.Rows.boot_isinstance (pa_cons (pv 4) (pa_cons (pe_bltn (v := .ty "ValueError") rfl hVE boot_VE rfl) pa_nil))) pa_nil)))))))))), ?_⟩
    obtain ⟨C, hC, CC, is⟩ : ∃ C, C = (if t then eNX else eNT)/\Cx85 K eTE eNT eNP eNR eNS eNI eNY eNW eNG eNK eNQ eNO eNN eNX C t (!t)/\XIs K C := by
      cases t with
      | true => exact ⟨eNX, rfl, CX, ENX.is⟩
      | false => exact ⟨eNT, rfl, CT, ENT.is⟩
    refine asg_non (seqif_meet (fun σ' H' => ∃ x, σ' = [some (.int wh), some (.str tx), some (.int n), some (.ref R), some (.ref x), none]/\Same H H'/\H' x = some (exO x (.ref C))) (fun nx hnx => ?_) (fun σ' H3 ⟨x, e, s3, u3⟩ => ?_))
    · have ex : ∀ H2 : Hp, Same H H2->PySem.W.exmOne K (.ref C) (.ref eTE) = some true/\∀ x, H2 x = none->nx ((([some (.int wh), some (.str tx), some (.int n), some (.ref R), some .non, none].set 5 (some (.ref x))).set 4 (some (.ref x))).set 5 none) (upd H2 x (exO x (.ref C))) := fun H2 s2 => ⟨CC.te, fun x hx => hnx _ _ ⟨x, rfl, s2.trans (same_upd hx), upd_same⟩⟩
      refine ⟨_, rfl, rfl, _, rfl, ?_⟩
      rw [dec_vint]
      rcases bad with ⟨ht, hw, hl, nM, hn⟩ | ⟨ht, hw, zss, fz, ex2, nt⟩ | ⟨ht, hw, as, zss, hR, hl, nt⟩
      · have eC : C = eNX := by rw [hC, ht]; rfl
        rw [decide_eq_true hw]
        refine iteT ?_
        exact ⟨_, rfl, tx, rfl, hl, .inl ⟨nM, hn, fun H2 s2 => by rw [← eC]; exact ex H2 s2⟩⟩
      · have eC : C = eNT := by rw [hC, ht]; rfl
        rw [decide_eq_true hw]
        refine iteT ?_
        refine ⟨_, rfl, tx, rfl, by rw [ex2]; have := rows_lenW fz; omega, .inr ⟨zss, fz, ex2, fun m zs e t => absurd ⟨m, zs, e, t⟩ nt, fun _ H2 s2 => by rw [← eC]; exact ex H2 s2⟩⟩
      · have eC : C = eNT := by rw [hC, ht]; rfl
        rw [decide_eq_false hw]
        refine iteF ?_
        exact ⟨_, rfl, _, rfl, n, R, as, zss, rfl, hR, hl, fun t => absurd t nt, fun _ H2 s2 => by rw [← eC]; exact ex H2 s2⟩
    · subst e
      refine ⟨_, rfl, by show 3 ≤ sizeLine; exact len12 (by decide), fun p1 h1 => ?_⟩
      have s4 := s3.trans (same_upd (o := .tup [V.ref eNI, V.ref eNP, V.ref eNR]) h1)
      have u4 := (same_upd (o := .tup [V.ref eNI, V.ref eNP, V.ref eNR]) h1) _ _ u3
      refine ⟨x, C, _, false, rfl, u4, is, Or.inr (Or.inr ⟨p1, [eNI, eNP, eNR], rfl, upd_same, CC.k1⟩), ?_⟩
      refine ⟨_, rfl, iteF ?_⟩
      generalize upd H3 p1 (.tup [V.ref eNI, V.ref eNP, V.ref eNR]) = H4 at s4 u4 ⊢
      refine ⟨_, rfl, by show 3 ≤ sizeLine; exact len12 (by decide), fun p2 h2 => ?_⟩
      have s5 := s4.trans (same_upd (o := .tup [V.ref eNS, V.ref eNY, V.ref eNW]) h2)
      have u5 := (same_upd (o := .tup [V.ref eNS, V.ref eNY, V.ref eNW]) h2) _ _ u4
      refine ⟨x, C, _, false, rfl, u5, is, Or.inr (Or.inr ⟨p2, [eNS, eNY, eNW], rfl, upd_same, CC.k2⟩), ?_⟩
      refine ⟨_, rfl, iteF ?_⟩
      generalize upd H4 p2 (.tup [V.ref eNS, V.ref eNY, V.ref eNW]) = H5 at s5 u5 ⊢
      refine ⟨_, rfl, by show 3 ≤ sizeLine; exact len12 (by decide), fun p3 h3 => ?_⟩
      have s6 := s5.trans (same_upd (o := .tup [V.ref eNG, V.ref eNK, V.ref eNQ]) h3)
      have u6 := (same_upd (o := .tup [V.ref eNG, V.ref eNK, V.ref eNQ]) h3) _ _ u5
      refine ⟨x, C, _, false, rfl, u6, is, Or.inr (Or.inr ⟨p3, [eNG, eNK, eNQ], rfl, upd_same, CC.k3⟩), ?_⟩
      refine ⟨_, rfl, iteF ?_⟩
      generalize upd H5 p3 (.tup [V.ref eNG, V.ref eNK, V.ref eNQ]) = H6 at s6 u6 ⊢
      refine ⟨_, rfl, by show 2 ≤ sizeLine; exact len12 (by decide), fun p4 h4 => ?_⟩
      have s7 := s6.trans (same_upd (o := .tup [V.ref eNO, V.ref eNN]) h4)
      have u7 := (same_upd (o := .tup [V.ref eNO, V.ref eNN]) h4) _ _ u6
      refine ⟨x, C, _, false, rfl, u7, is, Or.inr (Or.inr ⟨p4, [eNO, eNN], rfl, upd_same, CC.k4⟩), ?_⟩
      refine ⟨_, rfl, iteF ?_⟩
      generalize upd H6 p4 (.tup [V.ref eNO, V.ref eNN]) = H7 at s7 u7 ⊢
      refine ⟨_, rfl, x, C, _, t, rfl, u7, is, Or.inl ⟨eNX, rfl, CC.s1⟩, ?_⟩
      refine ⟨_, rfl, x, C, _, (!t), rfl, u7, is, Or.inl ⟨eNT, rfl, CC.s2⟩, ?_⟩
      refine ⟨_, rfl, x, C, _, true, rfl, u7, is, Or.inr (Or.inl ⟨_, rfl, CC.v⟩), ?_⟩
      exact ⟨by show 3 ≤ sizeLine; exact len12 (by decide), fun L hL => k L _ (s7.trans (same_upd hL)) upd_same⟩
end
end Tw
namespace Tw
open PySem L2 PySem.StrLaws
open PySem.Builtin.Int (intBits)
section
variable {P : Program} {w : World} {K : PySem.W.Frag} {mg : Str->Option Value} {base : Heap}
theorem gset_go {i : Nat} {v : V} {σ σ0 : St} {H : Hp} {Q : St->Hp->Prop} (e : σ.set i (some v) = σ0) (h : Q σ0 H) : gName i v σ H Q := by subst e; exact h
theorem nx_go {t : TS} {D : Ends} {rt : VK} {bk ct : St->Hp->Prop} {σ : St} {H : Hp} (h : t D σ H) : (Ends.mk (t D) rt bk ct).nx σ H := h
theorem cut_tl {p : Addr} {l : List Addr} : cutV ((p :: l).map V.ref) (some 1) none = l.map V.ref := by
  rw [show (1 : Int) = ((1 : Nat) : Int) from rfl, cut_from (by simp)]
  rfl
theorem scLaw : FnScope ["_law_script", "_law_many", "_law_roads", "_law_handed", "_law_text", "_law_cell", "_law_rows", "_law_found", "_law_spoiled"] ["_law_script"] (defScope sLaw) := ⟨rfl, rfl, rfl, by decide +kernel, rfl, by decide +kernel, by decide +kernel⟩
theorem ok_law {f fT fSH fST fRT fA fBE fIT fRF fM eNX eNT : Addr} {fd fdT fdSH fdST fdRT fdA fdBE fdIT fdRF fdM : FuncData} (F : Def K mg "law" sLaw ["_law_script"] f fd) (FT : Def K mg "_law_tree" sTree ["_law_script"] fT fdT) (FSH : Def K mg "_law_shown" sShown ["_law_rows"] fSH fdSH) (FST : Def K mg "shown_tree" sShownTree ["many", "roads"] fST fdST) (FRT : Def K mg "read_tree" sReadTree ["text"] fRT fdRT) (FA : Def K mg "_law_cell_at" sCell ["_law_script", "_law_k"] fA fdA) (FBE : Def K mg "_law_bent" sBent ["_law_rows", "_law_cell"] fBE fdBE) (FIT : Def K mg "_law_is_tree" sLIsTree ["_law_rows"] fIT fdIT) (FRF : Def K mg "_law_refused" sRefused ["_law_which", "_law_text", "_law_many", "_law_roads"] fRF fdRF) (FM : Def K mg "_law_mix" sMix ["_law_number", "_law_k"] fM fdM) (GT : FnOk P w K mg base CX0 3 fT fdT ["_law_script"] (spTree K)) (GSH : FnOk P w K mg base CX0 1 fSH fdSH ["_law_rows"] spShown) (GST0 : FnOk P w K mg base (CXE P w) 6 fST fdST ["many", "roads"] (spShowTree eNT)) (GRT0 : FnOk P w K mg base (CXE P w) 6 fRT fdRT ["text"] (spReadTree eNX eNT)) (GBE : FnOk P w K mg base CX0 2 fBE fdBE ["_law_rows", "_law_cell"] spBent) (GIT : FnOk P w K mg base CX0 1 fIT fdIT ["_law_rows"] spIsT) (GRF : FnOk P w K mg base CX0 7 fRF fdRF ["_law_which", "_law_text", "_law_many", "_law_roads"] spRef85) (B : Bi K mg) : FnOk P w K mg base CX0 8 f fd ["_law_script"] (spLaw K) := by
  have GST := GST0.to0
  have GRT := GRT0.to0
  have GA : FnOk P w K mg base CX0 1 fA fdA ["_law_script", "_law_k"] (spCell K) := ok_cell FA B
  have GM : FnOk P w K mg base CX0 1 fM fdM ["_law_number", "_law_k"] spMix := ok_mix FM
  refine F.fn.ok scLaw (fun vs H Q E h => ?_) (fun cdv A outer s H vs Q E hr h => ?_)
  · obtain ⟨a, ns, rfl, _⟩ := h
    rfl
  · obtain ⟨a, ns, rfl, hSc, hb, hl, k⟩ := h
    have nd := scLaw.nd
    have hu := hu_of hr
    have hu2 : (A.deeper (PyProof.Rows.envOfC "law" (defScope sLaw) s.heap.objs.size f cdv)).units + 2 < cLine := by have := hr.un; omega
    refine ⟨_, (pss_cons (ps_asg (pe_call GT (hr.mono (by decide)) rfl FT.mg FT.fn.kp FT.bn .nil pass0 (pa_cons (pv 0) pa_nil)) (pg_tup rfl (pgs_cons (pg_name (i := 1) nd rfl (Or.inl rfl)) (pgs_cons (pg_name (i := 2) nd rfl (Or.inl rfl)) pgs_nil))))
      (pss_cons (ps_setC (defScope sLaw).names ["_law_script", "_law_many", "_law_roads", "_law_handed", "_law_text", "_law_cell", "_law_rows", "_law_found", "_law_spoiled"] ["_law_script", "_law_many", "_law_roads", "_law_handed", "_law_text", "_law_cell", "_law_rows", "_law_found", "_law_spoiled", "_law_road"] 3 nd rfl (Or.inl rfl) (pi_listK K (pv 2)) (fun _ _ _ _ => pf_nil) (fun _ _ _ _ => (pe_callTy (listK K) (by rfl) B.list PyProof.Rows.boot_list (pa_cons (pv 9) pa_nil))))
      (pss_cons (ps_set (i := 4) nd rfl (Or.inl rfl) (pe_call GSH (hr.mono (by decide)) rfl FSH.mg FSH.fn.kp FSH.bn .nil pass0 (pa_consB (pe_op op_cat (pe_lst (pa_consL (pe_lst (pa_cons (pv 1) pa_nil)) pa_nil)) (pv 2)) pa_nil)))
      (pss_cons (ps_if (PW.pt (pw_or (pt_cmpR op_ne (pe_call GST (hr.mono (by decide)) rfl FST.mg FST.fn.kp FST.bn .nil pass0 (pa_cons (pv 1) (pa_cons (pv 3) pa_nil))) (pv 4) (nomark _)) (pw_or (pt_cmpR (op_neR hu) (pv 3) (pv 2) (nomark _)) (pw_or1 (pt_cmpR (op_neTR K hu2) (pe_call GRT (hr.mono (by decide)) rfl FRT.mg FRT.fn.kp FRT.bn .nil pass0 (pa_cons (pv 4) pa_nil)) (pe_tup (pa_cons (pv 1) (pa_cons (pv 2) pa_nil))) (nomark _)))))) (pss_one (ps_ret pe_bl)) pss_nil)
      (pss_cons (ps_set (i := 5) nd rfl (Or.inl rfl) (pe_call GA (hr.mono (by decide)) rfl FA.mg FA.fn.kp FA.bn .nil pass0 (pa_cons (pv 0) (pa_consC pe_int pa_nil))))
      (pss_cons (ps_set (i := 6) nd rfl (Or.inl rfl) (pe_call GBE (hr.mono (by decide)) rfl FBE.mg FBE.fn.kp FBE.bn .nil pass0 (pa_consB (pe_op op_cat (pe_lst (pa_consL (pe_lst (pa_cons (pv 1) pa_nil)) pa_nil)) (pv 2)) (pa_cons (pv 5) pa_nil))))
      (pss_cons (ps_set (i := 4) nd rfl (Or.inl rfl) (pe_call GSH (hr.mono (by decide)) rfl FSH.mg FSH.fn.kp FSH.bn .nil pass0 (pa_cons (pv 6) pa_nil)))
      (pss_cons (ps_if (pt_val (pe_call GIT (hr.mono (by decide)) rfl FIT.mg FIT.fn.kp FIT.bn .nil pass0 (pa_cons (pv 6) pa_nil))) (pss_cons (ps_set (i := 7) nd rfl (Or.inl rfl) (pe_call GRT (hr.mono (by decide)) rfl FRT.mg FRT.fn.kp FRT.bn .nil pass0 (pa_cons (pv 4) pa_nil)))
      (pss_one (ps_if (PW.pt (pw_or (pt_not (pt_val (pe_callB (isinstK K) (by rfl) B.isinstance PyProof.Rows.boot_isinstance (pa_cons (pv 7) (pa_cons (pe_bltn (v := .ty "tuple") rfl B.tuple PyProof.Rows.boot_tuple rfl) pa_nil))))) (pw_or1 (pt_cmpR (op_neTR K hu2) (pv 7) (pe_tup (pa_consS (pe_ix (ixK K) (pe_ix (ixK K) (pv 6) pe_int (fun _ _ => rfl)) pe_int (fun _ _ => rfl)) (pa_consS (pe_slice (slK K) (pv 6) (po_some pe_int) po_none) pa_nil))) (nomark _))))) (pss_one (ps_ret pe_bl)) pss_nil))) (pss_cons (ps_if (pt_cmpR (op_neLK K (Nat.lt_of_succ_lt hu)) (pe_call GRF (hr.mono (by decide)) rfl FRF.mg FRF.fn.kp FRF.bn .nil pass0 (pa_consC pe_int (pa_cons (pv 4) (pa_cons (pv 1) (pa_cons (pv 2) pa_nil))))) (pe_lst (pa_consC pe_bl (pa_consC pe_bl (pa_consC pe_bl pa_nil)))) (nomark _)) (pss_one (ps_ret pe_bl)) pss_nil)
      (pss_one (ps_if (PW.pt (pw_and (pt_cmpR op_gt (pe_callB (lenK K) (by rfl) B.len PySem.boot_len (pa_cons (pv 6) pa_nil)) pe_int (nomark _)) (pw_and (pt_cmpR op_eq (pe_callB (lenK K) (by rfl) B.len PySem.boot_len (pa_consS (pe_ix (ixK K) (pv 6) pe_int (fun _ _ => rfl)) pa_nil)) pe_int (nomark _)) (pw_and1 (pt_cmpR (op_neLK K (Nat.lt_of_succ_lt hu)) (pe_call GRF (hr.mono (by decide)) rfl FRF.mg FRF.fn.kp FRF.bn .nil pass0 (pa_consC pe_int (pa_cons (pv 4) (pa_consS (pe_ix (ixK K) (pe_ix (ixK K) (pv 6) pe_int (fun _ _ => rfl)) pe_int (fun _ _ => rfl)) (pa_consS (pe_slice (slK K) (pv 6) (po_some pe_int) po_none) pa_nil))))) (pe_lst (pa_consC pe_bl (pa_consC pe_bl (pa_consC pe_bl pa_nil)))) (nomark _)))))) (pss_one (ps_ret pe_bl)) pss_nil))))
      (pss_cons (ps_set (i := 8) nd rfl (Or.inl rfl) (pe_op op_add_str (pv 4) (pe_ix (ixK K) (pe_lst (pa_consC pe_str (pa_consC pe_str (pa_consC pe_str (pa_consC pe_str (pa_consC pe_str (pa_consC pe_str pa_nil))))))) (pe_op op_mod (pe_call GM (hr.mono (by decide)) rfl FM.mg FM.fn.kp FM.bn .nil pass0 (pa_cons (pv 5) (pa_consC pe_int pa_nil))) pe_int) (fun _ _ => rfl))))
      (pss_one (ps_ret (pe_cmpR (op_eqLK K (Nat.lt_of_succ_lt hu)) (pe_call GRF (hr.mono (by decide)) rfl FRF.mg FRF.fn.kp FRF.bn .nil pass0 (pa_consC pe_int (pa_cons (pv 8) (pa_cons (pv 1) (pa_cons (pv 2) pa_nil))))) (pe_lst (pa_consC pe_bl (pa_consC pe_bl (pa_consC pe_bl pa_nil)))) (nomark _))))))))))))), ?_⟩
    refine ⟨_, rfl, a, ns, rfl, hSc, hb, hl, fun U R as n rs H1 hU hR t hle s1 => ?_⟩
    refine ⟨U, _, rfl, SqT.of hU, rfl, _, _, rfl, _, _, rfl, rfl, ?_⟩
    have th := t.hi
    have tlo := t.lo
    have tl := t.length
    have al := hR.len
    have zR := hR.rows
    have vr := t.valid
    have row3 : ∀ z ∈ [(n : Int)] :: rs.map rowI, Row3 z := fun z hz => by
      rcases List.mem_cons.mp hz with e | e
      · subst e
        exact ⟨by show 1 ≤ 1; decide, by show 1 ≤ 3; decide, fun x hx => by rw [List.mem_singleton.mp hx]; constructor <;> omega⟩
      · obtain ⟨r, hr', rfl⟩ := List.mem_map.mp e
        have v := vr r hr'
        have a0 := v.a0; have a1 := v.a1; have b0 := v.b0; have b1 := v.b1
        have l1 := t.len r hr'; have l2 := hle r hr'
        refine ⟨by show 1 ≤ 3; decide, by show 3 ≤ 3; decide, fun x hx => ?_⟩
        have hx : x = r.1 ∨ x = r.2.1 ∨ x = r.2.2 := by simpa [rowI] using hx
        rcases hx with e | e | e <;> subst e <;> constructor <;> omega
    have fz : FitW ([(n : Int)] :: rs.map rowI) := ⟨fun z hz => (row3 z hz).fit, by rw [List.length_cons, List.length_map]; omega⟩
    have tr : TreeRows ([(n : Int)] :: rs.map rowI) := ⟨n, _, rfl, t.isTree⟩
    refine ⟨_, rfl, R, rfl, ⟨_, SqL.of zR.top⟩, fun D hD => ?_⟩
    refine copy_rows zR (by rw [List.length_map]; omega) hD (fun p H4 Qv zs hp kk => ⟨_, rfl, p, _, rfl, .inl (SqL.of hp), kk⟩) fun bs H2 hD2 s2 fr2 => ?_
    have hR2 := zR.mono s2
    have rows_of : ∀ {HX : Hp} {Z1 Z2 : Addr}, RowsAt HX R as (rs.map rowI)->HX Z1 = some (.lst (zV [(n : Int)]))->HX Z2 = some (.lst ([V.ref Z1] ++ as.map V.ref))->RowsAt HX Z2 (Z1 :: as) ([(n : Int)] :: rs.map rowI) := fun h1 h2 h3 => h1.consR h2 h3
    refine ⟨_, rfl, by show 1 ≤ sizeLine; exact len12 (by decide), fun Z1 hZ1 => ⟨by show 1 ≤ sizeLine; exact len12 (by decide), fun Z2 hZ2 => ?_⟩⟩
    have w3 := same_upd (o := .lst [V.int n]) hZ1
    have u3 : (upd H2 Z1 (.lst [V.int n])) Z1 = some (.lst (zV [(n : Int)])) := upd_same
    generalize upd H2 Z1 (.lst [V.int n]) = H3 at w3 u3 hZ2 ⊢
    have w4 := same_upd (o := .lst [V.ref Z1]) hZ2
    have u4 : (upd H3 Z2 (.lst [V.ref Z1])) Z2 = some (.lst [V.ref Z1]) := upd_same
    generalize upd H3 Z2 (.lst [V.ref Z1]) = H4 at w4 u4 ⊢
    have s24 := w3.trans w4
    have hR4 := hR2.mono s24
    refine ⟨_, rfl, Z2, R, _, _, rfl, rfl, u4, hR4.top, by rw [List.length_map]; exact len2000 (by show 1 + as.length ≤ _; omega), fun Z3 hZ3 => ?_⟩
    have w5 := same_upd (o := .lst ([V.ref Z1] ++ as.map V.ref)) hZ3
    have u5 : (upd H4 Z3 (.lst ([V.ref Z1] ++ as.map V.ref))) Z3 = some (.lst ([V.ref Z1] ++ as.map V.ref)) := upd_same
    generalize upd H4 Z3 (.lst ([V.ref Z1] ++ as.map V.ref)) = H5 at w5 u5 ⊢
    have s25 := s24.trans w5
    refine ⟨Z3, _, _, rfl, rows_of (hR4.mono w5) (w5 _ _ (w4 _ _ u3)) u5, fz, fun H6 s6 => ?_⟩
    have s26 := s25.trans s6
    refine ⟨_, rfl, _, rfl, n, D, bs, _, rfl, hD2.mono s26, by rw [List.length_map]; omega, fun _ => ⟨fz, fun H7 s7 => ?_⟩, fun nt => absurd t.isTree nt⟩
    have s27 := s26.trans s7
    refine ⟨_, rfl, rfl, _, rfl, ?_⟩
    rw [decide_eq_true rfl]
    refine iteF ?_
    have dis : ∀ p ∈ bs, p ∉ as := fun p hp => zR.freshR (fr2 p hp)
    refine ⟨_, rfl, _, rfl, D, R, bs, as, _, _, rfl, rfl, rows2_of (hD2.mono s27), rows2_of (hR2.mono s27), dis, rfl, _, rfl, ?_⟩
    rw [rows_same]
    refine iteF ?_
    have hl26 := rows_lenW fz
    refine ⟨_, rfl, _, rfl, by omega, .inr ⟨_, fz, rfl, fun m zs e _ TT DD cs H8 s8 hTT hDD fr8 hDD0 => ?_, fun nt => absurd tr nt⟩⟩
    injection e with e1 e2
    injection e1 with e1
    subst e1; subst e2
    have hR7 := hR2.mono s27
    refine ⟨_, rfl, _, rfl, by show 2 ≤ sizeLine; exact len12 (by decide), fun T2 hT2 => ?_⟩
    have w9 := same_upd (o := .tup [V.int n, V.ref R]) hT2
    have u9 : (upd H8 T2 (.tup [V.int n, V.ref R])) T2 = some (.tup [V.int n, V.ref R]) := upd_same
    generalize upd H8 T2 (.tup [V.int n, V.ref R]) = H9 at w9 u9 ⊢
    have s29 := (s27.trans s8).trans w9
    refine ⟨TT, T2, DD, R, n, cs, as, _, rfl, rfl, SqT.of (w9 _ _ hTT), SqT.of u9, rows2_of (hDD.mono w9), rows2_of (hR2.mono s29), (fun p hp => hR7.freshR (fr8 p hp)), (ne_of_none hR7.top hDD0).symm, rows_same _, ?_⟩
    refine ⟨_, rfl, iteF ?_⟩
    have s19 := s1.trans (s2.trans s29)
    refine ⟨_, rfl, a, ns, 2, rfl, s19.seq hSc, ?_⟩
    have hc := bits_getD hb 2
    generalize ns.getD 2 0 = c at hc ⊢
    have hR9 := hR2.mono s29
    refine ⟨_, rfl, by show 1 ≤ sizeLine; exact len12 (by decide), fun Y1 hY1 => ⟨by show 1 ≤ sizeLine; exact len12 (by decide), fun Y2 hY2 => ?_⟩⟩
    have wA := same_upd (o := .lst [V.int n]) hY1
    have uA : (upd H9 Y1 (.lst [V.int n])) Y1 = some (.lst (zV [(n : Int)])) := upd_same
    generalize upd H9 Y1 (.lst [V.int n]) = HA at wA uA hY2 ⊢
    have wB := same_upd (o := .lst [V.ref Y1]) hY2
    have uB : (upd HA Y2 (.lst [V.ref Y1])) Y2 = some (.lst [V.ref Y1]) := upd_same
    generalize upd HA Y2 (.lst [V.ref Y1]) = HB at wB uB ⊢
    have hRB := (hR9.mono wA).mono wB
    refine ⟨_, rfl, Y2, R, _, _, rfl, rfl, uB, hRB.top, by rw [List.length_map]; exact len2000 (by show 1 + as.length ≤ _; omega), fun Y3 hY3 => ?_⟩
    have wC := same_upd (o := .lst ([V.ref Y1] ++ as.map V.ref)) hY3
    have uC : (upd HB Y3 (.lst ([V.ref Y1] ++ as.map V.ref))) Y3 = some (.lst ([V.ref Y1] ++ as.map V.ref)) := upd_same
    generalize upd HB Y3 (.lst ([V.ref Y1] ++ as.map V.ref)) = HC at wC uC ⊢
    have hRC := rows_of (hRB.mono wC) (wC _ _ (wB _ _ uA)) uC
    have rl : ([(n : Int)] :: rs.map rowI).length = rs.length + 1 := by rw [List.length_cons, List.length_map]
    refine ⟨_, rfl, Y3, _, _, c, rfl, hRC, by omega, by omega, row3, hc, fun L ls zs HD sD hL fzs => ?_⟩
    have s9D := ((wA.trans wB).trans wC).trans sD
    refine ⟨_, rfl, L, ls, zs, rfl, hL, fzs, fun HE sE => ?_⟩
    have hLE := hL.mono sE
    have hRE := (hR9.mono s9D).mono sE
    have zl := fzs.2
    have ll := hL.len
    have tlen := rows_lenW fzs
    refine gset_go (σ0 := [some (.ref a), some (.int n), some (.ref R), some (.ref D), some (.str (rowsT zs)), some (.int c), some (.ref L), none, none]) rfl ?_
    refine nx_go ?_
    refine seqif_meet (fun σ' H' => ∃ v7 : Option V, σ' = [some (.ref a), some (.int n), some (.ref R), some (.ref D), some (.str (rowsT zs)), some (.int c), some (.ref L), v7, none]/\Same HE H') (fun nx hnx => ?_) (fun σ' HF ⟨v7, e, sF⟩ => ?_)
    · refine ⟨_, rfl, L, ls, zs, rfl, hLE, by omega, fun b HF sF hbt => ?_⟩
      refine ⟨_, rfl, ?_⟩
      have hLF := hLE.mono sF
      refine iteB (fun eb => ?_) (fun eb => ?_)
      · obtain ⟨m, zs', e, t'⟩ := hbt.mp eb
        subst e
        obtain ⟨p0, ls, rfl⟩ : ∃ p l, ls = p :: l := by
          cases ls with
          | nil => cases ll
          | cons p l => exact ⟨p, l, rfl⟩
        refine ⟨_, rfl, _, rfl, by omega, .inr ⟨_, fzs, rfl, fun m2 zs2 e _ TT DD cs HG sG hTT hDD fr hDD0 => ?_, fun nt => absurd ⟨m, zs', rfl, t'⟩ nt⟩⟩
        injection e with e1 e2
        injection e1 with e1
        subst e1; subst e2
        have hLG := hLF.mono sG
        refine ⟨_, rfl, _, _, _, _, rfl, .tup hTT, B.tt, _, rfl, iteF ?_⟩
        have hp0 : HG p0 = some (.lst (zV [m])) := hLG.row 0 p0 [m] rfl rfl
        refine ⟨_, rfl, _, rfl, L, _, _, _, rfl, rfl, SqL.of hLG.top, atI_int (by decide) rfl, p0, _, _, _, rfl, rfl, SqL.of hp0, atI_int (by decide) rfl, _, rfl, _, rfl, L, _, rfl, SqL.of hLG.top, fun S hS => ?_⟩
        rw [cut_tl]
        have wS := same_upd (o := .lst (ls.map V.ref)) hS
        have uS : (upd HG S (.lst (ls.map V.ref))) S = some (.lst (ls.map V.ref)) := upd_same
        generalize upd HG S (.lst (ls.map V.ref)) = HH at wS uS ⊢
        refine ⟨by show 2 ≤ sizeLine; exact len12 (by decide), fun T3 hT3 => ?_⟩
        have wT := same_upd (o := .tup [V.int m, V.ref S]) hT3
        have uT : (upd HH T3 (.tup [V.int m, V.ref S])) T3 = some (.tup [V.int m, V.ref S]) := upd_same
        generalize upd HH T3 (.tup [V.int m, V.ref S]) = HI at wT uT ⊢
        have sGI := wS.trans wT
        have hSI : RowsAt HI S ls zs' := RowsAt.tail (k := 1) (hLG.mono sGI) (wT _ _ uS)
        have dis2 : ∀ p ∈ cs, p ∉ ls := fun p hp hq => hLF.freshR (fr p hp) (List.mem_cons_of_mem _ hq)
        refine ⟨TT, T3, DD, S, m, cs, ls, _, rfl, rfl, SqT.of (sGI _ _ hTT), SqT.of uT, rows2_of (hDD.mono sGI), rows2_of hSI, dis2, (ne_of_none hDD.top hS), rows_same _, ?_⟩
        exact ⟨_, rfl, iteF (hnx _ _ ⟨_, rfl, (sF.trans sG).trans sGI⟩)⟩
      · have nt : ¬ TreeRows zs := fun t' => by have := hbt.mpr t'; rw [eb] at this; cases this
        refine ⟨_, rfl, _, rfl, _, rfl, false, 0, rowsT zs, n, R, rfl, .inr (.inl ⟨rfl, rfl, zs, fzs, rfl, nt⟩), fun L1 HG sG hL1 => ?_⟩
        refine ⟨by show 3 ≤ sizeLine; exact len12 (by decide), fun Z4 hZ4 => ?_⟩
        have wZ := same_upd (o := .lst [V.bl false, V.bl true, V.bl true]) hZ4
        refine ⟨L1, Z4, _, _, rfl, rfl, SqL.of (wZ _ _ hL1), SqL.of upd_same, rfl, rfl, _, rfl, ?_⟩
        refine iteF ?_
        generalize upd HG Z4 (.lst [V.bl false, V.bl true, V.bl true]) = HH at wZ ⊢
        have sFH := sG.trans wZ
        have hLH := hLF.mono sFH
        refine ⟨_, rfl, L, _, rfl, .inl (SqL.of hLH.top), _, _, rfl, rfl, _, rfl, ?_⟩
        rw [List.length_map, ll]
        refine iteD (fun g1 => ?_) (fun g1 => ?_)
        · obtain ⟨z0, zs', rfl⟩ : ∃ z l, zs = z :: l := by
            cases zs with
            | nil => exact absurd g1 (by decide)
            | cons z l => exact ⟨z, l, rfl⟩
          obtain ⟨p0, ls, rfl⟩ : ∃ p l, ls = p :: l := by
            cases ls with
            | nil => cases ll
            | cons p l => exact ⟨p, l, rfl⟩
          have hp0 : HH p0 = some (.lst (zV z0)) := hLH.row 0 p0 z0 rfl rfl
          refine ⟨_, rfl, L, _, _, _, rfl, rfl, SqL.of hLH.top, atI_int (by decide) rfl, p0, _, rfl, .inl (SqL.of hp0), rfl, _, rfl, ?_⟩
          rw [dec_vint, zV_length]
          refine iteD (fun g2 => ?_) (fun g2 => ?_)
          · obtain ⟨m, rfl⟩ : ∃ m, z0 = [m] := by
              match z0, (show z0.length = 1 by omega) with
              | [m], _ => exact ⟨m, rfl⟩
            refine ⟨_, rfl, _, rfl, L, _, _, _, rfl, rfl, SqL.of hLH.top, atI_int (by decide) rfl, p0, _, _, _, rfl, rfl, SqL.of hp0, atI_int (by decide) rfl, _, rfl, _, rfl, L, _, rfl, SqL.of hLH.top, fun S hS => ?_⟩
            rw [cut_tl]
            have wS := same_upd (o := .lst (ls.map V.ref)) hS
            have uS : (upd HH S (.lst (ls.map V.ref))) S = some (.lst (ls.map V.ref)) := upd_same
            generalize upd HH S (.lst (ls.map V.ref)) = HI at wS uS ⊢
            have hSI : RowsAt HI S ls zs' := RowsAt.tail (k := 1) (hLH.mono wS) uS
            refine ⟨false, 1, _, m, S, rfl, .inr (.inr ⟨rfl, by decide, ls, zs', hSI, by rw [List.length_cons] at zl; omega, fun t' => nt ⟨m, zs', rfl, t'⟩⟩), fun L2 HJ sJ hL2 => ?_⟩
            refine ⟨by show 3 ≤ sizeLine; exact len12 (by decide), fun Z5 hZ5 => ?_⟩
            have wY := same_upd (o := .lst [V.bl false, V.bl true, V.bl true]) hZ5
            refine ⟨L2, Z5, _, _, rfl, rfl, SqL.of (wY _ _ hL2), SqL.of upd_same, rfl, rfl, _, rfl, ?_⟩
            exact iteF (hnx _ _ ⟨_, rfl, (((sF.trans sFH).trans wS).trans sJ).trans wY⟩)
          · exact hnx _ _ ⟨_, rfl, sF.trans sFH⟩
        · exact hnx _ _ ⟨_, rfl, sF.trans sFH⟩
    · subst e
      have c0 := Int.emod_nonneg (mixF c 14) (show (6 : Int) ≠ 0 by decide)
      have c1 := Int.emod_lt_of_pos (mixF c 14) (show (0 : Int) < 6 by decide)
      refine ⟨_, rfl, by show 6 ≤ sizeLine; exact len12 (by decide), fun Z hZ => ?_⟩
      have wZ := same_upd (o := .lst [V.str (" " : Str), V.str (" /" : Str), V.str ("x" : Str), V.str (" +1" : Str), V.str (" -0" : Str), V.str ("." : Str)]) hZ
      have uZ : (upd HF Z (.lst [V.str (" " : Str), V.str (" /" : Str), V.str ("x" : Str), V.str (" +1" : Str), V.str (" -0" : Str), V.str ("." : Str)])) Z = some (.lst ([(" " : Str), " /", "x", " +1", " -0", "."].map V.str)) := upd_same
      obtain ⟨v, hv, sq, atv, _⟩ := pick_list (K := K) uZ c0 (by rw [List.length_map]; show mixF c 14 % 6 < 6; omega)
      obtain ⟨x, hx, rfl⟩ := List.mem_map.mp hv
      have hc' : intBits c ≤ 2 ^ 21 := Nat.le_trans hc (by decide)
      refine ⟨_, rfl, _, _, rfl, hc', by decide, by decide, _, _, rfl, rfl, (by show (0 : Int) < 6; decide), Z, _, _, _, rfl, rfl, sq, atv, ?_⟩
      obtain ⟨n1, n2⟩ := spoilt fzs hx
      have lx : x.length ≤ 3 := by
        simp only [List.mem_cons, List.not_mem_nil, or_false] at hx
        rcases hx with rfl | rfl | rfl | rfl | rfl | rfl <;> decide
      have ly : (rowsT zs ++ x).length ≤ 8000 := by
        have := str_app_toList (rowsT zs) x
        have h2 := congrArg List.length this
        rw [List.length_append, lenS, lenS, lenS] at h2
        omega
      clear atv sq hv uZ
      generalize upd HF Z (.lst [V.str (" " : Str), V.str (" /" : Str), V.str ("x" : Str), V.str (" +1" : Str), V.str (" -0" : Str), V.str ("." : Str)]) = HG at wZ ⊢
      refine ⟨_, _, rfl, rfl, len8000 (by omega), ?_⟩
      refine ⟨_, rfl, _, rfl, _, rfl, true, 0, rowsT zs ++ x, n, R, rfl, .inl ⟨rfl, rfl, ly, n1, n2⟩, fun L1 HH sH hL1 => ?_⟩
      refine ⟨by show 3 ≤ sizeLine; exact len12 (by decide), fun Z4 hZ4 => ?_⟩
      have w4 := same_upd (o := .lst [V.bl true, V.bl false, V.bl true]) hZ4
      exact ⟨L1, Z4, _, _, rfl, rfl, SqL.of (w4 _ _ hL1), SqL.of upd_same, rfl, rfl, k _⟩
end
end Tw
namespace Tw
open PySem L2
theorem def_mk {K : PySem.W.Frag} {h : Heap} {mg : Str->Option Value} {x : Str} {st : Stmt} {ps : List Str} {f : Addr} {oc : Value} {od an : Option Addr} {osl : Array (Option Value)} {kV doc pm cdv ct : Value} (X : K.In h) (G : h.Ns mainGlobals mg) (a : PySem.W.nsIn K mainGlobals x = some (some (.ref f))) (l : K.lookup f = some ⟨oc, od, .func (PySem.W.fnOf x x (defArgs st) (defBody st) (defScope st) .none kV doc pm an cdv ct), osl⟩) (c : PySem.W.codeIn K cdv x = true) (k : PySem.W.keepIn K (.ref f) = true) (b : ∀ (kV doc pm : Value) (an : Option Addr) (cdv ct : Value) (us : List Value), us.length = ps.length->bindArgs (PySem.W.fnOf x x (defArgs st) (defBody st) (defScope st) .none kV doc pm an cdv ct) ⟨us, []⟩ = pure (ps.zip us)) : Def K mg x st ps f (PySem.W.fnOf x x (defArgs st) (defBody st) (defScope st) .none kV doc pm an cdv ct) := ⟨fun_mk l c k, (fun_mk l c k).binds b, PySem.W.mg_of X G a⟩
theorem all_mk {l : PySem.W.OpenLaw} {w : World} {K : PySem.W.Frag} {h : Heap} {mg : Str->Option Value} {fa fW fP fRD fI fC fN fS fAF fIN fRN fRR fRS fSR fSW fRT fST fM fA fE fZ fH fT fSH fBE fIT fRF fX eNT eNX eTE eNP eNR eNS eNI eNY eNW eNG eNK eNQ eNO eNN : Addr} (X : K.In h) (G : h.Ns mainGlobals mg) (hfa : mg "law" = some (.ref fa))
    {odW anW odP anP odRD anRD odI anI odC anC odN anN odS anS odAF anAF odIN anIN odRN anRN odRR anRR odRS anRS odSR anSR odSW anSW odRT anRT odST anST odM anM odA anA odE anE odZ anZ odH anH odT anT odSH anSH odBE anBE odIT anIT odRF anRF odX anX : Option Addr} {slW slP slRD slI slC slN slS slAF slIN slRN slRR slRS slSR slSW slRT slST slM slA slE slZ slH slT slSH slBE slIT slRF slX : Array (Option Value)}
    {ocW kVW dcW pmW cdW ctW ocP kVP dcP pmP cdP ctP ocRD kVRD dcRD pmRD cdRD ctRD ocI kVI dcI pmI cdI ctI ocC kVC dcC pmC cdC ctC ocN kVN dcN pmN cdN ctN ocS kVS dcS pmS cdS ctS ocAF kVAF dcAF pmAF cdAF ctAF ocIN kVIN dcIN pmIN cdIN ctIN ocRN kVRN dcRN pmRN cdRN ctRN ocRR kVRR dcRR pmRR cdRR ctRR ocRS kVRS dcRS pmRS cdRS ctRS ocSR kVSR dcSR pmSR cdSR ctSR ocSW kVSW dcSW pmSW cdSW ctSW ocRT kVRT dcRT pmRT cdRT ctRT ocST kVST dcST pmST cdST ctST ocM kVM dcM pmM cdM ctM ocA kVA dcA pmA cdA ctA ocE kVE dcE pmE cdE ctE ocZ kVZ dcZ pmZ cdZ ctZ ocH kVH dcH pmH cdH ctH ocT kVT dcT pmT cdT ctT ocSH kVSH dcSH pmSH cdSH ctSH ocBE kVBE dcBE pmBE cdBE ctBE ocIT kVIT dcIT pmIT cdIT ctIT ocRF kVRF dcRF pmRF cdRF ctRF ocX kVX dcX pmX cdX ctX : Value}
    (aW : PySem.W.nsIn K mainGlobals "is_whole" = some (some (.ref fW))) (lW : K.lookup fW = some ⟨ocW, odW, .func (PySem.W.fnOf "is_whole" "is_whole" (defArgs sWhole) (defBody sWhole) (defScope sWhole) .none kVW dcW pmW anW cdW ctW), slW⟩) (cW : PySem.W.codeIn K cdW "is_whole" = true) (kW : PySem.W.keepIn K (.ref fW) = true)
    (aP : PySem.W.nsIn K mainGlobals "is_place" = some (some (.ref fP))) (lP : K.lookup fP = some ⟨ocP, odP, .func (PySem.W.fnOf "is_place" "is_place" (defArgs sPlace) (defBody sPlace) (defScope sPlace) .none kVP dcP pmP anP cdP ctP), slP⟩) (cP : PySem.W.codeIn K cdP "is_place" = true) (kP : PySem.W.keepIn K (.ref fP) = true)
    (aRD : PySem.W.nsIn K mainGlobals "is_road" = some (some (.ref fRD))) (lRD : K.lookup fRD = some ⟨ocRD, odRD, .func (PySem.W.fnOf "is_road" "is_road" (defArgs sRoad) (defBody sRoad) (defScope sRoad) .none kVRD dcRD pmRD anRD cdRD ctRD), slRD⟩) (cRD : PySem.W.codeIn K cdRD "is_road" = true) (kRD : PySem.W.keepIn K (.ref fRD) = true)
    (aI : PySem.W.nsIn K mainGlobals "is_tree" = some (some (.ref fI))) (lI : K.lookup fI = some ⟨ocI, odI, .func (PySem.W.fnOf "is_tree" "is_tree" (defArgs sIsTree) (defBody sIsTree) (defScope sIsTree) .none kVI dcI pmI anI cdI ctI), slI⟩) (cI : PySem.W.codeIn K cdI "is_tree" = true) (kI : PySem.W.keepIn K (.ref fI) = true)
    (aC : PySem.W.nsIn K mainGlobals "check_tree" = some (some (.ref fC))) (lC : K.lookup fC = some ⟨ocC, odC, .func (PySem.W.fnOf "check_tree" "check_tree" (defArgs sCheck) (defBody sCheck) (defScope sCheck) .none kVC dcC pmC anC cdC ctC), slC⟩) (cC : PySem.W.codeIn K cdC "check_tree" = true) (kC : PySem.W.keepIn K (.ref fC) = true)
    (aN : PySem.W.nsIn K mainGlobals "neighbours" = some (some (.ref fN))) (lN : K.lookup fN = some ⟨ocN, odN, .func (PySem.W.fnOf "neighbours" "neighbours" (defArgs sNear) (defBody sNear) (defScope sNear) .none kVN dcN pmN anN cdN ctN), slN⟩) (cN : PySem.W.codeIn K cdN "neighbours" = true) (kN : PySem.W.keepIn K (.ref fN) = true)
    (aS : PySem.W.nsIn K mainGlobals "steps_to" = some (some (.ref fS))) (lS : K.lookup fS = some ⟨ocS, odS, .func (PySem.W.fnOf "steps_to" "steps_to" (defArgs sSteps) (defBody sSteps) (defScope sSteps) .none kVS dcS pmS anS cdS ctS), slS⟩) (cS : PySem.W.codeIn K cdS "steps_to" = true) (kS : PySem.W.keepIn K (.ref fS) = true)
    (aAF : PySem.W.nsIn K mainGlobals "are_figures" = some (some (.ref fAF))) (lAF : K.lookup fAF = some ⟨ocAF, odAF, .func (PySem.W.fnOf "are_figures" "are_figures" (defArgs sAreFigures) (defBody sAreFigures) (defScope sAreFigures) .none kVAF dcAF pmAF anAF cdAF ctAF), slAF⟩) (cAF : PySem.W.codeIn K cdAF "are_figures" = true) (kAF : PySem.W.keepIn K (.ref fAF) = true)
    (aIN : PySem.W.nsIn K mainGlobals "is_number" = some (some (.ref fIN))) (lIN : K.lookup fIN = some ⟨ocIN, odIN, .func (PySem.W.fnOf "is_number" "is_number" (defArgs sIsNumber) (defBody sIsNumber) (defScope sIsNumber) .none kVIN dcIN pmIN anIN cdIN ctIN), slIN⟩) (cIN : PySem.W.codeIn K cdIN "is_number" = true) (kIN : PySem.W.keepIn K (.ref fIN) = true)
    (aRN : PySem.W.nsIn K mainGlobals "read_number" = some (some (.ref fRN))) (lRN : K.lookup fRN = some ⟨ocRN, odRN, .func (PySem.W.fnOf "read_number" "read_number" (defArgs sReadNumber) (defBody sReadNumber) (defScope sReadNumber) .none kVRN dcRN pmRN anRN cdRN ctRN), slRN⟩) (cRN : PySem.W.codeIn K cdRN "read_number" = true) (kRN : PySem.W.keepIn K (.ref fRN) = true)
    (aRR : PySem.W.nsIn K mainGlobals "read_row" = some (some (.ref fRR))) (lRR : K.lookup fRR = some ⟨ocRR, odRR, .func (PySem.W.fnOf "read_row" "read_row" (defArgs sReadRow) (defBody sReadRow) (defScope sReadRow) .none kVRR dcRR pmRR anRR cdRR ctRR), slRR⟩) (cRR : PySem.W.codeIn K cdRR "read_row" = true) (kRR : PySem.W.keepIn K (.ref fRR) = true)
    (aRS : PySem.W.nsIn K mainGlobals "read_rows" = some (some (.ref fRS))) (lRS : K.lookup fRS = some ⟨ocRS, odRS, .func (PySem.W.fnOf "read_rows" "read_rows" (defArgs sReadRows) (defBody sReadRows) (defScope sReadRows) .none kVRS dcRS pmRS anRS cdRS ctRS), slRS⟩) (cRS : PySem.W.codeIn K cdRS "read_rows" = true) (kRS : PySem.W.keepIn K (.ref fRS) = true)
    (aSR : PySem.W.nsIn K mainGlobals "shown_row" = some (some (.ref fSR))) (lSR : K.lookup fSR = some ⟨ocSR, odSR, .func (PySem.W.fnOf "shown_row" "shown_row" (defArgs sShownRow) (defBody sShownRow) (defScope sShownRow) .none kVSR dcSR pmSR anSR cdSR ctSR), slSR⟩) (cSR : PySem.W.codeIn K cdSR "shown_row" = true) (kSR : PySem.W.keepIn K (.ref fSR) = true)
    (aSW : PySem.W.nsIn K mainGlobals "shown_rows" = some (some (.ref fSW))) (lSW : K.lookup fSW = some ⟨ocSW, odSW, .func (PySem.W.fnOf "shown_rows" "shown_rows" (defArgs sShownRows) (defBody sShownRows) (defScope sShownRows) .none kVSW dcSW pmSW anSW cdSW ctSW), slSW⟩) (cSW : PySem.W.codeIn K cdSW "shown_rows" = true) (kSW : PySem.W.keepIn K (.ref fSW) = true)
    (aRT : PySem.W.nsIn K mainGlobals "read_tree" = some (some (.ref fRT))) (lRT : K.lookup fRT = some ⟨ocRT, odRT, .func (PySem.W.fnOf "read_tree" "read_tree" (defArgs sReadTree) (defBody sReadTree) (defScope sReadTree) .none kVRT dcRT pmRT anRT cdRT ctRT), slRT⟩) (cRT : PySem.W.codeIn K cdRT "read_tree" = true) (kRT : PySem.W.keepIn K (.ref fRT) = true)
    (aST : PySem.W.nsIn K mainGlobals "shown_tree" = some (some (.ref fST))) (lST : K.lookup fST = some ⟨ocST, odST, .func (PySem.W.fnOf "shown_tree" "shown_tree" (defArgs sShownTree) (defBody sShownTree) (defScope sShownTree) .none kVST dcST pmST anST cdST ctST), slST⟩) (cST : PySem.W.codeIn K cdST "shown_tree" = true) (kST : PySem.W.keepIn K (.ref fST) = true)
    (aM : PySem.W.nsIn K mainGlobals "_law_mix" = some (some (.ref fM))) (lM : K.lookup fM = some ⟨ocM, odM, .func (PySem.W.fnOf "_law_mix" "_law_mix" (defArgs sMix) (defBody sMix) (defScope sMix) .none kVM dcM pmM anM cdM ctM), slM⟩) (cM : PySem.W.codeIn K cdM "_law_mix" = true) (kM : PySem.W.keepIn K (.ref fM) = true)
    (aA : PySem.W.nsIn K mainGlobals "_law_cell_at" = some (some (.ref fA))) (lA : K.lookup fA = some ⟨ocA, odA, .func (PySem.W.fnOf "_law_cell_at" "_law_cell_at" (defArgs sCell) (defBody sCell) (defScope sCell) .none kVA dcA pmA anA cdA ctA), slA⟩) (cA : PySem.W.codeIn K cdA "_law_cell_at" = true) (kA : PySem.W.keepIn K (.ref fA) = true)
    (aE : PySem.W.nsIn K mainGlobals "_law_older" = some (some (.ref fE))) (lE : K.lookup fE = some ⟨ocE, odE, .func (PySem.W.fnOf "_law_older" "_law_older" (defArgs sOlder) (defBody sOlder) (defScope sOlder) .none kVE dcE pmE anE cdE ctE), slE⟩) (cE : PySem.W.codeIn K cdE "_law_older" = true) (kE : PySem.W.keepIn K (.ref fE) = true)
    (aZ : PySem.W.nsIn K mainGlobals "_law_size" = some (some (.ref fZ))) (lZ : K.lookup fZ = some ⟨ocZ, odZ, .func (PySem.W.fnOf "_law_size" "_law_size" (defArgs sSize) (defBody sSize) (defScope sSize) .none kVZ dcZ pmZ anZ cdZ ctZ), slZ⟩) (cZ : PySem.W.codeIn K cdZ "_law_size" = true) (kZ : PySem.W.keepIn K (.ref fZ) = true)
    (aH : PySem.W.nsIn K mainGlobals "_law_hung" = some (some (.ref fH))) (lH : K.lookup fH = some ⟨ocH, odH, .func (PySem.W.fnOf "_law_hung" "_law_hung" (defArgs sHung) (defBody sHung) (defScope sHung) .none kVH dcH pmH anH cdH ctH), slH⟩) (cH : PySem.W.codeIn K cdH "_law_hung" = true) (kH : PySem.W.keepIn K (.ref fH) = true)
    (aT : PySem.W.nsIn K mainGlobals "_law_tree" = some (some (.ref fT))) (lT : K.lookup fT = some ⟨ocT, odT, .func (PySem.W.fnOf "_law_tree" "_law_tree" (defArgs sTree) (defBody sTree) (defScope sTree) .none kVT dcT pmT anT cdT ctT), slT⟩) (cT : PySem.W.codeIn K cdT "_law_tree" = true) (kT : PySem.W.keepIn K (.ref fT) = true)
    (aSH : PySem.W.nsIn K mainGlobals "_law_shown" = some (some (.ref fSH))) (lSH : K.lookup fSH = some ⟨ocSH, odSH, .func (PySem.W.fnOf "_law_shown" "_law_shown" (defArgs sShown) (defBody sShown) (defScope sShown) .none kVSH dcSH pmSH anSH cdSH ctSH), slSH⟩) (cSH : PySem.W.codeIn K cdSH "_law_shown" = true) (kSH : PySem.W.keepIn K (.ref fSH) = true)
    (aBE : PySem.W.nsIn K mainGlobals "_law_bent" = some (some (.ref fBE))) (lBE : K.lookup fBE = some ⟨ocBE, odBE, .func (PySem.W.fnOf "_law_bent" "_law_bent" (defArgs sBent) (defBody sBent) (defScope sBent) .none kVBE dcBE pmBE anBE cdBE ctBE), slBE⟩) (cBE : PySem.W.codeIn K cdBE "_law_bent" = true) (kBE : PySem.W.keepIn K (.ref fBE) = true)
    (aIT : PySem.W.nsIn K mainGlobals "_law_is_tree" = some (some (.ref fIT))) (lIT : K.lookup fIT = some ⟨ocIT, odIT, .func (PySem.W.fnOf "_law_is_tree" "_law_is_tree" (defArgs sLIsTree) (defBody sLIsTree) (defScope sLIsTree) .none kVIT dcIT pmIT anIT cdIT ctIT), slIT⟩) (cIT : PySem.W.codeIn K cdIT "_law_is_tree" = true) (kIT : PySem.W.keepIn K (.ref fIT) = true)
    (aRF : PySem.W.nsIn K mainGlobals "_law_refused" = some (some (.ref fRF))) (lRF : K.lookup fRF = some ⟨ocRF, odRF, .func (PySem.W.fnOf "_law_refused" "_law_refused" (defArgs sRefused) (defBody sRefused) (defScope sRefused) .none kVRF dcRF pmRF anRF cdRF ctRF), slRF⟩) (cRF : PySem.W.codeIn K cdRF "_law_refused" = true) (kRF : PySem.W.keepIn K (.ref fRF) = true)
    (aX : PySem.W.nsIn K mainGlobals "law" = some (some (.ref fX))) (lX : K.lookup fX = some ⟨ocX, odX, .func (PySem.W.fnOf "law" "law" (defArgs sLaw) (defBody sLaw) (defScope sLaw) .none kVX dcX pmX anX cdX ctX), slX⟩) (cX : PySem.W.codeIn K cdX "law" = true) (kX : PySem.W.keepIn K (.ref fX) = true)
    (eaNT : PySem.W.nsIn K mainGlobals "NoTree" = some (some (.ref eNT)))
    (ecNT : PySem.W.excIn K eNT veB "ValueError.__new__" = true)
    (egNT : PySem.W.findIn K (.ref eNT) "__getattribute__" = some (some (.builtin "BaseException.__getattribute__")))
    (ehNT : PySem.W.findIn K (.ref eNT) "__getattr__" = some none)
    (eiNT : PySem.W.findIn K (.ref eNT) "__class__" = some (some (.builtin "object.__class__")))
    (ejNT : PySem.W.mroIn K eNT (.type "object") = some true)
    (ekNT : PySem.W.mroIn K eNT (.type "BaseException") = some true)
    (eaNX : PySem.W.nsIn K mainGlobals "NoText" = some (some (.ref eNX)))
    (ecNX : PySem.W.excIn K eNX veB "ValueError.__new__" = true)
    (egNX : PySem.W.findIn K (.ref eNX) "__getattribute__" = some (some (.builtin "BaseException.__getattribute__")))
    (ehNX : PySem.W.findIn K (.ref eNX) "__getattr__" = some none)
    (eiNX : PySem.W.findIn K (.ref eNX) "__class__" = some (some (.builtin "object.__class__")))
    (ejNX : PySem.W.mroIn K eNX (.type "object") = some true)
    (ekNX : PySem.W.mroIn K eNX (.type "BaseException") = some true)
    (eaTE : PySem.W.nsIn K mainGlobals "TreeError" = some (some (.ref eTE)))
    (eaNP : PySem.W.nsIn K mainGlobals "NoPlace" = some (some (.ref eNP)))
    (eaNR : PySem.W.nsIn K mainGlobals "NoRoad" = some (some (.ref eNR)))
    (eaNS : PySem.W.nsIn K mainGlobals "NoSpot" = some (some (.ref eNS)))
    (eaNI : PySem.W.nsIn K mainGlobals "NoSite" = some (some (.ref eNI)))
    (eaNY : PySem.W.nsIn K mainGlobals "NoYard" = some (some (.ref eNY)))
    (eaNW : PySem.W.nsIn K mainGlobals "NoWorth" = some (some (.ref eNW)))
    (eaNG : PySem.W.nsIn K mainGlobals "NoGift" = some (some (.ref eNG)))
    (eaNK : PySem.W.nsIn K mainGlobals "NoKind" = some (some (.ref eNK)))
    (eaNQ : PySem.W.nsIn K mainGlobals "NoQuestion" = some (some (.ref eNQ)))
    (eaNO : PySem.W.nsIn K mainGlobals "NoRow" = some (some (.ref eNO)))
    (eaNN : PySem.W.nsIn K mainGlobals "NoName" = some (some (.ref eNN)))
    (zstr : PySem.W.nsIn K mainGlobals "str" = some none)
    (zVE : PySem.W.nsIn K mainGlobals "ValueError" = some none)
    (c0 : PySem.W.exmOne K (.ref eNX) (.ref eTE) = some true)
    (c1 : PySem.W.kitAny K (.ref eNX) [.ref eNI, .ref eNP, .ref eNR] = some false)
    (c2 : PySem.W.kitAny K (.ref eNX) [.ref eNS, .ref eNY, .ref eNW] = some false)
    (c3 : PySem.W.kitAny K (.ref eNX) [.ref eNG, .ref eNK, .ref eNQ] = some false)
    (c4 : PySem.W.kitAny K (.ref eNX) [.ref eNO, .ref eNN] = some false)
    (c5 : PySem.W.kitOne K (.ref eNX) (.ref eNX) = some true)
    (c6 : PySem.W.kitOne K (.ref eNX) (.ref eNT) = some false)
    (c7 : PySem.W.kitOne K (.ref eNX) (.type "ValueError") = some true)
    (d0 : PySem.W.exmOne K (.ref eNT) (.ref eTE) = some true)
    (d1 : PySem.W.kitAny K (.ref eNT) [.ref eNI, .ref eNP, .ref eNR] = some false)
    (d2 : PySem.W.kitAny K (.ref eNT) [.ref eNS, .ref eNY, .ref eNW] = some false)
    (d3 : PySem.W.kitAny K (.ref eNT) [.ref eNG, .ref eNK, .ref eNQ] = some false)
    (d4 : PySem.W.kitAny K (.ref eNT) [.ref eNO, .ref eNN] = some false)
    (d5 : PySem.W.kitOne K (.ref eNT) (.ref eNX) = some false)
    (d6 : PySem.W.kitOne K (.ref eNT) (.ref eNT) = some true)
    (d7 : PySem.W.kitOne K (.ref eNT) (.type "ValueError") = some true)
    (zisinstance : PySem.W.nsIn K mainGlobals "isinstance" = some none)
    (zint : PySem.W.nsIn K mainGlobals "int" = some none)
    (zbool : PySem.W.nsIn K mainGlobals "bool" = some none)
    (zlist : PySem.W.nsIn K mainGlobals "list" = some none)
    (zlen : PySem.W.nsIn K mainGlobals "len" = some none)
    (zall : PySem.W.nsIn K mainGlobals "all" = some none)
    (zsum : PySem.W.nsIn K mainGlobals "sum" = some none)
    (zrange : PySem.W.nsIn K mainGlobals "range" = some none)
    (zmax : PySem.W.nsIn K mainGlobals "max" = some none)
    (zmin : PySem.W.nsIn K mainGlobals "min" = some none)
    (zset : PySem.W.nsIn K mainGlobals "set" = some none)
    (zsorted : PySem.W.nsIn K mainGlobals "sorted" = some none)
    (zzip : PySem.W.nsIn K mainGlobals "zip" = some none)
    (zany : PySem.W.nsIn K mainGlobals "any" = some none)
    (zdict : PySem.W.nsIn K mainGlobals "dict" = some none)
    (zreversed : PySem.W.nsIn K mainGlobals "reversed" = some none)
    (ztuple : PySem.W.nsIn K mainGlobals "tuple" = some none)
    {tzF : Tok} (zF : PySem.W.nsIn K mainGlobals "FIGURES" = some (some (.str "0123456789" tzF)))
    {tzN : Tok} (zN : PySem.W.nsIn K mainGlobals "MOST_FIGURES" = some (some (.int 60 tzN)))
    {tm : Tok} (zM : PySem.W.nsIn K mainGlobals "MOST_PLACES" = some (some (.int 12 tm)))
    (ii : PySem.W.kitOne K (.type "int") (.type "int") = some true) (ib : PySem.W.kitOne K (.type "int") (.type "bool") = some false) (ll : PySem.W.kitOne K (.type "list") (.type "list") = some true) (bb : PySem.W.kitOne K (.type "bool") (.type "bool") = some true) (tt : PySem.W.kitOne K (.type "tuple") (.type "tuple") = some true) :
    ∃ fd : FuncData, (∀ (s : Shared) (v : Value), BindsTo s fd ⟨[v], []⟩ [("_law_script", v)])/\∀ base : Heap, K.In base->base.Ns mainGlobals mg->FnOk l.prog w K mg base CX0 8 fa fd ["_law_script"] (spLaw K) := by
  have e := hfa.symm.trans (PySem.W.mg_of X G aX)
  cases e
  have B : Bi K mg := ⟨PySem.W.mg_none_of X G zisinstance, PySem.W.mg_none_of X G zint, PySem.W.mg_none_of X G zbool, PySem.W.mg_none_of X G zlist, PySem.W.mg_none_of X G zlen, PySem.W.mg_none_of X G zall, PySem.W.mg_none_of X G zsum, PySem.W.mg_none_of X G zrange, PySem.W.mg_none_of X G zmax, PySem.W.mg_none_of X G zmin, PySem.W.mg_none_of X G zset, PySem.W.mg_none_of X G zsorted, PySem.W.mg_none_of X G zzip, PySem.W.mg_none_of X G zany, PySem.W.mg_none_of X G zdict, PySem.W.mg_none_of X G zreversed, PySem.W.mg_none_of X G ztuple, ii, ib, ll, bb, tt⟩
  have hM := PySem.W.mg_of X G zM
  have FW := def_mk (st := sWhole) (ps := ["value"]) X G aW lW cW kW fun _ _ _ _ _ _ us hl => match us, hl with | [_], _ => rfl
  have FP := def_mk (st := sPlace) (ps := ["many", "value"]) X G aP lP cP kP fun _ _ _ _ _ _ us hl => match us, hl with | [_, _], _ => rfl
  have FRD := def_mk (st := sRoad) (ps := ["many", "row"]) X G aRD lRD cRD kRD fun _ _ _ _ _ _ us hl => match us, hl with | [_, _], _ => rfl
  have FI := def_mk (st := sIsTree) (ps := ["many", "roads"]) X G aI lI cI kI fun _ _ _ _ _ _ us hl => match us, hl with | [_, _], _ => rfl
  have FC := def_mk (st := sCheck) (ps := ["many", "roads"]) X G aC lC cC kC fun _ _ _ _ _ _ us hl => match us, hl with | [_, _], _ => rfl
  have FN := def_mk (st := sNear) (ps := ["many", "roads"]) X G aN lN cN kN fun _ _ _ _ _ _ us hl => match us, hl with | [_, _], _ => rfl
  have FS := def_mk (st := sSteps) (ps := ["near", "goal"]) X G aS lS cS kS fun _ _ _ _ _ _ us hl => match us, hl with | [_, _], _ => rfl
  have FAF := def_mk (st := sAreFigures) (ps := ["text"]) X G aAF lAF cAF kAF fun _ _ _ _ _ _ us hl => match us, hl with | [_], _ => rfl
  have FIN := def_mk (st := sIsNumber) (ps := ["text"]) X G aIN lIN cIN kIN fun _ _ _ _ _ _ us hl => match us, hl with | [_], _ => rfl
  have FRN := def_mk (st := sReadNumber) (ps := ["text"]) X G aRN lRN cRN kRN fun _ _ _ _ _ _ us hl => match us, hl with | [_], _ => rfl
  have FRR := def_mk (st := sReadRow) (ps := ["text"]) X G aRR lRR cRR kRR fun _ _ _ _ _ _ us hl => match us, hl with | [_], _ => rfl
  have FRS := def_mk (st := sReadRows) (ps := ["text"]) X G aRS lRS cRS kRS fun _ _ _ _ _ _ us hl => match us, hl with | [_], _ => rfl
  have FSR := def_mk (st := sShownRow) (ps := ["row"]) X G aSR lSR cSR kSR fun _ _ _ _ _ _ us hl => match us, hl with | [_], _ => rfl
  have FSW := def_mk (st := sShownRows) (ps := ["rows"]) X G aSW lSW cSW kSW fun _ _ _ _ _ _ us hl => match us, hl with | [_], _ => rfl
  have FRT := def_mk (st := sReadTree) (ps := ["text"]) X G aRT lRT cRT kRT fun _ _ _ _ _ _ us hl => match us, hl with | [_], _ => rfl
  have FST := def_mk (st := sShownTree) (ps := ["many", "roads"]) X G aST lST cST kST fun _ _ _ _ _ _ us hl => match us, hl with | [_, _], _ => rfl
  have FM := def_mk (st := sMix) (ps := ["_law_number", "_law_k"]) X G aM lM cM kM fun _ _ _ _ _ _ us hl => match us, hl with | [_, _], _ => rfl
  have FA := def_mk (st := sCell) (ps := ["_law_script", "_law_k"]) X G aA lA cA kA fun _ _ _ _ _ _ us hl => match us, hl with | [_, _], _ => rfl
  have FE := def_mk (st := sOlder) (ps := ["_law_cell", "_law_k"]) X G aE lE cE kE fun _ _ _ _ _ _ us hl => match us, hl with | [_, _], _ => rfl
  have FZ := def_mk (st := sSize) (ps := ["_law_cell", "_law_k"]) X G aZ lZ cZ kZ fun _ _ _ _ _ _ us hl => match us, hl with | [_, _], _ => rfl
  have FH := def_mk (st := sHung) (ps := ["_law_roads", "_law_many", "_law_cell"]) X G aH lH cH kH fun _ _ _ _ _ _ us hl => match us, hl with | [_, _, _], _ => rfl
  have FT := def_mk (st := sTree) (ps := ["_law_script"]) X G aT lT cT kT fun _ _ _ _ _ _ us hl => match us, hl with | [_], _ => rfl
  have FSH := def_mk (st := sShown) (ps := ["_law_rows"]) X G aSH lSH cSH kSH fun _ _ _ _ _ _ us hl => match us, hl with | [_], _ => rfl
  have FBE := def_mk (st := sBent) (ps := ["_law_rows", "_law_cell"]) X G aBE lBE cBE kBE fun _ _ _ _ _ _ us hl => match us, hl with | [_, _], _ => rfl
  have FIT := def_mk (st := sLIsTree) (ps := ["_law_rows"]) X G aIT lIT cIT kIT fun _ _ _ _ _ _ us hl => match us, hl with | [_], _ => rfl
  have FRF := def_mk (st := sRefused) (ps := ["_law_which", "_law_text", "_law_many", "_law_roads"]) X G aRF lRF cRF kRF fun _ _ _ _ _ _ us hl => match us, hl with | [_, _, _, _], _ => rfl
  have FX := def_mk (st := sLaw) (ps := ["_law_script"]) X G aX lX cX kX fun _ _ _ _ _ _ us hl => match us, hl with | [_], _ => rfl
  have ENT : Err K mg "NoTree" eNT := err_mk X G eaNT ecNT egNT ehNT eiNT ejNT ekNT
  have ENX : Err K mg "NoText" eNX := err_mk X G eaNX ecNX egNX ehNX eiNX ejNX ekNX
  have ETE : Nam mg "TreeError" eTE := ⟨PySem.W.mg_of X G eaTE⟩
  have ENP : Nam mg "NoPlace" eNP := ⟨PySem.W.mg_of X G eaNP⟩
  have ENR : Nam mg "NoRoad" eNR := ⟨PySem.W.mg_of X G eaNR⟩
  have ENS : Nam mg "NoSpot" eNS := ⟨PySem.W.mg_of X G eaNS⟩
  have ENI : Nam mg "NoSite" eNI := ⟨PySem.W.mg_of X G eaNI⟩
  have ENY : Nam mg "NoYard" eNY := ⟨PySem.W.mg_of X G eaNY⟩
  have ENW : Nam mg "NoWorth" eNW := ⟨PySem.W.mg_of X G eaNW⟩
  have ENG : Nam mg "NoGift" eNG := ⟨PySem.W.mg_of X G eaNG⟩
  have ENK : Nam mg "NoKind" eNK := ⟨PySem.W.mg_of X G eaNK⟩
  have ENQ : Nam mg "NoQuestion" eNQ := ⟨PySem.W.mg_of X G eaNQ⟩
  have ENO : Nam mg "NoRow" eNO := ⟨PySem.W.mg_of X G eaNO⟩
  have ENN : Nam mg "NoName" eNN := ⟨PySem.W.mg_of X G eaNN⟩
  refine ⟨PySem.W.fnOf "law" "law" (defArgs sLaw) (defBody sLaw) (defScope sLaw) .none kVX dcX pmX anX cdX ctX, fun s v => .of_eq rfl, fun base _ _ => ?_⟩
  have hS : mg "str" = none := PySem.W.mg_none_of X G zstr
  have hVE := PySem.W.mg_none_of X G zVE
  have hF := PySem.W.mg_of X G zF
  have hN := PySem.W.mg_of X G zN
  have GI : FnOk l.prog w K mg base CX0 4 fI _ ["many", "roads"] spIsTree := ok_istree FI FW FP FRD FN FS B hM
  have GC : FnOk l.prog w K mg base (CXE l.prog w) 5 fC _ ["many", "roads"] (spCheckB eNT) := ok_checkB FC FI GI ENT
  have GAF : FnOk l.prog w K mg base CX0 1 fAF _ ["text"] spFigsB := ok_figsB FAF hF hN B
  have GIN : FnOk l.prog w K mg base CX0 2 fIN _ ["text"] spIsNumB := ok_isnumB FIN FAF GAF
  have GRN : FnOk l.prog w K mg base (CXE l.prog w) 3 fRN _ ["text"] (spReadNumB eNX) := ok_readnumB FRN FIN GIN ENX B
  have GRR : FnOk l.prog w K mg base (CXE l.prog w) 4 fRR _ ["text"] (spReadRowB eNX) := ok_readrowB FRR FRN GRN
  have GRS : FnOk l.prog w K mg base (CXE l.prog w) 5 fRS _ ["text"] (spReadRowsB eNX) := ok_readrowsB FRS FRR GRR
  have GSR : FnOk l.prog w K mg base CX0 1 fSR _ ["row"] spShowRow := ok_showrow FSR hS B
  have GSW : FnOk l.prog w K mg base CX0 2 fSW _ ["rows"] spShowRows := ok_showrows FSW FSR GSR B
  have GRT : FnOk l.prog w K mg base (CXE l.prog w) 6 fRT _ ["text"] (spReadTree eNX eNT) := rd_tree FRT FRS FC GRS GC ENT B
  have GST : FnOk l.prog w K mg base (CXE l.prog w) 6 fST _ ["many", "roads"] (spShowTree eNT) := sh_tree FST FC FSW GC GSW
  have GRF := ok_ref85 (P := l.prog) (w := w) (base := base) FRF FRT FST GRT GST ETE ENT ENP ENR ENS ENI ENY ENW ENG ENK ENQ ENO ENN ENX hVE ⟨c0, c1, c2, c3, c4, c5, c6, c7⟩ ⟨d0, d1, d2, d3, d4, d5, d6, d7⟩ B
  exact ok_law FX FT FSH FST FRT FA FBE FIT FRF FM (ok_tree FT FM FA FE FZ FH B) (ok_shown FSH hS B) GST GRT (ok_bent85 FBE FM B) (ok_ist FIT B) GRF B
end Tw
open PySem PySem.W PyProof.Rows
set_option maxRecDepth 100000 in
set_option maxHeartbeats 0 in
theorem PySem.Challenge.cw_treewells_k85_trees_as_texts_holds : PySem.Challenge.rw_treewells_k85_trees_as_texts.Holds := by
  w_on; o_law
  refine PySem.W.holds_open (q := KH.kView) (loose := []) (N := 7854)
    (XP := PySem.W.XL KH.kView []) (Xt := (fun s => PySem.W.xlAt KH.kView [] s &&
    PySem.W.recOk (PySem.W.RowW.records (PySem.W.OpenRow.toRowW PySem.Challenge.rw_treewells_k85_trees_as_texts.row)) s))
    (Yf := (PySem.W.kHook KH.kHeap KH.kAddrs KH.kAddrs_eq).obs) (Ya := (PySem.W.kHook KH.kHeap KH.kAddrs KH.kAddrs_eq).val) (YP := (PySem.W.kHook KH.kHeap KH.kAddrs KH.kAddrs_eq).says)
    KH.kLeft (PySem.W.Hook.of _) (PySem.W.Hook.keeps _)
    (fun s e => PySem.W.xl_of s (Bool.and_eq_true_iff.mp e).1)
    PySem.W.XL.keeps (by rfl) (by rfl) (by rfl)
    (fun s e => PySem.W.recFacts_of (Bool.and_eq_true_iff.mp e).2)
    (by rfl) (by first | assumption | decide +kernel)
    (by decide +kernel) ⟨rfl, rfl, rfl, rfl, rfl, by decide +kernel⟩ ?hw ?hc
  (case hw => w_witness2)
  k_fill
  refine L2.walk_bits (l := PySem.Challenge.rw_treewells_k85_trees_as_texts) (n := 63) (k := 8) (x := "_law_script") (CX := L2.CX0) (sp := Tw.spLaw) rfl (by decide) rfl ⟨rfl, by decide, by decide⟩ (fun w h Y => PySem.W.kIn_of Y) ?F ?S ?C
  case S => exact fun K H a ns hl hb _ hS => ⟨a, ns, rfl, hS, hb, hl, fun _ => rfl⟩
  case C => exact fun _ _ _ _ z => z
  case F =>
    intro w mg fa h KX G hmg
    refine' Tw.all_mk KX G hmg ?aW ?lW ?cW ?kW ?aP ?lP ?cP ?kP ?aRD ?lRD ?cRD ?kRD ?aI ?lI ?cI ?kI ?aC ?lC ?cC ?kC ?aN ?lN ?cN ?kN ?aS ?lS ?cS ?kS ?aAF ?lAF ?cAF ?kAF ?aIN ?lIN ?cIN ?kIN ?aRN ?lRN ?cRN ?kRN ?aRR ?lRR ?cRR ?kRR ?aRS ?lRS ?cRS ?kRS ?aSR ?lSR ?cSR ?kSR ?aSW ?lSW ?cSW ?kSW ?aRT ?lRT ?cRT ?kRT ?aST ?lST ?cST ?kST ?aM ?lM ?cM ?kM ?aA ?lA ?cA ?kA ?aE ?lE ?cE ?kE ?aZ ?lZ ?cZ ?kZ ?aH ?lH ?cH ?kH ?aT ?lT ?cT ?kT ?aSH ?lSH ?cSH ?kSH ?aBE ?lBE ?cBE ?kBE ?aIT ?lIT ?cIT ?kIT ?aRF ?lRF ?cRF ?kRF ?aX ?lX ?cX ?kX ?eaNT ?ecNT ?egNT ?ehNT ?eiNT ?ejNT ?ekNT ?eaNX ?ecNX ?egNX ?ehNX ?eiNX ?ejNX ?ekNX ?eaTE ?eaNP ?eaNR ?eaNS ?eaNI ?eaNY ?eaNW ?eaNG ?eaNK ?eaNQ ?eaNO ?eaNN ?zstr ?zVE ?c0 ?c1 ?c2 ?c3 ?c4 ?c5 ?c6 ?c7 ?d0 ?d1 ?d2 ?d3 ?d4 ?d5 ?d6 ?d7 ?zisinstance ?zint ?zbool ?zlist ?zlen ?zall ?zsum ?zrange ?zmax ?zmin ?zset ?zsorted ?zzip ?zany ?zdict ?zreversed ?ztuple ?zF ?zN ?zM ?ii ?ib ?ll ?bb ?tt
    (case aW => k_is)
    (case lW => k_is)
    (case cW => k_is)
    (case kW => k_is)
    (case aP => k_is)
    (case lP => k_is)
    (case cP => k_is)
    (case kP => k_is)
    (case aRD => k_is)
    (case lRD => k_is)
    (case cRD => k_is)
    (case kRD => k_is)
    (case aI => k_is)
    (case lI => k_is)
    (case cI => k_is)
    (case kI => k_is)
    (case aC => k_is)
    (case lC => k_is)
    (case cC => k_is)
    (case kC => k_is)
    (case aN => k_is)
    (case lN => k_is)
    (case cN => k_is)
    (case kN => k_is)
    (case aS => k_is)
    (case lS => k_is)
    (case cS => k_is)
    (case kS => k_is)
    (case aAF => k_is)
    (case lAF => k_is)
    (case cAF => k_is)
    (case kAF => k_is)
    (case aIN => k_is)
    (case lIN => k_is)
    (case cIN => k_is)
    (case kIN => k_is)
    (case aRN => k_is)
    (case lRN => k_is)
    (case cRN => k_is)
    (case kRN => k_is)
    (case aRR => k_is)
    (case lRR => k_is)
    (case cRR => k_is)
    (case kRR => k_is)
    (case aRS => k_is)
    (case lRS => k_is)
    (case cRS => k_is)
    (case kRS => k_is)
    (case aSR => k_is)
    (case lSR => k_is)
    (case cSR => k_is)
    (case kSR => k_is)
    (case aSW => k_is)
    (case lSW => k_is)
    (case cSW => k_is)
    (case kSW => k_is)
    (case aRT => k_is)
    (case lRT => k_is)
    (case cRT => k_is)
    (case kRT => k_is)
    (case aST => k_is)
    (case lST => k_is)
    (case cST => k_is)
    (case kST => k_is)
    (case aM => k_is)
    (case lM => k_is)
    (case cM => k_is)
    (case kM => k_is)
    (case aA => k_is)
    (case lA => k_is)
    (case cA => k_is)
    (case kA => k_is)
    (case aE => k_is)
    (case lE => k_is)
    (case cE => k_is)
    (case kE => k_is)
    (case aZ => k_is)
    (case lZ => k_is)
    (case cZ => k_is)
    (case kZ => k_is)
    (case aH => k_is)
    (case lH => k_is)
    (case cH => k_is)
    (case kH => k_is)
    (case aT => k_is)
    (case lT => k_is)
    (case cT => k_is)
    (case kT => k_is)
    (case aSH => k_is)
    (case lSH => k_is)
    (case cSH => k_is)
    (case kSH => k_is)
    (case aBE => k_is)
    (case lBE => k_is)
    (case cBE => k_is)
    (case kBE => k_is)
    (case aIT => k_is)
    (case lIT => k_is)
    (case cIT => k_is)
    (case kIT => k_is)
    (case aRF => k_is)
    (case lRF => k_is)
    (case cRF => k_is)
    (case kRF => k_is)
    (case aX => k_is)
    (case lX => k_is)
    (case cX => k_is)
    (case kX => k_is)
    (case eaNT => k_is)
    (case ecNT => first | k_is | kernel_rfl | rfl | decide +kernel)
    (case egNT => first | k_is | kernel_rfl | rfl | decide +kernel)
    (case ehNT => first | k_is | kernel_rfl | rfl | decide +kernel)
    (case eiNT => first | k_is | kernel_rfl | rfl | decide +kernel)
    (case ejNT => first | k_is | kernel_rfl | rfl | decide +kernel)
    (case ekNT => first | k_is | kernel_rfl | rfl | decide +kernel)
    (case eaNX => k_is)
    (case ecNX => first | k_is | kernel_rfl | rfl | decide +kernel)
    (case egNX => first | k_is | kernel_rfl | rfl | decide +kernel)
    (case ehNX => first | k_is | kernel_rfl | rfl | decide +kernel)
    (case eiNX => first | k_is | kernel_rfl | rfl | decide +kernel)
    (case ejNX => first | k_is | kernel_rfl | rfl | decide +kernel)
    (case ekNX => first | k_is | kernel_rfl | rfl | decide +kernel)
    (case eaTE => k_is)
    (case eaNP => k_is)
    (case eaNR => k_is)
    (case eaNS => k_is)
    (case eaNI => k_is)
    (case eaNY => k_is)
    (case eaNW => k_is)
    (case eaNG => k_is)
    (case eaNK => k_is)
    (case eaNQ => k_is)
    (case eaNO => k_is)
    (case eaNN => k_is)
    (case zstr => first | k_is | kernel_rfl | rfl | decide +kernel)
    (case zVE => first | k_is | kernel_rfl | rfl | decide +kernel)
    (case c0 => first | k_is | kernel_rfl | rfl | decide +kernel)
    (case c1 => first | k_is | kernel_rfl | rfl | decide +kernel)
    (case c2 => first | k_is | kernel_rfl | rfl | decide +kernel)
    (case c3 => first | k_is | kernel_rfl | rfl | decide +kernel)
    (case c4 => first | k_is | kernel_rfl | rfl | decide +kernel)
    (case c5 => first | k_is | kernel_rfl | rfl | decide +kernel)
    (case c6 => first | k_is | kernel_rfl | rfl | decide +kernel)
    (case c7 => first | k_is | kernel_rfl | rfl | decide +kernel)
    (case d0 => first | k_is | kernel_rfl | rfl | decide +kernel)
    (case d1 => first | k_is | kernel_rfl | rfl | decide +kernel)
    (case d2 => first | k_is | kernel_rfl | rfl | decide +kernel)
    (case d3 => first | k_is | kernel_rfl | rfl | decide +kernel)
    (case d4 => first | k_is | kernel_rfl | rfl | decide +kernel)
    (case d5 => first | k_is | kernel_rfl | rfl | decide +kernel)
    (case d6 => first | k_is | kernel_rfl | rfl | decide +kernel)
    (case d7 => first | k_is | kernel_rfl | rfl | decide +kernel)
    (case zisinstance => k_is)
    (case zint => k_is)
    (case zbool => k_is)
    (case zlist => k_is)
    (case zlen => k_is)
    (case zall => k_is)
    (case zsum => k_is)
    (case zrange => k_is)
    (case zmax => k_is)
    (case zmin => k_is)
    (case zset => k_is)
    (case zsorted => k_is)
    (case zzip => k_is)
    (case zany => k_is)
    (case zdict => k_is)
    (case zreversed => k_is)
    (case ztuple => k_is)
    (case zF => k_is)
    (case zN => k_is)
    (case zM => k_is)
    (case ii => first | k_is | kernel_rfl | rfl | decide +kernel)
    (case ib => first | k_is | kernel_rfl | rfl | decide +kernel)
    (case ll => first | k_is | kernel_rfl | rfl | decide +kernel)
    (case bb => first | k_is | kernel_rfl | rfl | decide +kernel)
    (case tt => first | k_is | kernel_rfl | rfl | decide +kernel)
