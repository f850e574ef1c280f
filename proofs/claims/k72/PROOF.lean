import PyProof.Rows.All
import Wide.All
import OpenK.AllK
import Wide.FinOn
import Lean
import PyProof.EqAt
import PyProof.EqKinds
import PyProof.TupleCall
import PySem.Challenge.RW_treewells_k72_whole_sweeps
set_option Elab.async false
set_option linter.all false
set_option maxRecDepth 100000
set_option maxHeartbeats 4000000
namespace KH
open PySem PySem.W
def topRunT (tb : String->Option Builtin) (p : Program) (w : World) (n₀ : Nat) (ann : Option Value) : Nat->SharedT->Thread->Option SharedT
  | 0, _, _ => none
  | n + 1, s, t => match through t with
    | true => some s
    | false => match stepOk n₀ ann t with
      | false => none
      | true => match stepT (denote tb) p w s t with
        | some (s', t') => topRunT tb p w n₀ ann n s' t'
        | none => none
theorem topRun_of {tb : String->Option Builtin} {p : Program} {w : World} {n₀ : Nat} {ann : Option Value} : ∀ {n : Nat} {s s' : SharedT} {t : Thread}, topRunT tb p w n₀ ann n s t = some s'->topRun tb p w n₀ ann n s.abs t = some s'.abs
  | 0, _, _, _, h => by cases h
  | n + 1, s, s', t, h => by
    unfold topRunT at h
    unfold topRun
    cases he : through t with
    | true => rw [he] at h; cases h; rfl
    | false =>
      rw [he] at h
      cases hk : stepOk n₀ ann t with
      | false => rw [hk] at h; cases h
      | true =>
        rw [hk] at h
        cases hs : stepT (denote tb) p w s t with
        | none => rw [hs] at h; cases h
        | some r => obtain ⟨s₂, t₂⟩ := r; rw [hs] at h; dsimp only; rw [stepT_spec hs]; exact topRun_of h
def insAll : List Obj->Nat->BT->Option BT
  | [], _, t => some t
  | o :: l, n, t => match ((t.ins n o).get n).isSome with
    | true => insAll l (n + 1) (t.ins n o)
    | false => none
theorem insAll_of {life : Life} : ∀ {l : List Obj} {n : Nat} {t t' : BT}, insAll l n t = some t'->absHeap t' (n + l.length) life = ⟨(absHeap t n life).objs ++ l.toArray, life⟩
  | [], n, t, t', h => by cases h; simp [absHeap]
  | o :: l, n, t, t', h => by
    unfold insAll at h
    cases e : ((t.ins n o).get n).isSome with
    | false => rw [e] at h; cases h
    | true =>
      rw [e] at h
      have := insAll_of (life := life) h
      rw [absHeap_ins e] at this
      rw [List.length_cons, show n + (l.length + 1) = n + 1 + l.length by omega, this]
      simp [Heap.push]
def Look (p : Program) (N : Nat) (H₀ : Params->Heap) (gs₀ : Array GenState) (d₀ : Drawn) (k₀ m₀ : Nat) (ann : Option Value) (life : Life) {α : Type} (g : World->Shared->α) (v : World->α) : Prop :=
  ∀ (w : World) (os : OsState), ((insAll (H₀ w.params).objs.toList 0 .nil).bind fun t => (topRunT treeTable p w m₀ ann N ⟨t, m₀, life, gs₀, d₀, k₀, os⟩ (topStub p)).map fun s => g w s.abs) = some (v w)
theorem left_of {p q : Program} {loose : List Str} {Xt : Shared->Bool} {α : Type} {Yf : Shared->α} {Ya : World->α} {N : Nat} {H₀ : Params->Heap} {gs₀ : Array GenState} {d₀ : Drawn} {k₀ m₀ : Nat} {ann : Option Value} {life : Life} (open_ : ∀ w : World, (fencedOpening treeTable p w N).map (fun s => (s.heap, s.gens, s.drawn, s.toks)) = some (H₀ w.params, gs₀, d₀, k₀)) (size : ∀ w : World, ((H₀ w.params).isNs mainGlobals && gs₀.size == 0, (H₀ w.params).objs.size, (H₀ w.params).nsMap mainGlobals "__annotations__", (H₀ w.params).life) = (true, m₀, ann, life)) (ha : Look p N H₀ gs₀ d₀ k₀ m₀ ann life (fun w s => staticsOk (importedModules p.main.body) (H₀ w.params) s.heap && namesBound p s.heap && gensDone s && laidKept (H₀ w.params) s.heap) (fun _ => true)) (hb : Look p N H₀ gs₀ d₀ k₀ m₀ ann life (fun _ s => openSeen q loose (importedModules p.main.body) Xt true s) (fun _ => openGood q loose)) (hc : Look p N H₀ gs₀ d₀ k₀ m₀ ann life (fun _ s => Yf s) Ya) : LeftO p q loose Xt Yf Ya N := fun w => by
  obtain ⟨⟨hp, gs, d, k, os⟩, e, e'⟩ := Option.map_eq_some_iff.mp (open_ w)
  obtain ⟨rfl, rfl, rfl, rfl⟩ : hp = H₀ w.params/\gs = gs₀/\d = d₀/\k = k₀ := by simpa using e'
  obtain ⟨z1, z2, z3, z4⟩ : _/\_/\_/\_ := by simpa only [Prod.mk.injEq] using size w
  obtain ⟨t, ht, h'⟩ := Option.bind_eq_some_iff.mp (ha w os)
  obtain ⟨s, hs, l1⟩ := Option.map_eq_some_iff.mp h'
  change (staticsOk (importedModules p.main.body) (H₀ w.params) s.abs.heap && namesBound p s.abs.heap && gensDone s.abs && laidKept (H₀ w.params) s.abs.heap) = true at l1
  have l2 : openSeen q loose (importedModules p.main.body) Xt true s.abs = openGood q loose := by
    obtain ⟨t', ht', h''⟩ := Option.bind_eq_some_iff.mp (hb w os)
    obtain ⟨s', hs', l⟩ := Option.map_eq_some_iff.mp h''
    rw [ht] at ht'; cases ht'
    rw [hs] at hs'; cases hs'
    exact l
  have l3 : Yf s.abs = Ya w := by
    obtain ⟨t', ht', h''⟩ := Option.bind_eq_some_iff.mp (hc w os)
    obtain ⟨s', hs', l⟩ := Option.map_eq_some_iff.mp h''
    rw [ht] at ht'; cases ht'
    rw [hs] at hs'; cases hs'
    exact l
  have ab : (⟨t, m₀, life, gs, d, k, os⟩ : SharedT).abs = ⟨H₀ w.params, gs, d, k, os⟩ := by
    have := insAll_of (life := life) ht
    rw [Nat.zero_add, Array.length_toList, z2] at this
    show Shared.mk (absHeap t m₀ life) gs d k os = _
    rw [this, ← z4]
    have e0 : (absHeap BT.nil 0 (H₀ w.params).life).objs = #[] := by simp [absHeap, BT.list]
    rw [e0]
    simp
  have r := topRun_of hs
  rw [ab] at r
  have T : topFrom treeTable p w N ⟨H₀ w.params, gs, d, k, os⟩ = some s.abs := by
    unfold topFrom
    dsimp only
    rw [z1, z2, z3, r]
    show (match staticsOk (importedModules p.main.body) (H₀ w.params) s.abs.heap && namesBound p s.abs.heap && gensDone s.abs && laidKept (H₀ w.params) s.abs.heap with | true => _ | false => _) = _
    rw [l1]
  unfold openEnds
  rw [e]
  show (topFrom treeTable p w N _).map _ = _
  rw [T]
  exact congrArg some (Prod.ext l2 l3)
end KH
namespace KH
open PySem PySem.W
def top (i : Nat) : Stmt := PySem.Challenge.pw_treewells_k72_whole_sweeps.main.body.getD i (.Pass ⟨0, 0, 0, 0⟩)
def kA (s : Stmt) : Arguments := match s with
  | .FunctionDef _ x _ _ _ _ _ _ _ _ => x
  | _ => ⟨[], [], none, [], [], none, []⟩
def kB (s : Stmt) : List Stmt := match s with
  | .FunctionDef _ _ x _ _ _ _ _ _ _ => x
  | _ => []
def kS (s : Stmt) : Scope := match s with
  | .FunctionDef _ _ _ _ _ _ x _ _ _ => x
  | _ => { kind := .function, names := [], isGenerator := false, isCoroutine := false }
def kHeap : Params->PySem.W.Frag := fun P =>
(nat_lit 2, .mk .none none (.dict #[]) #[]) ::
(nat_lit 3, .mk (.type "dict") none (.dict #[.mk (PyData.keyHash P "__name__") (.str "__name__" 165) (.str "law_treewells_k72_whole_sweeps" 308), .mk (PyData.keyHash P "__doc__") (.str "__doc__" 166) .none, .mk (PyData.keyHash P "__package__") (.str "__package__" 167) .none, .mk (PyData.keyHash P "__loader__") (.str "__loader__" 168) (.builtin "__main__.__loader__#opaque"), .mk (PyData.keyHash P "__spec__") (.str "__spec__" 169) .none, .mk (PyData.keyHash P "__annotations__") (.str "__annotations__" 170) (.ref 6), .mk (PyData.keyHash P "__builtins__") (.str "__builtins__" 171) (.ref 4), .mk (PyData.keyHash P "__file__") (.str "__file__" 173) (.str "/claim/cut.py" 172), .mk (PyData.keyHash P "__cached__") (.str "__cached__" 174) .none, .mk (PyData.keyHash P "TreeError") (.str "TreeError" 206) (.ref 24), .mk (PyData.keyHash P "NoTree") (.str "NoTree" 222) (.ref 37), .mk (PyData.keyHash P "MOST_PLACES") (.str "MOST_PLACES" 226) (.int 12 225), .mk (PyData.keyHash P "is_whole") (.str "is_whole" 233) (.ref 46), .mk (PyData.keyHash P "is_place") (.str "is_place" 241) (.ref 53), .mk (PyData.keyHash P "is_road") (.str "is_road" 249) (.ref 60), .mk (PyData.keyHash P "is_tree") (.str "is_tree" 255) (.ref 65),
.mk (PyData.keyHash P "check_tree") (.str "check_tree" 263) (.ref 72), .mk (PyData.keyHash P "neighbours") (.str "neighbours" 269) (.ref 77), .mk (PyData.keyHash P "steps_to") (.str "steps_to" 282) (.ref 84), .mk (PyData.keyHash P "way_between") (.str "way_between" 293) (.ref 91), .mk (PyData.keyHash P "leaves") (.str "leaves" 299) (.ref 96), .mk (PyData.keyHash P "sweeps") (.str "sweeps" 307) (.ref 101), .mk (PyData.keyHash P "_law_whole") (.str "_law_whole" 316) (.ref 108), .mk (PyData.keyHash P "_law_cell_at") (.str "_law_cell_at" 324) (.ref 115), .mk (PyData.keyHash P "_law_mixed") (.str "_law_mixed" 333) (.ref 122), .mk (PyData.keyHash P "_law_names") (.str "_law_names" 343) (.ref 129), .mk (PyData.keyHash P "_law_numbers") (.str "_law_numbers" 349) (.ref 134), .mk (PyData.keyHash P "_law_tree") (.str "_law_tree" 370) (.ref 141), .mk (PyData.keyHash P "_law_copy") (.str "_law_copy" 376) (.ref 146), .mk (PyData.keyHash P "_law_on") (.str "_law_on" 386) (.ref 153), .mk (PyData.keyHash P "_law_gone") (.str "_law_gone" 392) (.ref 158), .mk (PyData.keyHash P "law") (.str "law" 398) (.ref 163)] 32) #[]) ::
(nat_lit 15, .mk (.type "tuple") none (.seq #[.type "ValueError"]) #[]) ::
(nat_lit 22, .mk (.type "tuple") none (.seq #[]) #[]) ::
(nat_lit 23, .mk (.type "dict") none (.dict #[.mk (PyData.keyHash P "__module__") (.str "__module__" 196) (.str "treewells.errors" 187), .mk (PyData.keyHash P "__firstlineno__") (.str "__firstlineno__" 200) (.int 2 199), .mk (PyData.keyHash P "__static_attributes__") (.str "__static_attributes__" 201) (.ref 22), .mk (PyData.keyHash P "__weakref__") (.str "__weakref__" 203) (.ref 25), .mk (PyData.keyHash P "__doc__") (.str "__doc__" 204) .none] 3) #[]) ::
(nat_lit 24, .mk (.type "type") none (Data.cls (ClassData.mk "TreeError" [.type "ValueError"] [.ref 24, .type "ValueError", .type "Exception", .type "BaseException", .type "object"] 23 "TreeError" true [] [.ref 37] false none false)) #[some (.ref 15), none, some (.str "TreeError" 189), some (.str "TreeError" 197), some (.builtin "ValueError.__new__"), some (.bool true)]) ::
(nat_lit 25, .mk (.type "getset_descriptor") none (.fields #[.str "__weakref__" 202, .ref 24, .builtin "ExceptionGroup.__weakref__", .none]) #[]) ::
(nat_lit 28, .mk (.type "tuple") none (.seq #[.ref 24]) #[]) ::
(nat_lit 35, .mk (.type "tuple") none (.seq #[]) #[]) ::
(nat_lit 36, .mk (.type "dict") none (.dict #[.mk (PyData.keyHash P "__module__") (.str "__module__" 214) (.str "treewells.errors" 187), .mk (PyData.keyHash P "__firstlineno__") (.str "__firstlineno__" 218) (.int 4 217), .mk (PyData.keyHash P "__static_attributes__") (.str "__static_attributes__" 219) (.ref 35), .mk (PyData.keyHash P "__doc__") (.str "__doc__" 220) .none] 2) #[]) ::
(nat_lit 37, .mk (.type "type") none (Data.cls (ClassData.mk "NoTree" [.ref 24] [.ref 37, .ref 24, .type "ValueError", .type "Exception", .type "BaseException", .type "object"] 36 "NoTree" true [] [] false none false)) #[some (.ref 28), none, some (.str "NoTree" 207), some (.str "NoTree" 215), some (.builtin "ValueError.__new__"), some (.bool true)]) ::
(nat_lit 40, .mk (.type "tuple") none (.seq #[]) #[]) ::
(nat_lit 42, .mk (.type "tuple") none (.seq #[.str "value" 230]) #[]) ::
(nat_lit 43, .mk (.type "tuple") none (.seq #[]) #[]) ::
(nat_lit 45, .mk (.type "code") none (.fields #[.str "is_whole" 227, .str "is_whole" 228, .str "/claim/cut.py" 229, .int 8 0, .int 1 0, .int 0 0, .int 0 0, .int 3 0, .ref 40, .bool true, .int 181 0, .ref 41, .none, .ref 42, .ref 43, .ref 44, .int 231 0, .int 8 0, .str "/claim/cut.py" 232]) #[]) ::
(nat_lit 46, .mk (.type "function") none (.func (.mk "is_whole" "is_whole" (kA (top 5)) (.stmts (kB (top 5))) (kS (top 5)) 3 [] .none .none .none (.str "treewells.trees" 223) none (.ref 45) .none 0)) #[]) ::
(nat_lit 47, .mk (.type "tuple") none (.seq #[]) #[]) ::
(nat_lit 49, .mk (.type "tuple") none (.seq #[.str "many" 237, .str "value" 238]) #[]) ::
(nat_lit 50, .mk (.type "tuple") none (.seq #[]) #[]) ::
(nat_lit 52, .mk (.type "code") none (.fields #[.str "is_place" 234, .str "is_place" 235, .str "/claim/cut.py" 236, .int 10 0, .int 2 0, .int 0 0, .int 0 0, .int 3 0, .ref 47, .bool true, .int 181 0, .ref 48, .none, .ref 49, .ref 50, .ref 51, .int 239 0, .int 10 0, .str "/claim/cut.py" 240]) #[]) ::
(nat_lit 53, .mk (.type "function") none (.func (.mk "is_place" "is_place" (kA (top 6)) (.stmts (kB (top 6))) (kS (top 6)) 3 [] .none .none .none (.str "treewells.trees" 223) none (.ref 52) .none 0)) #[]) ::
(nat_lit 54, .mk (.type "tuple") none (.seq #[]) #[]) ::
(nat_lit 56, .mk (.type "tuple") none (.seq #[.str "many" 245, .str "row" 246]) #[]) ::
(nat_lit 57, .mk (.type "tuple") none (.seq #[]) #[]) ::
(nat_lit 59, .mk (.type "code") none (.fields #[.str "is_road" 242, .str "is_road" 243, .str "/claim/cut.py" 244, .int 12 0, .int 2 0, .int 0 0, .int 0 0, .int 3 0, .ref 54, .bool true, .int 181 0, .ref 55, .none, .ref 56, .ref 57, .ref 58, .int 247 0, .int 12 0, .str "/claim/cut.py" 248]) #[]) ::
(nat_lit 60, .mk (.type "function") none (.func (.mk "is_road" "is_road" (kA (top 7)) (.stmts (kB (top 7))) (kS (top 7)) 3 [] .none .none .none (.str "treewells.trees" 223) none (.ref 59) .none 0)) #[]) ::
(nat_lit 61, .mk (.type "tuple") none (.seq #[]) #[]) ::
(nat_lit 64, .mk (.type "code") none (.fields #[.str "is_tree" 250, .str "is_tree" 251, .str "/claim/cut.py" 252, .int 16 0, .int 2 0, .int 0 0, .int 0 0, .int 3 0, .ref 61, .bool true, .int 181 0, .ref 62, .none, .none, .none, .ref 63, .int 253 0, .int 16 0, .str "/claim/cut.py" 254]) #[]) ::
(nat_lit 65, .mk (.type "function") none (.func (.mk "is_tree" "is_tree" (kA (top 8)) (.stmts (kB (top 8))) (kS (top 8)) 3 [] .none .none .none (.str "treewells.trees" 223) none (.ref 64) .none 0)) #[]) ::
(nat_lit 66, .mk (.type "tuple") none (.seq #[]) #[]) ::
(nat_lit 68, .mk (.type "tuple") none (.seq #[.str "many" 259, .str "roads" 260]) #[]) ::
(nat_lit 69, .mk (.type "tuple") none (.seq #[]) #[]) ::
(nat_lit 71, .mk (.type "code") none (.fields #[.str "check_tree" 256, .str "check_tree" 257, .str "/claim/cut.py" 258, .int 22 0, .int 2 0, .int 0 0, .int 0 0, .int 3 0, .ref 66, .bool true, .int 181 0, .ref 67, .none, .ref 68, .ref 69, .ref 70, .int 261 0, .int 22 0, .str "/claim/cut.py" 262]) #[]) ::
(nat_lit 72, .mk (.type "function") none (.func (.mk "check_tree" "check_tree" (kA (top 9)) (.stmts (kB (top 9))) (kS (top 9)) 3 [] .none .none .none (.str "treewells.trees" 223) none (.ref 71) .none 0)) #[]) ::
(nat_lit 73, .mk (.type "tuple") none (.seq #[]) #[]) ::
(nat_lit 76, .mk (.type "code") none (.fields #[.str "neighbours" 264, .str "neighbours" 265, .str "/claim/cut.py" 266, .int 25 0, .int 2 0, .int 0 0, .int 0 0, .int 3 0, .ref 73, .bool true, .int 181 0, .ref 74, .none, .none, .none, .ref 75, .int 267 0, .int 25 0, .str "/claim/cut.py" 268]) #[]) ::
(nat_lit 77, .mk (.type "function") none (.func (.mk "neighbours" "neighbours" (kA (top 10)) (.stmts (kB (top 10))) (kS (top 10)) 3 [] .none .none .none (.str "treewells.trees" 223) none (.ref 76) .none 0)) #[]) ::
(nat_lit 78, .mk (.type "tuple") none (.seq #[]) #[]) ::
(nat_lit 80, .mk (.type "tuple") none (.seq #[.str "near" 273, .str "goal" 274, .str "steps" 275, .str "reached" 276, .str "done" 277, .str "here" 278, .str "place" 279]) #[]) ::
(nat_lit 81, .mk (.type "tuple") none (.seq #[]) #[]) ::
(nat_lit 83, .mk (.type "code") none (.fields #[.str "steps_to" 270, .str "steps_to" 271, .str "/claim/cut.py" 272, .int 31 0, .int 2 0, .int 0 0, .int 0 0, .int 3 0, .ref 78, .bool true, .int 181 0, .ref 79, .none, .ref 80, .ref 81, .ref 82, .int 280 0, .int 31 0, .str "/claim/cut.py" 281]) #[]) ::
(nat_lit 84, .mk (.type "function") none (.func (.mk "steps_to" "steps_to" (kA (top 11)) (.stmts (kB (top 11))) (kS (top 11)) 3 [] .none .none .none (.str "treewells.trees" 223) none (.ref 83) .none 0)) #[]) ::
(nat_lit 85, .mk (.type "tuple") none (.seq #[]) #[]) ::
(nat_lit 87, .mk (.type "tuple") none (.seq #[.str "near" 286, .str "a" 287, .str "b" 288, .str "steps" 289, .str "places" 290]) #[]) ::
(nat_lit 88, .mk (.type "tuple") none (.seq #[]) #[]) ::
(nat_lit 90, .mk (.type "code") none (.fields #[.str "way_between" 283, .str "way_between" 284, .str "/claim/cut.py" 285, .int 43 0, .int 3 0, .int 0 0, .int 0 0, .int 3 0, .ref 85, .bool true, .int 181 0, .ref 86, .none, .ref 87, .ref 88, .ref 89, .int 291 0, .int 43 0, .str "/claim/cut.py" 292]) #[]) ::
(nat_lit 91, .mk (.type "function") none (.func (.mk "way_between" "way_between" (kA (top 12)) (.stmts (kB (top 12))) (kS (top 12)) 3 [] .none .none .none (.str "treewells.trees" 223) none (.ref 90) .none 0)) #[]) ::
(nat_lit 92, .mk (.type "tuple") none (.seq #[]) #[]) ::
(nat_lit 95, .mk (.type "code") none (.fields #[.str "leaves" 294, .str "leaves" 295, .str "/claim/cut.py" 296, .int 49 0, .int 2 0, .int 0 0, .int 0 0, .int 3 0, .ref 92, .bool true, .int 181 0, .ref 93, .none, .none, .none, .ref 94, .int 297 0, .int 49 0, .str "/claim/cut.py" 298]) #[]) ::
(nat_lit 96, .mk (.type "function") none (.func (.mk "leaves" "leaves" (kA (top 13)) (.stmts (kB (top 13))) (kS (top 13)) 3 [] .none .none .none (.str "treewells.trees" 223) none (.ref 95) .none 0)) #[]) ::
(nat_lit 97, .mk (.type "tuple") none (.seq #[]) #[]) ::
(nat_lit 100, .mk (.type "code") none (.fields #[.str "sweeps" 302, .str "sweeps" 303, .str "/claim/cut.py" 304, .int 54 0, .int 2 0, .int 0 0, .int 0 0, .int 3 0, .ref 97, .bool true, .int 181 0, .ref 98, .none, .none, .none, .ref 99, .int 305 0, .int 54 0, .str "/claim/cut.py" 306]) #[]) ::
(nat_lit 101, .mk (.type "function") none (.func (.mk "sweeps" "sweeps" (kA (top 15)) (.stmts (kB (top 15))) (kS (top 15)) 3 [] .none .none .none (.str "treewells.rounds" 300) none (.ref 100) .none 0)) #[]) ::
(nat_lit 102, .mk (.type "tuple") none (.seq #[]) #[]) ::
(nat_lit 104, .mk (.type "tuple") none (.seq #[.str "_law_found" 313]) #[]) ::
(nat_lit 105, .mk (.type "tuple") none (.seq #[]) #[]) ::
(nat_lit 107, .mk (.type "code") none (.fields #[.str "_law_whole" 310, .str "_law_whole" 311, .str "/claim/cut.py" 312, .int 61 0, .int 1 0, .int 0 0, .int 0 0, .int 3 0, .ref 102, .bool true, .int 181 0, .ref 103, .none, .ref 104, .ref 105, .ref 106, .int 314 0, .int 61 0, .str "/claim/cut.py" 315]) #[]) ::
(nat_lit 108, .mk (.type "function") none (.func (.mk "_law_whole" "_law_whole" (kA (top 17)) (.stmts (kB (top 17))) (kS (top 17)) 3 [] .none .none .none (.str "law_treewells_k72_whole_sweeps" 308) none (.ref 107) .none 0)) #[]) ::
(nat_lit 109, .mk (.type "tuple") none (.seq #[]) #[]) ::
(nat_lit 111, .mk (.type "tuple") none (.seq #[.str "_law_script" 320, .str "_law_k" 321]) #[]) ::
(nat_lit 112, .mk (.type "tuple") none (.seq #[]) #[]) ::
(nat_lit 114, .mk (.type "code") none (.fields #[.str "_law_cell_at" 317, .str "_law_cell_at" 318, .str "/claim/cut.py" 319, .int 63 0, .int 2 0, .int 0 0, .int 0 0, .int 3 0, .ref 109, .bool true, .int 181 0, .ref 110, .none, .ref 111, .ref 112, .ref 113, .int 322 0, .int 63 0, .str "/claim/cut.py" 323]) #[]) ::
(nat_lit 115, .mk (.type "function") none (.func (.mk "_law_cell_at" "_law_cell_at" (kA (top 18)) (.stmts (kB (top 18))) (kS (top 18)) 3 [] .none .none .none (.str "law_treewells_k72_whole_sweeps" 308) none (.ref 114) .none 0)) #[]) ::
(nat_lit 116, .mk (.type "tuple") none (.seq #[]) #[]) ::
(nat_lit 118, .mk (.type "tuple") none (.seq #[.str "_law_cell" 328, .str "_law_k" 329, .str "_law_number" 330]) #[]) ::
(nat_lit 119, .mk (.type "tuple") none (.seq #[]) #[]) ::
(nat_lit 121, .mk (.type "code") none (.fields #[.str "_law_mixed" 325, .str "_law_mixed" 326, .str "/claim/cut.py" 327, .int 67 0, .int 2 0, .int 0 0, .int 0 0, .int 3 0, .ref 116, .bool true, .int 181 0, .ref 117, .none, .ref 118, .ref 119, .ref 120, .int 331 0, .int 67 0, .str "/claim/cut.py" 332]) #[]) ::
(nat_lit 122, .mk (.type "function") none (.func (.mk "_law_mixed" "_law_mixed" (kA (top 19)) (.stmts (kB (top 19))) (kS (top 19)) 3 [] .none .none .none (.str "law_treewells_k72_whole_sweeps" 308) none (.ref 121) .none 0)) #[]) ::
(nat_lit 123, .mk (.type "tuple") none (.seq #[]) #[]) ::
(nat_lit 125, .mk (.type "tuple") none (.seq #[.str "_law_cell" 337, .str "_law_many" 338, .str "_law_points" 339, .str "_law_k" 340]) #[]) ::
(nat_lit 126, .mk (.type "tuple") none (.seq #[]) #[]) ::
(nat_lit 128, .mk (.type "code") none (.fields #[.str "_law_names" 334, .str "_law_names" 335, .str "/claim/cut.py" 336, .int 71 0, .int 2 0, .int 0 0, .int 0 0, .int 3 0, .ref 123, .bool true, .int 181 0, .ref 124, .none, .ref 125, .ref 126, .ref 127, .int 341 0, .int 71 0, .str "/claim/cut.py" 342]) #[]) ::
(nat_lit 129, .mk (.type "function") none (.func (.mk "_law_names" "_law_names" (kA (top 20)) (.stmts (kB (top 20))) (kS (top 20)) 3 [] .none .none .none (.str "law_treewells_k72_whole_sweeps" 308) none (.ref 128) .none 0)) #[]) ::
(nat_lit 130, .mk (.type "tuple") none (.seq #[]) #[]) ::
(nat_lit 133, .mk (.type "code") none (.fields #[.str "_law_numbers" 344, .str "_law_numbers" 345, .str "/claim/cut.py" 346, .int 77 0, .int 1 0, .int 0 0, .int 0 0, .int 3 0, .ref 130, .bool true, .int 181 0, .ref 131, .none, .none, .none, .ref 132, .int 347 0, .int 77 0, .str "/claim/cut.py" 348]) #[]) ::
(nat_lit 134, .mk (.type "function") none (.func (.mk "_law_numbers" "_law_numbers" (kA (top 21)) (.stmts (kB (top 21))) (kS (top 21)) 3 [] .none .none .none (.str "law_treewells_k72_whole_sweeps" 308) none (.ref 133) .none 0)) #[]) ::
(nat_lit 135, .mk (.type "tuple") none (.seq #[]) #[]) ::
(nat_lit 137, .mk (.type "tuple") none (.seq #[.str "_law_script" 353, .str "_law_numbers_here" 354, .str "_law_first" 355, .str "_law_cell" 356, .str "_law_many" 357, .str "_law_span" 358, .str "_law_names_here" 359, .str "_law_roads" 360, .str "_law_k" 361, .str "_law_number" 362, .str "_law_back" 363, .str "_law_a" 364, .str "_law_long" 365, .str "_law_length" 366, .str "_law_road" 367]) #[]) ::
(nat_lit 138, .mk (.type "tuple") none (.seq #[]) #[]) ::
(nat_lit 140, .mk (.type "code") none (.fields #[.str "_law_tree" 350, .str "_law_tree" 351, .str "/claim/cut.py" 352, .int 90 0, .int 1 0, .int 0 0, .int 0 0, .int 3 0, .ref 135, .bool true, .int 181 0, .ref 136, .none, .ref 137, .ref 138, .ref 139, .int 368 0, .int 90 0, .str "/claim/cut.py" 369]) #[]) ::
(nat_lit 141, .mk (.type "function") none (.func (.mk "_law_tree" "_law_tree" (kA (top 22)) (.stmts (kB (top 22))) (kS (top 22)) 3 [] .none .none .none (.str "law_treewells_k72_whole_sweeps" 308) none (.ref 140) .none 0)) #[]) ::
(nat_lit 142, .mk (.type "tuple") none (.seq #[]) #[]) ::
(nat_lit 145, .mk (.type "code") none (.fields #[.str "_law_copy" 371, .str "_law_copy" 372, .str "/claim/cut.py" 373, .int 107 0, .int 1 0, .int 0 0, .int 0 0, .int 3 0, .ref 142, .bool true, .int 181 0, .ref 143, .none, .none, .none, .ref 144, .int 374 0, .int 107 0, .str "/claim/cut.py" 375]) #[]) ::
(nat_lit 146, .mk (.type "function") none (.func (.mk "_law_copy" "_law_copy" (kA (top 23)) (.stmts (kB (top 23))) (kS (top 23)) 3 [] .none .none .none (.str "law_treewells_k72_whole_sweeps" 308) none (.ref 145) .none 0)) #[]) ::
(nat_lit 147, .mk (.type "tuple") none (.seq #[]) #[]) ::
(nat_lit 149, .mk (.type "tuple") none (.seq #[.str "_law_roads" 380, .str "_law_a" 381, .str "_law_b" 382, .str "_law_k" 383]) #[]) ::
(nat_lit 150, .mk (.type "tuple") none (.seq #[]) #[]) ::
(nat_lit 152, .mk (.type "code") none (.fields #[.str "_law_on" 377, .str "_law_on" 378, .str "/claim/cut.py" 379, .int 109 0, .int 3 0, .int 0 0, .int 0 0, .int 3 0, .ref 147, .bool true, .int 181 0, .ref 148, .none, .ref 149, .ref 150, .ref 151, .int 384 0, .int 109 0, .str "/claim/cut.py" 385]) #[]) ::
(nat_lit 153, .mk (.type "function") none (.func (.mk "_law_on" "_law_on" (kA (top 24)) (.stmts (kB (top 24))) (kS (top 24)) 3 [] .none .none .none (.str "law_treewells_k72_whole_sweeps" 308) none (.ref 152) .none 0)) #[]) ::
(nat_lit 154, .mk (.type "tuple") none (.seq #[]) #[]) ::
(nat_lit 157, .mk (.type "code") none (.fields #[.str "_law_gone" 387, .str "_law_gone" 388, .str "/claim/cut.py" 389, .int 114 0, .int 3 0, .int 0 0, .int 0 0, .int 3 0, .ref 154, .bool true, .int 181 0, .ref 155, .none, .none, .none, .ref 156, .int 390 0, .int 114 0, .str "/claim/cut.py" 391]) #[]) ::
(nat_lit 158, .mk (.type "function") none (.func (.mk "_law_gone" "_law_gone" (kA (top 25)) (.stmts (kB (top 25))) (kS (top 25)) 3 [] .none .none .none (.str "law_treewells_k72_whole_sweeps" 308) none (.ref 157) .none 0)) #[]) ::
(nat_lit 159, .mk (.type "tuple") none (.seq #[]) #[]) ::
(nat_lit 162, .mk (.type "code") none (.fields #[.str "law" 393, .str "law" 394, .str "/claim/cut.py" 395, .int 128 0, .int 1 0, .int 0 0, .int 0 0, .int 3 0, .ref 159, .bool true, .int 181 0, .ref 160, .none, .none, .none, .ref 161, .int 396 0, .int 128 0, .str "/claim/cut.py" 397]) #[]) ::
(nat_lit 163, .mk (.type "function") none (.func (.mk "law" "law" (kA (top 26)) (.stmts (kB (top 26))) (kS (top 26)) 3 [] .none .none .none (.str "law_treewells_k72_whole_sweeps" 308) none (.ref 162) .none 0)) #[]) ::
[]
def kAddrs : List Addr := [nat_lit 2, nat_lit 3, nat_lit 15, nat_lit 22, nat_lit 23, nat_lit 24, nat_lit 25, nat_lit 28, nat_lit 35, nat_lit 36, nat_lit 37, nat_lit 40, nat_lit 42, nat_lit 43, nat_lit 45, nat_lit 46, nat_lit 47, nat_lit 49, nat_lit 50, nat_lit 52, nat_lit 53, nat_lit 54, nat_lit 56, nat_lit 57, nat_lit 59, nat_lit 60, nat_lit 61, nat_lit 64, nat_lit 65, nat_lit 66, nat_lit 68, nat_lit 69, nat_lit 71, nat_lit 72, nat_lit 73, nat_lit 76, nat_lit 77, nat_lit 78, nat_lit 80, nat_lit 81, nat_lit 83, nat_lit 84, nat_lit 85, nat_lit 87, nat_lit 88, nat_lit 90, nat_lit 91, nat_lit 92, nat_lit 95, nat_lit 96, nat_lit 97, nat_lit 100, nat_lit 101, nat_lit 102, nat_lit 104, nat_lit 105, nat_lit 107, nat_lit 108, nat_lit 109, nat_lit 111, nat_lit 112, nat_lit 114, nat_lit 115, nat_lit 116, nat_lit 118, nat_lit 119, nat_lit 121, nat_lit 122, nat_lit 123, nat_lit 125, nat_lit 126, nat_lit 128, nat_lit 129, nat_lit 130, nat_lit 133, nat_lit 134, nat_lit 135, nat_lit 137, nat_lit 138, nat_lit 140, nat_lit 141, nat_lit 142, nat_lit 145, nat_lit 146, nat_lit 147, nat_lit 149, nat_lit 150, nat_lit 152, nat_lit 153, nat_lit 154, nat_lit 157, nat_lit 158, nat_lit 159, nat_lit 162, nat_lit 163]
def kView : Program := { PySem.Challenge.pw_treewells_k72_whole_sweeps with main := { PySem.Challenge.pw_treewells_k72_whole_sweeps.main with body := [top 1, top 2, top 4, top 5, top 6, top 7, top 8, top 9, top 10, top 11, top 12, top 13, top 15, top 17, top 18, top 19, top 20, top 21, top 22, top 23, top 24, top 25, top 26] } }
theorem kAddrs_eq (P : Params) : kAddrs = (kHeap P).map (·.1) := by kernel_rfl
theorem kBoot : ∀ w : World, (PySem.W.fencedOpening treeTable PySem.Challenge.rw_treewells_k72_whole_sweeps.row.prog w 2198).map (fun s => (s.heap, s.gens, s.drawn, s.toks)) = some (PySem.W.boot_heap w.params, Array.mk [], PySem.W.boot_drawn, PySem.W.boot_toks) :=
  PySem.W.boot_open (by rfl) (by decide) (fun _ => rfl)
abbrev kPr : Program := PySem.Challenge.rw_treewells_k72_whole_sweeps.row.prog
abbrev kLk {α : Type} (g : World->Shared->α) (v : World->α) : Prop := Look kPr 2198 PySem.W.boot_heap (Array.mk []) PySem.W.boot_drawn PySem.W.boot_toks (nat_lit 11) (some (.ref (nat_lit 6))) { debug := 0, thresholds := [2000, 10, 10] } g v
theorem kL1 : kLk (fun w s => PySem.W.staticsOk (PySem.importedModules kPr.main.body) (PySem.W.boot_heap w.params) s.heap && PySem.W.namesBound kPr s.heap && PySem.W.gensDone s && PySem.W.laidKept (PySem.W.boot_heap w.params) s.heap) (fun _ => true) := by intro w os; kernel_rfl
theorem kL2 : kLk (fun _ s => PySem.W.openSeen KH.kView [] (PySem.importedModules kPr.main.body) (fun s => PySem.W.xlAt KH.kView [] s && PySem.W.recOk (PySem.W.RowW.records (PySem.W.OpenRow.toRowW PySem.Challenge.rw_treewells_k72_whole_sweeps.row)) s) true s) (fun _ => PySem.W.openGood KH.kView []) := by intro w os; kernel_rfl
theorem kL3 : kLk (fun _ s => (PySem.W.kHook KH.kHeap KH.kAddrs KH.kAddrs_eq).obs s) (PySem.W.kHook KH.kHeap KH.kAddrs KH.kAddrs_eq).val := by intro w os; kernel_rfl
theorem kLeft : PySem.W.LeftO PySem.Challenge.rw_treewells_k72_whole_sweeps.row.prog KH.kView [] (fun s => PySem.W.xlAt KH.kView [] s && PySem.W.recOk (PySem.W.RowW.records (PySem.W.OpenRow.toRowW PySem.Challenge.rw_treewells_k72_whole_sweeps.row)) s) (PySem.W.kHook KH.kHeap KH.kAddrs KH.kAddrs_eq).obs (PySem.W.kHook KH.kHeap KH.kAddrs KH.kAddrs_eq).val 2198 :=
  left_of kBoot (by intro w; kernel_rfl) kL1 kL2 kL3
end KH
namespace L2
open PySem PySem.Spec PyProof.Rows
abbrev Key := Sum Int Str
def keyIs : Key->Value->Bool
  | .inl k, v => Value.isInt k v
  | .inr x, v => Value.isStrOf x v
def keyH (w : World) : Key->Int
  | .inl k => hashInt k
  | .inr x => hashStr w x
theorem keyIs_shape : ∀ {k : Key} {v : Value}, keyIs k v = true->(∃ i t, k = Sum.inl i/\v = Value.int i t) ∨ (∃ x t, k = Sum.inr x/\v = Value.str x t)
  | .inl i, v, h => by
    obtain ⟨t, e⟩ := Value.isInt_shape (k := i) (v := v) h
    exact .inl ⟨i, t, rfl, e⟩
  | .inr x, v, h => by
    obtain ⟨t, e⟩ := Value.isStrOf_shape (x := x) (v := v) h
    exact .inr ⟨x, t, rfl, e⟩
theorem keyIs_int (i : Int) (t : Tok) : keyIs (.inl i) (.int i t) = true := by simp [keyIs, Value.isInt]
theorem keyIs_str (x : Str) (t : Tok) : keyIs (.inr x) (.str x t) = true := by simp [keyIs, Value.isStrOf]
theorem key_ll (a b : Int) : decide ((Sum.inl a : Key) = Sum.inl b) = (a == b) := by
  by_cases e : a = b
  · subst e; simp
  · have h : ¬ (Sum.inl a : Key) = Sum.inl b := fun q => e (Sum.inl.inj q)
    rw [decide_eq_false h]
    exact (beq_eq_false_iff_ne.mpr e).symm
theorem key_rr (a b : Str) : decide ((Sum.inr a : Key) = Sum.inr b) = decide (a = b) := by
  by_cases e : a = b
  · subst e; simp
  · have h : ¬ (Sum.inr a : Key) = Sum.inr b := fun q => e (Sum.inr.inj q)
    rw [decide_eq_false h, decide_eq_false e]
theorem key_lr (a : Int) (b : Str) : decide ((Sum.inl a : Key) = Sum.inr b) = false := decide_eq_false (fun q => nomatch q)
theorem key_rl (a : Str) (b : Int) : decide ((Sum.inr a : Key) = Sum.inl b) = false := decide_eq_false (fun q => nomatch q)
def mixKind (prog : Program) (w : World) : PySem.KeyKind prog w Key where
  is := keyIs
  hash := keyH w
  inj := fun v a b ha hb => by
    rcases keyIs_shape ha with ⟨i, t, rfl, rfl⟩ | ⟨x, t, rfl, rfl⟩
    · rcases keyIs_shape hb with ⟨j, u, rfl, e⟩ | ⟨y, u, rfl, e⟩
      · injection e with e1 _; rw [e1]
      · exact nomatch e
    · rcases keyIs_shape hb with ⟨j, u, rfl, e⟩ | ⟨y, u, rfl, e⟩
      · exact nomatch e
      · injection e with e1 _; rw [e1]
  byValue := fun k v h => by
    rcases keyIs_shape h with ⟨i, t, rfl, rfl⟩ | ⟨x, t, rfl, rfl⟩ <;> rfl
  pyHash := fun hv h => by
    rcases keyIs_shape hv with ⟨i, t, rfl, rfl⟩ | ⟨x, t, rfl, rfl⟩
    · exact wpAny_pyHash_int h
    · exact wpAny_pyHash_str h
  eqBool := fun hu hv h => by
    rcases keyIs_shape hu with ⟨i, t, rfl, rfl⟩ | ⟨x, t, rfl, rfl⟩
    · rcases keyIs_shape hv with ⟨j, u, rfl, rfl⟩ | ⟨y, u, rfl, rfl⟩
      · rw [key_ll] at h; exact wpAny_eqBool_int h
      · rw [key_lr] at h; exact SeqAt.EqAt.int_str i t y u _ _ _ _ h
    · rcases keyIs_shape hv with ⟨j, u, rfl, rfl⟩ | ⟨y, u, rfl, rfl⟩
      · rw [key_rl] at h; exact SeqAt.EqAt.str_int x t j u _ _ _ _ h
      · rw [key_rr] at h; exact wpAny_eqBool_str h
  «strs» := fun k x t v h => by
    rcases keyIs_shape h with ⟨i, u, rfl, e⟩ | ⟨y, u, rfl, e⟩
    · exact nomatch e
    · injection e with e1 _
      subst e1
      cases v <;> rfl
theorem mixKind_int (prog : Program) (w : World) (i : Int) (t : Tok) : (mixKind prog w).is (.inl i) (.int i t) = true := keyIs_int i t
theorem mixKind_str (prog : Program) (w : World) (x : Str) (t : Tok) : (mixKind prog w).is (.inr x) (.str x t) = true := keyIs_str x t
end L2
namespace L2
open PySem PySem.Spec PyProof.Rows
inductive V where
  | non | bl (b : Bool) | int (i : Int) | str (x : Str) | byt (b : Array UInt8) | flt (b : UInt64) | ref (a : Addr) | ty (n : String)
  deriving DecidableEq
def RelV : V->Value->Prop
  | .non, u => u = Value.none
  | .bl b, u => u = Value.bool b
  | .int i, u => ∃ t, u = Value.int i t
  | .str x, u => ∃ t, u = Value.str x t
  | .byt b, u => ∃ t, u = Value.bytes b t
  | .flt b, u => ∃ t, u = Value.float b t
  | .ref a, u => u = Value.ref a
  | .ty n, u => u = Value.type n
abbrev Vals : List V->List Value->Prop := Paired RelV
theorem Vals.length {xs : List V} {us : List Value} (r : Vals xs us) : xs.length = us.length := Paired.length r
theorem Vals.get : ∀ {xs : List V} {us : List Value} {i : Nat} {x : V}, Vals xs us->xs[i]? = some x->∃ u, us[i]? = some u/\RelV x u
  | _, _, _, _, .nil, e => by simp at e
  | _, _, 0, _, .cons r _, e => by simp at e; subst e; exact ⟨_, rfl, r⟩
  | _, _, i + 1, x, .cons _ t, e => by
    obtain ⟨u, h1, h2⟩ := Vals.get (i := i) (x := x) t (by simpa using e)
    exact ⟨u, by simpa using h1, h2⟩
theorem Vals.set {x : V} {u : Value} (r : RelV x u) : ∀ {xs : List V} {us : List Value} (i : Nat), Vals xs us->Vals (xs.set i x) (us.set i u)
  | _, _, _, .nil => .nil
  | _, _, 0, .cons _ t => .cons r t
  | _, _, i + 1, .cons q t => .cons q (Vals.set r i t)
theorem Vals.append : ∀ {xs ys : List V} {us ws : List Value}, Vals xs us->Vals ys ws->Vals (xs ++ ys) (us ++ ws)
  | _, _, _, _, .nil, s => s
  | _, _, _, _, .cons r t, s => .cons r (Vals.append t s)
theorem Vals.take : ∀ {xs : List V} {us : List Value} (n : Nat), Vals xs us->Vals (xs.take n) (us.take n)
  | _, _, 0, _ => .nil
  | _, _, _ + 1, .nil => .nil
  | _, _, n + 1, .cons r t => .cons r (Vals.take n t)
theorem Vals.drop : ∀ {xs : List V} {us : List Value} (n : Nat), Vals xs us->Vals (xs.drop n) (us.drop n)
  | _, _, 0, r => r
  | _, _, _ + 1, .nil => .nil
  | _, _, n + 1, .cons _ t => Vals.drop n t
def RelO : Option V->Option Value->Prop
  | some v, some u => RelV v u
  | none, none => True
  | _, _ => False
def KV {κ : Type} : List (κ × V)->List (κ × Value)->Prop := Paired fun (p : κ × V) (q : κ × Value) => p.1 = q.1/\RelV p.2 q.2
def kV : Key->V
  | .inl i => .int i
  | .inr x => .str x
inductive HO where
  | lst (xs : List V)
  | tup (xs : List V)
  | dK (kvs : List (Key × V)) | dT (kvs : List (List Key × V))
  | set (S : Int->Bool) (n : Nat)
  | ins (C dx : Addr) (fs : List (Str × V))
  | own (x : Addr)
  | xd (fs : List (Str × V))
  | met (f x : Addr)
  | rng (lo hi : Int)
  | frz (o : Obj) (u : HO)
  | tbl (ps : Array Value)
  | cod (q : Str)
  | ext (φ : Heap->Prop)
def Per : HO->Prop
  | .tup _ => True
  | .cod _ => True
  | _ => False
def qOf (qs : Array Value) : Str := match (qs[0]? : Option Value) with
  | some (.str q _) => q
  | _ => ""
abbrev Hp := Addr->Option HO
def upd (H : Hp) (a : Addr) (o : HO) : Hp := fun b => if b = a then some o else H b
theorem upd_same {H : Hp} {a : Addr} {o : HO} : upd H a o a = some o := by unfold upd; rw [if_pos rfl]
theorem upd_ne {H : Hp} {a b : Addr} {o : HO} (h : b ≠ a) : upd H a o b = H b := by unfold upd; rw [if_neg h]
theorem ne_of {H : Hp} {a b : Addr} {o u : HO} (h : H a = some o) (h' : H b = some u) (d : o ≠ u) : a ≠ b := by
  intro e; subst e; rw [h] at h'; exact d (Option.some.inj h')
theorem ne_of_none {H : Hp} {a b : Addr} {o : HO} (h : H a = some o) (h' : H b = none) : a ≠ b := by
  intro e; subst e; rw [h] at h'; cases h'
section
variable (P : Program) (w : World)
def ObjOk (H : Hp) (h : Heap) (a : Addr) : HO->Prop
  | .lst xs => xs.length ≤ sizeLine/\∃ (its : List Value) (n : Nat), Vals xs its/\h.get? a = some { cls := .type "list", data := .seq its.toArray n }
  | .tup xs => xs.length ≤ sizeLine/\∃ its : List Value, Vals xs its/\IsTup h a its.toArray
  | .dK kvs => kvs.length ≤ sizeLine/\(a == sysModules) = false/\∃ vs, KV kvs vs/\h.DictOf (mixKind P w) a vs
  | .dT kvs => kvs.length ≤ sizeLine/\(a == sysModules) = false/\∃ xs : List (List Key × Addr × Value),
      Paired (fun (p : List Key × V) (q : List Key × Addr × Value) => p.1 = q.1/\H q.2.1 = some (.tup (p.1.map kV))/\RelV p.2 q.2.2) kvs xs ∧
      ∃ o es ep, h.get? a = some o/\o.ExactDict/\o.data = .dict es ep/\es.toList = xs.map (entryOfKey (tupleKind (mixKind P w)))/\(xs.map (·.1)).Nodup
  | .set S n => h.SetOf (intKind P w) a S n
  | .ins C dx fs => H dx = some (.own a)/\fs.length ≤ 1000/\dx ≠ a/\h.get? a = some (PySem.W.instObj C dx) ∧
      ∃ mA, h.Ns1 dx mA/\(∀ f, RelO (fs.lookup f) (mA f))/\PySem.Within mA (fs.map (·.1))
  | .own _ => ∃ o, h.get? a = some o
  | .xd fs => ∃ mA, h.Ns1 a mA/\∀ f, RelO (fs.lookup f) (mA f)
  | .rng lo hi => ∃ t u v, h.get? a = some { cls := .type "range", data := .fields #[.int lo t, .int hi u, .int 1 v] }
  | .frz o u => h.get? a = some o/\ObjOk H h a u
  | .tbl qs => ∃ ps : Array Value, h.get? a = some { cls := .none, data := .fields ps }/\TriplesOk ps.toList/\∀ (pos : Pos) (cv : Value), codeAmong pos ps.toList = some cv->∃ c, cv = .ref c/\H c = some (.cod (qOf qs))
  | .cod q => h.CodeRec (.ref a) q
  | .met f x => h.get? a = some (PySem.W.methodObj (.ref f) (.ref x))
  | .ext φ => φ h/\(∃ o, h.get? a = some o)/\∀ h1 h2 : Heap, φ h1->(∀ o, h1.get? a = some o->h2.get? a = some o)->φ h2
def HOk (H : Hp) (h : Heap) : Prop := ∀ a o, H a = some o->ObjOk P w H h a o
end
section
variable {P : Program} {w : World} {H H' : Hp} {h h' : Heap} {a : Addr} {o : HO}
theorem ObjOk.lt (x : ObjOk P w H h a o) : a < h.objs.size := by
  cases o with
  | lst xs => obtain ⟨_, _, _, _, e⟩ := x; exact Heap.lt_size e
  | tup xs => obtain ⟨_, _, _, p⟩ := x; exact p.lt
  | dK kvs => obtain ⟨_, _, _, _, o, _, _, e, _⟩ := x; exact Heap.lt_size e
  | dT kvs => obtain ⟨_, _, _, _, o, _, _, e, _⟩ := x; exact Heap.lt_size e
  | set S n => obtain ⟨o, _, _, _, e, _⟩ := x; exact Heap.lt_size e
  | ins C dx fs => obtain ⟨_, _, _, e, _⟩ := x; exact Heap.lt_size e
  | own y => obtain ⟨_, e⟩ := x; exact Heap.lt_size e
  | xd fs => obtain ⟨_, ⟨_, _, _, e, _⟩, _⟩ := x; exact Heap.lt_size e
  | rng lo hi => obtain ⟨_, _, _, e⟩ := x; exact Heap.lt_size e
  | frz ob u => obtain ⟨e, _⟩ := x; exact Heap.lt_size e
  | tbl ps => obtain ⟨_, e, _⟩ := x; exact Heap.lt_size e
  | cod q => obtain ⟨_, _, _, _, e0, e, _⟩ := x; cases e0; exact Heap.lt_size e
  | met f y => exact Heap.lt_size (show h.get? a = some _ from x)
  | ext φ => obtain ⟨_, ⟨_, e⟩, _⟩ := x; exact Heap.lt_size e
theorem Paired.mapP {α β : Type} {F G : α->β->Prop} : ∀ {l₁ : List α} {l₂ : List β}, Paired F l₁ l₂->(∀ a b, F a b->G a b)->Paired G l₁ l₂
  | _, _, .nil, _ => .nil
  | _, _, .cons r t, f => .cons (f _ _ r) (Paired.mapP t f)
theorem ObjOk.stay (x : ObjOk P w H h a o) (k : ∀ b u, (b = a ∨ H b = some (.own a))->h.get? b = some u->h'.get? b = some u) (ho : ∀ b, H b = some (.own a)->H' b = some (.own a)) (ht : ∀ b u, Per u->H b = some u->H' b = some u) : ObjOk P w H' h' a o := by
  induction o with
  | lst xs => obtain ⟨z, its, n, r, e⟩ := x; exact ⟨z, its, n, r, k _ _ (.inl rfl) e⟩
  | tup xs => obtain ⟨z, its, r, ob, e, c⟩ := x; exact ⟨z, its, r, ob, k _ _ (.inl rfl) e, c⟩
  | dK kvs => obtain ⟨z, y, vs, r, ob, es, ep, e, c⟩ := x; exact ⟨z, y, vs, r, ob, es, ep, k _ _ (.inl rfl) e, c⟩
  | dT kvs =>
    obtain ⟨z, y, xs, r, ob, es, ep, e, c⟩ := x
    exact ⟨z, y, xs, Paired.mapP r fun p q z => ⟨z.1, ht _ _ trivial z.2.1, z.2.2⟩, ob, es, ep, k _ _ (.inl rfl) e, c⟩
  | set S n => obtain ⟨ob, es, ep, t, e, c⟩ := x; exact ⟨ob, es, ep, t, k _ _ (.inl rfl) e, c⟩
  | ins C dx fs =>
    obtain ⟨d, z, ne, e, mA, ⟨od, es, ep, e2, c⟩, r⟩ := x
    exact ⟨ho _ d, z, ne, k _ _ (.inl rfl) e, mA, ⟨od, es, ep, k _ _ (.inr d) e2, c⟩, r⟩
  | own y => obtain ⟨ob, e⟩ := x; exact ⟨ob, k _ _ (.inl rfl) e⟩
  | xd fs => obtain ⟨mA, ⟨od, es, ep, e, c⟩, r⟩ := x; exact ⟨mA, ⟨od, es, ep, k _ _ (.inl rfl) e, c⟩, r⟩
  | rng lo hi => obtain ⟨t, u, v, e⟩ := x; exact ⟨t, u, v, k _ _ (.inl rfl) e⟩
  | frz ob u ih => obtain ⟨e, q⟩ := x; exact ⟨k _ _ (.inl rfl) e, ih q⟩
  | tbl qs =>
    obtain ⟨ps, e, tr, f⟩ := x
    exact ⟨ps, k a _ (.inl rfl) e, tr, fun pos cv hc => let ⟨c, e1, e2⟩ := f pos cv hc; ⟨c, e1, ht _ _ trivial e2⟩⟩
  | cod q =>
    obtain ⟨c, oc, vs, tq, e0, e, r⟩ := x
    cases e0
    exact ⟨a, oc, vs, tq, rfl, k a _ (.inl rfl) e, r⟩
  | met f y =>
    have e : h.get? a = some (PySem.W.methodObj (.ref f) (.ref y)) := x
    show h'.get? a = some (PySem.W.methodObj (.ref f) (.ref y))
    exact k a _ (.inl rfl) e
  | ext φ => obtain ⟨p, ⟨o, e⟩, st⟩ := x; exact ⟨st _ _ p fun o q => k _ _ (.inl rfl) q, ⟨o, k _ _ (.inl rfl) e⟩, st⟩
theorem HOk.lt (x : HOk P w H h) (e : H a = some o) : a < h.objs.size := (x a o e).lt
theorem HOk.fresh (x : HOk P w H h) (e : h.objs.size ≤ a) : H a = none := by
  cases q : H a with
  | none => rfl
  | some u => exact absurd (Nat.lt_of_lt_of_le (x.lt q) e) (Nat.lt_irrefl _)
theorem HOk.kept (x : HOk P w H h) (k : ∀ b u, h.get? b = some u->h'.get? b = some u) : HOk P w H h' := fun a o e =>
  (x a o e).stay (fun b u _ q => k b u q) (fun _ q => q) fun _ _ _ q => q
theorem HOk.laid (x : HOk P w H h) (k : ∀ b u, h.get? b = some u->h'.get? b = some u) (hp : h.objs.size ≤ a) (new : ObjOk P w (upd H a o) h' a o) : HOk P w (upd H a o) h' := fun b u e => by
  have hn := x.fresh hp
  by_cases hb : b = a
  · subst hb; rw [upd_same] at e; cases e; exact new
  · rw [upd_ne hb] at e
    exact (x b u e).stay (fun c v _ q => k c v q) (fun c q => by rw [upd_ne (ne_of_none q hn)]; exact q) fun c xs _ q => by rw [upd_ne (ne_of_none q hn)]; exact q
end
def Rd (H : Hp) (a : Addr) (u : HO) : Prop := H a = some u ∨ ∃ o, H a = some (.frz o u)
theorem Rd.ok {P : Program} {w : World} {H : Hp} {h : Heap} {a : Addr} {u : HO} (r : Rd H a u) (x : HOk P w H h) : ObjOk P w H h a u := by
  rcases r with r | ⟨o, r⟩
  · exact x a u r
  · obtain ⟨_, q⟩ := x a _ r
    exact q
def Mut : Option HO->Prop
  | some (.lst _) => True
  | some (.dK _) => True
  | some (.dT _) => True
  | some (.set _ _) => True
  | some (.ins _ _ _) => True
  | some (.ext _) => True
  | _ => False
section
variable {P : Program} {w : World} {H : Hp} {h h' : Heap} {x e : Addr} {o' : HO}
theorem HOk.write (ok : HOk P w H h) (mu : Mut (H x)) (he : e = x ∨ H e = some (.own x)) (k : ∀ b u, b ≠ e->h.get? b = some u->h'.get? b = some u) (heo : ∃ u, h'.get? e = some u) (new : ObjOk P w (upd H x o') h' x o') : HOk P w (upd H x o') h' := fun b u q => by
  have nown : ∀ c y, H c = some (.own y)->c ≠ x := fun c y r z => by subst z; rw [r] at mu; exact mu
  have ntup : ∀ c xs, H c = some (.tup xs)->c ≠ x := fun c xs r z => by subst z; rw [r] at mu; exact mu
  have nper : ∀ c u, Per u->H c = some u->c ≠ x := fun c u pu r z => by
    subst z
    rw [r] at mu
    cases u <;> first | exact mu | exact pu
  by_cases hb : b = x
  · subst hb; rw [upd_same] at q; cases q; exact new
  · rw [upd_ne hb] at q
    by_cases hbe : b = e
    · have q' : H b = some (.own x) := by
        rcases he with z | z
        · exact absurd (hbe.trans z) hb
        · rw [hbe]; exact z
      rw [q] at q'; cases q'
      obtain ⟨v, hv⟩ := heo
      exact ⟨v, by rw [hbe]; exact hv⟩
    · refine (ok b u q).stay (fun c v hc r => k c v ?_ r) (fun c r => by rw [upd_ne (nown c b r)]; exact r) fun c u pu r => by rw [upd_ne (nper c u pu r)]; exact r
      rcases hc with rfl | hc
      · exact hbe
      · rintro rfl
        rcases he with z | z
        · exact nown c b hc z
        · rw [hc] at z; cases z; exact hb rfl
end
structure Un (fs ex : List Addr) (H H' : Hp) (h h' : Heap) : Prop where
  keep : ∀ b o, h.get? b = some o->H b = none->b ∉ fs->b ∉ ex->h'.get? b = some o
  slot : ∀ b o, h.get? b = some o->H b = none->b ∈ fs->b ∉ ex->∃ sl, h'.get? b = some { o with slots := sl }
  free : ∀ b o, h.get? b = some o->H b = none->b ∉ ex->H' b = none
  there : ∀ b o, h.get? b = some o->b ∉ ex->∃ o', h'.get? b = some o'
  tups : ∀ b xs, H b = some (.tup xs)->H' b = some (.tup xs)
  frzs : ∀ b o u, H b = some (.frz o u)->H' b = some (.frz o u)
  tbls : ∀ b ps, H b = some (.tbl ps)->∃ more, H' b = some (.tbl (ps ++ more))
section
variable {fs fs' ex ex' : List Addr} {H H1 H2 : Hp} {h h1 h2 h' : Heap} {a x e : Addr} {o : HO}
theorem Un.any (u : Un fs ex H H1 h h1) {b : Addr} {ob : Obj} (q : h.get? b = some ob) (n : H b = none) (hx : b ∉ ex) : ∃ sl, h1.get? b = some { ob with slots := sl } := by
  by_cases hb : b ∈ fs
  · exact u.slot b ob q n hb hx
  · exact ⟨ob.slots, u.keep b ob q n hb hx⟩
theorem Un.kept (k : ∀ b u, h.get? b = some u->h'.get? b = some u) : Un fs ex H H h h' :=
  ⟨fun b ob q _ _ _ => k b ob q, fun b ob q _ _ _ => ⟨ob.slots, k b ob q⟩, fun _ _ _ n _ => n, fun b ob q _ => ⟨ob, k b ob q⟩, fun _ _ q => q, fun _ _ _ q => q, fun _ ps q => ⟨#[], by rw [q]; simp⟩⟩
theorem Un.refl : Un fs ex H H h h := Un.kept fun _ _ q => q
theorem Un.laid (k : ∀ b u, h.get? b = some u->h'.get? b = some u) (hp : h.objs.size ≤ a) (hn : H a = none) : Un fs ex H (upd H a o) h h' where
  keep := fun b u q _ _ _ => k b u q
  slot := fun b u q _ _ _ => ⟨u.slots, k b u q⟩
  free := fun b u q n _ => by rw [upd_ne (Nat.ne_of_lt (Nat.lt_of_lt_of_le (Heap.lt_size q) hp))]; exact n
  there := fun b u q _ => ⟨u, k b u q⟩
  tups := fun b xs q => by rw [upd_ne (ne_of_none q hn)]; exact q
  frzs := fun b u xs q => by rw [upd_ne (ne_of_none q hn)]; exact q
  tbls := fun b ps q => ⟨#[], by rw [upd_ne (ne_of_none q hn), q]; simp⟩
theorem Un.write (mu : Mut (H x)) (he : e = x ∨ H e = some (.own x)) (k : ∀ b u, b ≠ e->h.get? b = some u->h'.get? b = some u) (heo : ∃ u, h'.get? e = some u) : Un fs ex H (upd H x o) h h' := by
  have hx : ∀ b, H b = none->b ≠ x := fun b n z => by subst z; rw [n] at mu; exact mu
  have hb : ∀ b, H b = none->b ≠ e := fun b n z => by
    subst z
    rcases he with r | r
    · exact hx b n r
    · rw [n] at r; cases r
  have hm : ∀ b u, H b = some u->¬ Mut (some u)->b ≠ x := fun b u q nm z => by subst z; rw [q] at mu; exact nm mu
  refine ⟨fun b u q n _ _ => k b u (hb b n) q, fun b u q n _ _ => ⟨u.slots, k b u (hb b n) q⟩, fun b u q n _ => by rw [upd_ne (hx b n)]; exact n, fun b u q _ => ?_,
    fun b xs q => by rw [upd_ne (hm b _ q fun z => z)]; exact q, fun b u xs q => by rw [upd_ne (hm b _ q fun z => z)]; exact q, fun b ps q => ⟨#[], by rw [upd_ne (hm b _ q fun z => z), q]; simp⟩⟩
  by_cases hbe : b = e
  · subst hbe; exact heo
  · exact ⟨u, k b u hbe q⟩
end
def trk (h : Heap) (H : Hp) : List Addr := (List.range h.objs.size).filter fun a => (H a).isSome
def hidT (h : Heap) (H : Hp) : Heap := PySem.W.hideAll h (trk h H)
theorem hidT_size (h : Heap) (H : Hp) : (hidT h H).objs.size = h.objs.size := PySem.W.hideAll_size _ _
theorem hidT_get {h : Heap} {H : Hp} {b : Addr} {o : Obj} (e : h.get? b = some o) (n : H b = none) : (hidT h H).get? b = some o :=
  PySem.W.hideAll_get _ e fun hm => by
    have q : (H b).isSome = true := (List.mem_filter.mp hm).2
    rw [n] at q; simp at q
theorem of_hidT {h : Heap} {H : Hp} {b : Addr} {o : Obj} (e : (hidT h H).get? b = some o) : h.get? b = some o/\H b = none := by
  have e' : h.get? b = some o := PySem.W.of_hideAll (trk h H) e
  refine ⟨e', ?_⟩
  cases q : H b with
  | none => rfl
  | some x =>
    have hm : b ∈ trk h H := List.mem_filter.mpr ⟨List.mem_range.mpr (Heap.lt_size e'), by simp [q]⟩
    have z : (hidT h H).get? b = none := PySem.W.hideAll_none (trk h H) hm
    rw [z] at e; cases e
def allNews (g h : Heap) (L : Addr) : List (Addr × Obj) := (List.range h.objs.size).filterMap fun a => if a = L ∨ (g.get? a).isSome = true then none else (h.get? a).map fun o => (a, o)
theorem mem_allNews {g h : Heap} {L a : Addr} {o : Obj} (h1 : a ≠ L) (h2 : g.get? a = none) (h3 : h.get? a = some o) : (a, o) ∈ allNews g h L :=
  List.mem_filterMap.mpr ⟨a, List.mem_range.mpr (Heap.lt_size h3), by simp [h1, h2, h3]⟩
theorem of_mem_allNews {g h : Heap} {L : Addr} {p : Addr × Obj} (hp : p ∈ allNews g h L) : p.1 ≠ L/\g.get? p.1 = none/\h.get? p.1 = some p.2 := by
  obtain ⟨b, _, e⟩ := List.mem_filterMap.mp hp
  split at e
  · cases e
  · rename_i hn
    cases q : h.get? b with
    | none => rw [q] at e; simp at e
    | some u =>
      rw [q] at e
      simp only [Option.map_some, Option.some.injEq] at e
      subst e
      refine ⟨fun z => hn (.inl z), ?_, q⟩
      show g.get? b = none
      cases r : g.get? b with
      | none => rfl
      | some v => exact (hn (.inr (by simp [r]))).elim
theorem news_all {g h : Heap} {L : Addr} : News g L h (allNews g h L) := fun p hp => let ⟨a, b, c⟩ := of_mem_allNews hp; ⟨c, a, b⟩
end L2
namespace L2
open PySem PySem.Spec PyProof.Rows
structure Mod (K : PySem.W.Frag) (mg : Str->Option Value) (base : Heap) : Prop where
  kin : K.In base
  glob : base.Ns mainGlobals mg
  blt : ∃ mb, base.Ns builtinsNs mb/\∀ x : Str, x ≠ "__name__"->mb x = bootBuiltins x
  nolimit : base.NoLimit
  bmain : ∃ bm ob, mg "__builtins__" = some (.ref bm)/\bm ≠ builtinsNs/\base.get? bm = some ob/\ob.cls = .type "module"/\ob.dict = some builtinsNs/\ob.data = .plain
structure Cx where
  prog : Program
  w : World
  K : PySem.W.Frag
  mg : Str->Option Value
  base : Heap
  A : Around
  N : List Str
  s₀ : Shared
  H₀ : Hp
  env : Env
  outer : List Env
  stack : List Env
  ex : List Addr
  fn : Str->Bool
  calm : Bool
  pn : List (Addr × Obj)
  xe : Value->Shared->Prop
def frs (l : List Env) : List Addr := l.filterMap (·.frame)
abbrev Cx.fs (X : Cx) : List Addr := frs X.outer
def Vis (sc : Scope) (x : Str) : Prop := sc.names.lookup x = some .local ∨ sc.names.lookup x = some .cell ∨ sc.names.lookup x = some .free
def Loc (sc : Scope) (x : Str) : Prop := sc.names.lookup x = some .local ∨ sc.names.lookup x = some .cell
def Look (env : Env) (h : Heap) (m : Str->Option Value) (x : Str) (u : Value) : Prop :=
  (env.kindOf x = some .local/\m x = some u) ∨ ((env.kindOf x = some .cell ∨ env.kindOf x = some .free)/\∃ c, env.cells.lookup x = some c/\h.IsCell c (some u))
structure Cx.Ok (X : Cx) : Prop where
  mod : Mod X.K X.mg X.base
  kind : X.env.scope.kind = .function
  glob : X.env.globals = mainGlobals
  blt : X.env.builtins = builtinsNs
  above : X.s₀.heap.objs.size ≤ X.env.locals
  inj : ∀ x y c, X.env.cells.lookup x = some c->X.env.cells.lookup y = some c->x = y
  has : ∀ x, (X.env.kindOf x = some .cell ∨ X.env.kindOf x = some .free)->∃ c, X.env.cells.lookup x = some c
  cab : ∀ x c, X.fn x = true->X.env.cells.lookup x = some c->X.s₀.heap.objs.size ≤ c
  hd : X.calm = true->X.A.handled = none
  frames : X.A.frames = some X.stack
  stk : X.stack = X.outer ∨ (X.stack = X.env :: X.outer/\X.env.frame = some X.env.locals)
  exf : ∀ b ∈ X.ex, b ≠ X.env.locals/\∀ x c, X.env.cells.lookup x = some c->c ≠ b
  bs : ∀ b o, X.base.get? b = some o->X.s₀.heap.get? b = some o/\X.H₀ b = none
  bsz : X.base.objs.size ≤ X.s₀.heap.objs.size
  noex : ∀ b o, X.base.get? b = some o->b ∉ X.ex
  exfs : ∀ b ∈ X.ex, b ∉ X.fs
  funs : X.s₀.heap.FunFrames X.base X.outer
  frf : ∀ b ∈ X.fs, X.H₀ b = none
structure Inv (X : Cx) (pins : List (Addr × Obj)) (σ : List (Option V)) (H : Hp) (s : Shared) : Prop where
  ok : X.Ok
  os : s.os = X.s₀.os
  bare : AllBare s.gens
  base : Un X.fs X.ex X.H₀ H X.s₀.heap s.heap
  loc : ∃ m, s.heap.Ns X.env.locals m/\∀ (i : Nat) (x : Str) (v : V), X.N[i]? = some x->σ[i]? = some (some v)->Vis X.env.scope x->∃ u, RelV v u/\Look X.env s.heap m x u
  cell : ∀ x c, X.env.cells.lookup x = some c->∃ v, s.heap.IsCell c v
  free : H X.env.locals = none
  freeC : ∀ x c, X.env.cells.lookup x = some c->H c = none
  pin : ∀ p ∈ X.pn ++ pins, s.heap.get? p.1 = some p.2/\H p.1 = none/\p.1 ≠ X.env.locals/\p.1 ∉ X.fs/\∀ v, p.2.data ≠ .cell v
  hok : HOk X.prog X.w H s.heap
  len : σ.length = X.N.length
section
variable {X : Cx} {pins : List (Addr × Obj)} {σ : List (Option V)} {H H' : Hp} {s : Shared} {h' : Heap}
theorem Cx.Ok.nofr (ok : X.Ok) {b : Addr} {o : Obj} (e : X.base.get? b = some o) : b ∉ X.fs := fun hb => by
  have := (ok.funs.mem hb).1
  rw [e] at this; cases this
theorem Inv.bs (I : Inv X pins σ H s) : ∀ b o, X.base.get? b = some o->s.heap.get? b = some o/\H b = none := fun b o e =>
  ⟨I.base.keep b o (I.ok.bs b o e).1 (I.ok.bs b o e).2 (I.ok.nofr e) (I.ok.noex b o e), I.base.free b o (I.ok.bs b o e).1 (I.ok.bs b o e).2 (I.ok.noex b o e)⟩
theorem Inv.bk (I : Inv X pins σ H s) : ∀ b o, X.base.get? b = some o->s.heap.get? b = some o := fun b o e => (I.bs b o e).1
theorem Inv.mod (I : Inv X pins σ H s) : Mod X.K X.mg X.base := I.ok.mod
theorem Inv.kIn (I : Inv X pins σ H s) : X.K.In s.heap := I.ok.mod.kin.keeps I.bk
theorem Inv.fr (I : Inv X pins σ H s) : ∃ m, Fr X.base X.env.locals s.heap m :=
  let ⟨m, hn, _⟩ := I.loc
  ⟨m, hn, I.bk, Nat.le_trans I.ok.bsz I.ok.above⟩
theorem Inv.lt (I : Inv X pins σ H s) : X.env.locals < s.heap.objs.size := let ⟨_, hn, _⟩ := I.loc; hn.lt
theorem Inv.sz (I : Inv X pins σ H s) : X.s₀.heap.objs.size ≤ s.heap.objs.size := Nat.le_trans I.ok.above (Nat.le_of_lt I.lt)
theorem Inv.nofs (I : Inv X pins σ H s) {a : Addr} (h : s.heap.objs.size ≤ a) : a ∉ X.fs := fun hb => by
  obtain ⟨_, o, ho, _⟩ := I.ok.funs.mem hb
  exact absurd (Nat.lt_of_lt_of_le (Heap.lt_size ho) (Nat.le_trans I.sz h)) (Nat.lt_irrefl _)
theorem Inv.cne (I : Inv X pins σ H s) : ∀ x c, X.env.cells.lookup x = some c->c ≠ X.env.locals := fun x c e z => by
  obtain ⟨v, o, ho, hd⟩ := I.cell x c e
  obtain ⟨m, ⟨o', es, ep, ho', hd', _⟩, _⟩ := I.loc
  rw [z, ho'] at ho; cases ho; rw [hd'] at hd; cases hd
theorem Inv.funs (I : Inv X pins σ H s) : s.heap.FunFrames X.base X.outer := by
  have all : ∀ (l : List Env), (∀ b ∈ frs l, b ∈ X.fs)->X.s₀.heap.FunFrames X.base l->s.heap.FunFrames X.base l := by
    intro l
    induction l with
    | nil => intro _ _; trivial
    | cons env r ih =>
      intro hs hl
      obtain ⟨hk, ⟨L, o, hf, hn, ho, hd⟩, hr⟩ := hl
      have hL : L ∈ X.fs := hs L (by unfold frs; rw [List.filterMap_cons, hf]; exact List.mem_cons_self)
      obtain ⟨sl, e⟩ := I.base.slot L o ho (I.ok.frf L hL) hL fun z => I.ok.exfs L z hL
      exact ⟨hk, ⟨L, _, hf, hn, e, hd⟩, ih (fun b hb => hs b (by unfold frs; rw [List.filterMap_cons, hf]; exact List.mem_cons_of_mem _ hb)) hr⟩
  exact all X.outer (fun _ hb => hb) I.ok.funs
theorem Inv.stack (I : Inv X pins σ H s) : s.heap.FunFrames X.base X.stack := by
  rcases I.ok.stk with e | ⟨e, hf⟩
  · rw [e]; exact I.funs
  · rw [e]
    obtain ⟨m, hn, _⟩ := I.loc
    refine .cons (by rw [I.ok.kind]; decide) hf hn ?_ I.funs
    exact Heap.get?_none_of_le (Nat.le_trans I.ok.bsz I.ok.above)
theorem Inv.stkSub (I : Inv X pins σ H s) : ∀ b ∈ frs X.stack, b ∈ X.env.locals :: X.fs := fun b hb => by
  rcases I.ok.stk with e | ⟨e, hf⟩
  · rw [e] at hb; exact List.mem_cons_of_mem _ hb
  · rw [e] at hb
    unfold frs at hb
    rw [List.filterMap_cons, hf] at hb
    exact hb
theorem Inv.stkFree (I : Inv X pins σ H s) : ∀ b ∈ frs X.stack, H b = none := fun b hb => by
  rcases List.mem_cons.mp (I.stkSub b hb) with e | hb
  · rw [e]; exact I.free
  · obtain ⟨_, o, ho, _⟩ := I.ok.funs.mem hb
    exact I.base.free b o ho (I.ok.frf b hb) fun z => I.ok.exfs b z hb
theorem Inv.step {g' : Array GenState} {t' : Nat} {d' : Drawn} {ch : List Addr} (I : Inv X pins σ H s) (hch : ∀ b ∈ ch, (b ∈ X.ex ∨ X.s₀.heap.objs.size ≤ b)/\b ≠ X.env.locals/\(∀ x c, X.env.cells.lookup x = some c->c ≠ b)/\∀ p ∈ X.pn ++ pins, p.1 ≠ b) (keep : ∀ b o, b ≠ X.env.locals->b ∉ X.fs->b ∉ ch->s.heap.get? b = some o->H b = none->h'.get? b = some o) (slot : ∀ b o, b ≠ X.env.locals->b ∈ X.fs->b ∉ ch->s.heap.get? b = some o->H b = none->∃ sl, h'.get? b = some { o with slots := sl }) (free : ∀ b o, b ∉ ch->s.heap.get? b = some o->H b = none->H' b = none)
    (there : ∀ b o, b ∉ ch->s.heap.get? b = some o->∃ o', h'.get? b = some o')
    (tups : ∀ b xs, H b = some (.tup xs)->H' b = some (.tup xs)) (frzs : ∀ b o u, H b = some (.frz o u)->H' b = some (.frz o u)) (tbls : ∀ b ps, H b = some (.tbl ps)->∃ more, H' b = some (.tbl (ps ++ more)))
    (ns : ∀ m, s.heap.Ns X.env.locals m->h'.Ns X.env.locals m) (hok : HOk X.prog X.w H' h') (hg : AllBare g') :
    Inv X pins σ H' { s with heap := h', gens := g', drawn := d', toks := t' } := by
  have neL : ∀ b o, X.s₀.heap.get? b = some o->b ≠ X.env.locals := fun b o e => Nat.ne_of_lt (Nat.lt_of_lt_of_le (Heap.lt_size e) I.ok.above)
  have neC : ∀ b o, X.s₀.heap.get? b = some o->b ∉ X.ex->b ∉ ch := fun b o e hx hb => by
    rcases (hch b hb).1 with z | z
    · exact hx z
    · exact absurd (Nat.lt_of_lt_of_le (Heap.lt_size e) z) (Nat.lt_irrefl _)
  have cellK : ∀ x c, X.env.cells.lookup x = some c->∀ v, s.heap.IsCell c v->h'.IsCell c v := fun x c e v ⟨o, ho, hd⟩ => by
    have nch : c ∉ ch := fun z => (hch c z).2.2.1 x c e rfl
    by_cases hc : c ∈ X.fs
    · obtain ⟨sl, q⟩ := slot c o (I.cne x c e) hc nch ho (I.freeC x c e)
      exact ⟨_, q, hd⟩
    · exact ⟨o, keep c o (I.cne x c e) hc nch ho (I.freeC x c e), hd⟩
  refine ⟨I.ok, I.os, hg, ⟨fun b o e n hb hx => ?_, fun b o e n hb hx => ?_, fun b o e n hx => ?_, fun b o e hx => ?_, fun b xs e => tups b xs (I.base.tups b xs e), fun b o xs e => frzs b o xs (I.base.frzs b o xs e), fun b ps e => ?_⟩, ?_, fun x c e => ?_, ?_, fun x c e => ?_, fun p hp => ?_, hok, I.len⟩
  · exact keep b o (neL b o e) hb (neC b o e hx) (I.base.keep b o e n hb hx) (I.base.free b o e n hx)
  · obtain ⟨sl, e1⟩ := I.base.slot b o e n hb hx
    obtain ⟨sl', e2⟩ := slot b _ (neL b o e) hb (neC b o e hx) e1 (I.base.free b o e n hx)
    exact ⟨sl', e2⟩
  · obtain ⟨o', e1⟩ := I.base.there b o e hx
    exact free b o' (neC b o e hx) e1 (I.base.free b o e n hx)
  · obtain ⟨o', e1⟩ := I.base.there b o e hx
    exact there b o' (neC b o e hx) e1
  · obtain ⟨m1, e1⟩ := I.base.tbls b ps e
    obtain ⟨m2, e2⟩ := tbls b _ e1
    exact ⟨m1 ++ m2, by rw [e2, Array.append_assoc]⟩
  · obtain ⟨m, hn, hl⟩ := I.loc
    refine ⟨m, ns m hn, fun i x v e1 e2 e3 => ?_⟩
    obtain ⟨u, r, l⟩ := hl i x v e1 e2 e3
    refine ⟨u, r, ?_⟩
    rcases l with l | ⟨k, c, e, z⟩
    · exact .inl l
    · exact .inr ⟨k, c, e, cellK x c e _ z⟩
  · obtain ⟨v, z⟩ := I.cell x c e
    exact ⟨v, cellK x c e v z⟩
  · obtain ⟨m, ⟨o, _, _, ho, _⟩, _⟩ := I.loc
    exact free _ o (fun z => (hch _ z).2.1 rfl) ho I.free
  · obtain ⟨v, o, ho, hd⟩ := I.cell x c e
    exact free c o (fun z => (hch c z).2.2.1 x c e rfl) ho (I.freeC x c e)
  · obtain ⟨e, n, ne, nf, d⟩ := I.pin p hp
    have nch : p.1 ∉ ch := fun z => (hch p.1 z).2.2.2 p hp rfl
    exact ⟨keep p.1 p.2 ne nf nch e n, free p.1 p.2 nch e n, ne, nf, d⟩
theorem Inv.un {t' : Nat} (I : Inv X pins σ H s) (u : Un X.fs [] H H' s.heap h') (hok : HOk X.prog X.w H' h') : Inv X pins σ H' { s with heap := h', toks := t' } := by
  obtain ⟨m, ⟨o, es, ep, ho, r⟩, _⟩ := id I.loc
  obtain ⟨sl, hL⟩ := u.any ho I.free (by simp)
  exact I.step (g' := s.gens) (d' := s.drawn) (ch := []) (fun _ z => nomatch z) (fun b o _ hb _ e n => u.keep b o e n hb (by simp)) (fun b o _ hb _ e n => u.slot b o e n hb (by simp)) (fun b o _ e n => u.free b o e n (by simp)) (fun b o _ e => u.there b o e (by simp)) u.tups u.frzs u.tbls (fun m' hm => by
    obtain ⟨o', es', ep', ho', r'⟩ := hm
    rw [ho] at ho'; cases ho'
    exact ⟨_, es', ep', hL, r'⟩) hok I.bare
theorem Inv.call {g' : Array GenState} {t' : Nat} {d' : Drawn} {ch : List Addr} (I : Inv X pins σ H s) (u : Un (frs X.stack) ch H H' s.heap h') (hok : HOk X.prog X.w H' h') (hg : AllBare g') (hch : ∀ b ∈ ch, (b ∈ X.ex ∨ X.s₀.heap.objs.size ≤ b)/\b ≠ X.env.locals/\(∀ x c, X.env.cells.lookup x = some c->c ≠ b)/\∀ p ∈ X.pn ++ pins, p.1 ≠ b) : Inv X pins σ H' { s with heap := h', gens := g', drawn := d', toks := t' } := by
  obtain ⟨m, ⟨o, es, ep, ho, r⟩, _⟩ := id I.loc
  obtain ⟨sl, hL⟩ := u.any ho I.free fun z => (hch _ z).2.1 rfl
  exact I.step (ch := ch) hch (fun b o hL hb hc e n => u.keep b o e n (fun z => (List.mem_cons.mp (I.stkSub b z)).elim hL hb) hc) (fun b o _ _ hc e n => u.any e n hc) (fun b o hc e n => u.free b o e n hc) (fun b o hc e => u.there b o e hc) u.tups u.frzs u.tbls (fun m' hm => by
    obtain ⟨o', es', ep', ho', r'⟩ := hm
    rw [ho] at ho'; cases ho'
    exact ⟨_, es', ep', hL, r'⟩) hok hg
theorem Inv.turned {t' : Nat} {it : Addr} (I : Inv X pins σ H s) (k : ∀ b o, b ≠ it->s.heap.get? b = some o->h'.get? b = some o) (hn : H it = none) (hL : it ≠ X.env.locals) (h1 : it ∈ X.ex ∨ X.s₀.heap.objs.size ≤ it) (h2 : ∀ x c, X.env.cells.lookup x = some c->c ≠ it) (h3 : ∀ p ∈ X.pn ++ pins, p.1 ≠ it) : Inv X pins σ H { s with heap := h', toks := t' } := by
  have nit : ∀ b u, H b = some u->b ≠ it := fun b u e z => by rw [z, hn] at e; cases e
  refine I.step (g' := s.gens) (d' := s.drawn) (ch := [it]) (fun b hb => ?_) (fun b o _ _ hc e _ => k b o (fun z => hc (by simp [z])) e) (fun b o _ _ hc e _ => ⟨o.slots, k b o (fun z => hc (by simp [z])) e⟩) (fun _ _ _ _ n => n)
    (fun b o hc e => ⟨o, k b o (fun z => hc (by simp [z])) e⟩) (fun _ _ e => e) (fun _ _ _ e => e) (fun b ps e => ⟨#[], by rw [e]; simp⟩) (fun m hm => ?_) (fun b u e => ?_) I.bare
  · have e : b = it := by simpa using hb
    subst e
    exact ⟨h1, hL, h2, h3⟩
  · obtain ⟨o, es, ep, ho, r⟩ := hm
    exact ⟨o, es, ep, k _ o (Ne.symm hL) ho, r⟩
  · refine (I.hok b u e).stay (fun c v hc q => k c v ?_ q) (fun _ q => q) fun _ _ _ q => q
    rcases hc with z | z
    · rw [z]; exact nit b u e
    · exact nit c _ z
theorem Inv.tok (I : Inv X pins σ H s) (t : Nat) : Inv X pins σ H { s with toks := t } := I.un (h' := s.heap) (t' := t) Un.refl I.hok
theorem Inv.kept {t' : Nat} (I : Inv X pins σ H s) (k : ∀ b u, s.heap.get? b = some u->h'.get? b = some u) : Inv X pins σ H { s with heap := h', toks := t' } := I.un (Un.kept k) (I.hok.kept k)
theorem Inv.laid {a : Addr} {o : HO} {t' : Nat} (I : Inv X pins σ H s) (k : ∀ b u, s.heap.get? b = some u->h'.get? b = some u) (hp : s.heap.objs.size ≤ a) (new : ObjOk X.prog X.w (upd H a o) h' a o) : Inv X pins σ (upd H a o) { s with heap := h', toks := t' } := I.un (Un.laid k hp (I.hok.fresh hp)) (I.hok.laid k hp new)
theorem Inv.write {x e : Addr} {o : HO} {t' : Nat} (I : Inv X pins σ H s) (mu : Mut (H x)) (he : e = x ∨ H e = some (.own x)) (k : ∀ b u, b ≠ e->s.heap.get? b = some u->h'.get? b = some u) (heo : ∃ u, h'.get? e = some u) (new : ObjOk X.prog X.w (upd H x o) h' x o) : Inv X pins σ (upd H x o) { s with heap := h', toks := t' } := I.un (Un.write mu he k heo) (I.hok.write mu he k heo new)
theorem Inv.weak {σ' : List (Option V)} (I : Inv X pins σ H s) (hl : σ'.length = σ.length) (w : ∀ (i : Nat) v, σ'[i]? = some (some v)->σ[i]? = some (some v)) : Inv X pins σ' H s :=
  ⟨I.ok, I.os, I.bare, I.base, let ⟨m, hn, hl'⟩ := I.loc; ⟨m, hn, fun i x v e1 e2 e3 => hl' i x v e1 (w i v e2) e3⟩, I.cell, I.free, I.freeC, I.pin, I.hok, hl.trans I.len⟩
theorem Inv.pins_of {pins' : List (Addr × Obj)} (I : Inv X pins σ H s) (h : ∀ p ∈ pins', s.heap.get? p.1 = some p.2/\H p.1 = none/\p.1 ≠ X.env.locals/\p.1 ∉ X.fs/\∀ v, p.2.data ≠ .cell v) : Inv X pins' σ H s :=
  ⟨I.ok, I.os, I.bare, I.base, I.loc, I.cell, I.free, I.freeC, fun p hp => (List.mem_append.mp hp).elim (fun z => I.pin p (List.mem_append_left _ z)) (h p), I.hok, I.len⟩
theorem nodup_ix {N : List Str} (hN : N.Nodup) {i j : Nat} {x : Str} (a : N[i]? = some x) (b : N[j]? = some x) : i = j := by
  obtain ⟨h1, e1⟩ := List.getElem?_eq_some_iff.mp a
  obtain ⟨h2, e2⟩ := List.getElem?_eq_some_iff.mp b
  exact (List.getElem_inj hN).mp (e1.trans e2.symm)
theorem store_ok2 {M : Model} {A : Around} {E : Value->Shared->Prop} {i : Nat} {x : Str} {v : V} {u : Value} {Q : Unit->Shared->Prop} (I : Inv X pins σ H s) (hN : X.N.Nodup) (hi : X.N[i]? = some x) (hx : Loc X.env.scope x) (r : RelV v u) (h : ∀ s', Inv X pins (σ.set i (some v)) H s'->(∃ a, Heap.SameBut a s.heap s'.heap/\(a = X.env.locals ∨ X.env.cells.lookup x = some a))->Q () s') (hf : X.fn x = true ∨ X.env.scope.names.lookup x = some .local := by first | exact .inl rfl | exact .inr rfl | assumption) : wpAny M A (storeName X.env x u) Q E s := by
  obtain ⟨m, hn, hl⟩ := id I.loc
  have hcls : (X.env.scope.kind == .class || (X.env.scope.kind == .module && X.env.locals != X.env.globals)) = false := by rw [I.ok.kind]; rfl
  have hiσ : i < σ.length := by rw [I.len]; exact (List.getElem?_eq_some_iff.mp hi).1
  have cne := I.cne
  have tracked : ∀ {a : Addr} {h' : Heap}, (∃ o, s.heap.get? a = some o/\H a = none)->Heap.SameBut a s.heap h'->HOk X.prog X.w H h' := fun {a h'} ha hs b ob e => by
    obtain ⟨_, _, hfree⟩ := ha
    refine (I.hok b ob e).stay (fun c w' hc q => (hs.2 c ?_).trans q) (fun _ q => q) fun _ _ _ q => q
    rintro rfl
    rcases hc with rfl | hc
    · rw [hfree] at e; cases e
    · rw [hfree] at hc; cases hc
  rcases hx with hk | hk
  · refine wpAny_storeName_local hk hn (fun h' hn' hs => ?_) hcls
    obtain ⟨oL, _, _, hoL, _⟩ := id hn
    refine h _ ⟨I.ok, I.os, I.bare, ⟨fun b o e n hb hx => ?_, fun b o e n hb hx => ?_, I.base.free, fun b o e hx => ?_, I.base.tups, I.base.frzs, I.base.tbls⟩, ⟨_, hn', fun j y v' e1 e2 e3 => ?_⟩, fun y c e => ?_, I.free, I.freeC, fun p hp => ?_, tracked ⟨oL, hoL, I.free⟩ hs, by simpa using I.len⟩ ⟨_, hs, .inl rfl⟩
    · exact (hs.2 b (Nat.ne_of_lt (Nat.lt_of_lt_of_le (Heap.lt_size e) I.ok.above))).trans (I.base.keep b o e n hb hx)
    · obtain ⟨sl, e1⟩ := I.base.slot b o e n hb hx
      exact ⟨sl, (hs.2 b (Nat.ne_of_lt (Nat.lt_of_lt_of_le (Heap.lt_size e) I.ok.above))).trans e1⟩
    · obtain ⟨o', e1⟩ := I.base.there b o e hx
      exact ⟨o', (hs.2 b (Nat.ne_of_lt (Nat.lt_of_lt_of_le (Heap.lt_size e) I.ok.above))).trans e1⟩
    · by_cases hj : j = i
      · subst hj
        rw [hi] at e1; cases e1
        rw [List.getElem?_set_self hiσ] at e2
        cases e2
        exact ⟨u, r, .inl ⟨hk, by simp⟩⟩
      · rw [List.getElem?_set_ne (Ne.symm hj)] at e2
        obtain ⟨u', r', q⟩ := hl j y v' e1 e2 e3
        refine ⟨u', r', ?_⟩
        rcases q with ⟨k, e⟩ | ⟨k, c, e, z⟩
        · refine .inl ⟨k, ?_⟩
          have : y ≠ x := fun e => hj (nodup_ix hN e1 (e ▸ hi))
          simp [this, e]
        · exact .inr ⟨k, c, e, z.sameBut hs (cne y c e)⟩
    · obtain ⟨w', z⟩ := I.cell y c e
      exact ⟨w', z.sameBut hs (cne y c e)⟩
    · obtain ⟨e, n, ne, nf, d⟩ := I.pin p hp
      exact ⟨(hs.2 p.1 ne).trans e, n, ne, nf, d⟩
  · have hfn : X.fn x = true := by
      rcases hf with z | z
      · exact z
      · rw [z] at hk; cases hk
    obtain ⟨c, hc⟩ := I.ok.has x (.inl hk)
    obtain ⟨w', z⟩ := I.cell x c hc
    refine wpAny_storeName_cell I.ok.kind hk hc z (fun h' hc' hs => ?_)
    obtain ⟨oc, hoc, hocd⟩ := id z
    refine h { s with heap := h' } ⟨I.ok, I.os, I.bare, ⟨fun b o e n hb hx => ?_, fun b o e n hb hx => ?_, I.base.free, fun b o e hx => ?_, I.base.tups, I.base.frzs, I.base.tbls⟩, ⟨m, hn.sameBut hs (Ne.symm (cne x c hc)), fun j y v' e1 e2 e3 => ?_⟩, fun y c' e => ?_, I.free, I.freeC, fun p hp => ?_, tracked ⟨oc, hoc, I.freeC x c hc⟩ hs, by simpa using I.len⟩ ⟨c, hs, .inr hc⟩
    · exact (hs.2 b (Nat.ne_of_lt (Nat.lt_of_lt_of_le (Heap.lt_size e) (I.ok.cab x c hfn hc)))).trans (I.base.keep b o e n hb hx)
    · obtain ⟨sl, e1⟩ := I.base.slot b o e n hb hx
      exact ⟨sl, (hs.2 b (Nat.ne_of_lt (Nat.lt_of_lt_of_le (Heap.lt_size e) (I.ok.cab x c hfn hc)))).trans e1⟩
    · obtain ⟨o', e1⟩ := I.base.there b o e hx
      exact ⟨o', (hs.2 b (Nat.ne_of_lt (Nat.lt_of_lt_of_le (Heap.lt_size e) (I.ok.cab x c hfn hc)))).trans e1⟩
    · by_cases hj : j = i
      · subst hj
        rw [hi] at e1; cases e1
        rw [List.getElem?_set_self hiσ] at e2
        cases e2
        exact ⟨u, r, .inr ⟨.inl hk, c, hc, hc'⟩⟩
      · rw [List.getElem?_set_ne (Ne.symm hj)] at e2
        obtain ⟨u', r', q⟩ := hl j y v' e1 e2 e3
        refine ⟨u', r', ?_⟩
        rcases q with q | ⟨k, c', e, z'⟩
        · exact .inl q
        · refine .inr ⟨k, c', e, z'.sameBut hs ?_⟩
          rintro rfl
          exact hj (nodup_ix hN e1 (I.ok.inj _ _ _ e hc ▸ hi))
    · by_cases hcc : c' = c
      · subst hcc; exact ⟨_, hc'⟩
      · obtain ⟨w2, z2⟩ := I.cell y c' e
        exact ⟨w2, z2.sameBut hs hcc⟩
    · obtain ⟨e, n, ne, nf, d⟩ := I.pin p hp
      refine ⟨(hs.2 p.1 ?_).trans e, n, ne, nf, d⟩
      intro q
      rw [q, hoc] at e
      have q' : oc = p.2 := Option.some.inj e
      exact d w' (by rw [← q']; exact hocd)
theorem store_ok {M : Model} {A : Around} {E : Value->Shared->Prop} {i : Nat} {x : Str} {v : V} {u : Value} {Q : Unit->Shared->Prop} (I : Inv X pins σ H s) (hN : X.N.Nodup) (hi : X.N[i]? = some x) (hx : Loc X.env.scope x) (r : RelV v u) (h : ∀ s', Inv X pins (σ.set i (some v)) H s'->Q () s') (hf : X.fn x = true ∨ X.env.scope.names.lookup x = some .local := by first | exact .inl rfl | exact .inr rfl | assumption) : wpAny M A (storeName X.env x u) Q E s :=
  store_ok2 I hN hi hx r (fun s' I' _ => h s' I') hf
theorem Inv.call' {s' : Shared} {ch : List Addr} (I : Inv X pins σ H s) (ho : s'.os = s.os) (u : Un (frs X.stack) ch H H' s.heap s'.heap) (hok : HOk X.prog X.w H' s'.heap) (hg : AllBare s'.gens) (hch : ∀ b ∈ ch, (b ∈ X.ex ∨ X.s₀.heap.objs.size ≤ b)/\b ≠ X.env.locals/\(∀ x c, X.env.cells.lookup x = some c->c ≠ b)/\∀ p ∈ X.pn ++ pins, p.1 ≠ b) : Inv X pins σ H' s' := by
  obtain ⟨h', g', d', t', o'⟩ := s'
  have e : o' = s.os := ho
  subst e
  exact I.call (g' := g') (t' := t') (d' := d') u hok hg hch
end
abbrev XK := Value->Option Addr->Hp->Prop
abbrev St := List (Option V)
abbrev VK := V->Hp->Prop
abbrev TE := St->Hp->VK->Prop
abbrev TT := St->Hp->(Bool->Hp->Prop)->Prop
abbrev TA := St->Hp->(List V->Hp->Prop)->Prop
structure Ends where
  nx : St->Hp->Prop
  rt : VK
  bk : St->Hp->Prop := fun _ _ => False
  ct : St->Hp->Prop := fun _ _ => False
abbrev TS := Ends->St->Hp->Prop
def EP (X : Cx) (pins : List (Addr × Obj)) (σ : St) (Q : VK) (u : Value) (s' : Shared) : Prop := ∃ v H', Inv X pins σ H' s'/\RelV v u/\Q v H'
def TP (X : Cx) (pins : List (Addr × Obj)) (σ : St) (Q : Bool->Hp->Prop) (b : Bool) (s' : Shared) : Prop := ∃ H', Inv X pins σ H' s'/\Q b H'
def AP (X : Cx) (pins : List (Addr × Obj)) (σ : St) (Q : List V->Hp->Prop) (us : List Value) (s' : Shared) : Prop := ∃ vs H', Inv X pins σ H' s'/\Vals vs us/\Q vs H'
def SP (X : Cx) (pins : List (Addr × Obj)) (D : Ends) (f : Flow) (s' : Shared) : Prop :=
  match f with
  | .next => ∃ σ' H', Inv X pins σ' H' s'/\D.nx σ' H'
  | .brk => ∃ σ' H', Inv X pins σ' H' s'/\D.bk σ' H'
  | .cont => ∃ σ' H', Inv X pins σ' H' s'/\D.ct σ' H'
  | .ret u => ∃ v σ' H', Inv X pins σ' H' s'/\RelV v u/\D.rt v H'
def PE (X : Cx) (e : Expr) (t : TE) : Prop :=
  ∀ (pins : List (Addr × Obj)) (s : Shared) (σ : St) (H : Hp) (Q : VK), Inv X pins σ H s->t σ H Q->wpAny (model X.prog X.w) X.A (eval e X.env) (EP X pins σ Q) X.xe s
def PT (X : Cx) (e : Expr) (t : TT) : Prop :=
  ∀ (pins : List (Addr × Obj)) (s : Shared) (σ : St) (H : Hp) (Q : Bool->Hp->Prop), Inv X pins σ H s->t σ H Q->wpAny (model X.prog X.w) X.A (isTrue e X.env (eval e X.env)) (TP X pins σ Q) X.xe s
def PW (X : Cx) (e : Expr) (t : TT) : Prop :=
  ∀ (whole : Sem Value) (pins : List (Addr × Obj)) (s : Shared) (σ : St) (H : Hp) (Q : Bool->Hp->Prop), Inv X pins σ H s->t σ H Q->wpAny (model X.prog X.w) X.A (isTrue e X.env whole) (TP X pins σ Q) X.xe s
theorem PW.pt {X : Cx} {e : Expr} {t : TT} (h : PW X e t) : PT X e t := h _
def PA (X : Cx) (es : List Expr) (t : TA) : Prop :=
  ∀ (pos : Pos) (pins : List (Addr × Obj)) (s : Shared) (σ : St) (H : Hp) (Q : List V->Hp->Prop), Inv X pins σ H s->t σ H Q->wpAny (model X.prog X.w) X.A (spliced (backTo pos (starEach es X.env))) (AP X pins σ Q) X.xe s
def PS (X : Cx) (st : Stmt) (t : TS) : Prop :=
  ∀ (pins : List (Addr × Obj)) (s : Shared) (σ : St) (H : Hp) (D : Ends), Inv X pins σ H s->t D σ H->wpAny (model X.prog X.w) X.A (exec st X.env) (SP X pins D) X.xe s
def PSs (X : Cx) (st : List Stmt) (t : TS) : Prop :=
  ∀ (pins : List (Addr × Obj)) (s : Shared) (σ : St) (H : Hp) (D : Ends), Inv X pins σ H s->t D σ H->wpAny (model X.prog X.w) X.A (execs st X.env) (SP X pins D) X.xe s
theorem thn {α : Type} {t : Sem α} {Q Q' : α->Shared->Prop} {M : Model} {A : Around} {E : Value->Shared->Prop} {s : Shared} (h : wpAny M A t Q E s) (hQ : ∀ a s, Q a s->Q' a s) : wpAny M A t Q' E s := wpAny_mono h hQ fun _ _ x => x
end L2
namespace L2
open PySem PySem.Spec PyProof.Rows
section
variable {X : Cx}
def tVar (i : Nat) : TE := fun σ H Q => ∃ v, σ[i]? = some (some v)/\Q v H
def tC (v : V) : TE := fun _ H Q => Q v H
theorem pe_var {i : Nat} {x : Str} {pos : Pos} (hN : X.N[i]? = some x) (hv : Vis X.env.scope x) (hd : (x == ("__debug__" : Str)) = false := by decide) (hcd : (x == ("__classdict__" : Str)) = false := by decide) : PE X (.Name x pos) (tVar i) := by
  intro pins s σ H Q I h
  obtain ⟨v, e, h⟩ := h
  obtain ⟨m, hn, hl⟩ := I.loc
  obtain ⟨u, r, l⟩ := hl i x v hN e hv
  have fin : EP X pins σ Q u s := ⟨v, H, I, r, h⟩
  rcases l with ⟨hk, hm⟩ | ⟨hk, c, hc, hcell⟩
  · exact wpAny_Name (wpAny_loadName_local I.ok.kind hk hn hm fin) hd
  · rcases hk with hk | hk
    · exact wpAny_Name (wpAny_loadName_cell I.ok.kind hk hc hcell fin) hd
    · exact wpAny_Name (wpAny_loadName_free I.ok.kind hk hc hcell fin hcd) hd
theorem pe_int {i j pos} : PE X (.Constant (.int i) j pos) (tC (.int i)) := fun _ _ _ H _ I h => wpAny_Constant_int ⟨.int i, H, I.tok _, ⟨_, rfl⟩, h⟩
theorem pe_bl {b j pos} : PE X (.Constant (.bool b) j pos) (tC (.bl b)) := fun _ _ _ H _ I h => Constant_bool ⟨.bl b, H, I, rfl, h⟩
theorem pe_non {j pos} : PE X (.Constant .none j pos) (tC .non) := fun _ _ _ H _ I h => Constant_none ⟨.non, H, I, rfl, h⟩
def Gl (X : Cx) (x : Str) : Prop := X.env.kindOf x = some .globalImplicit
theorem ld_glob {E : Value->Shared->Prop} {pins : List (Addr × Obj)} {s : Shared} {σ : St} {H : Hp} {x : Str} {u : Value} {pos : Pos} {Q : Value->Shared->Prop} (I : Inv X pins σ H s) (hg : Gl X x) (hm : X.mg x = some u) (h : Q u s) (hd : (x == ("__debug__" : Str)) = false := by decide) : wpAny (model X.prog X.w) X.A (eval (.Name x pos) X.env) Q E s :=
  Calls.Name_function_global I.ok.kind hg (Calls.loadGlobal_global (by rw [I.ok.glob]; exact I.mod.glob.keeps I.bk) hm h) hd
theorem ld_blt {E : Value->Shared->Prop} {pins : List (Addr × Obj)} {s : Shared} {σ : St} {H : Hp} {x : Str} {u : Value} {pos : Pos} {Q : Value->Shared->Prop} (I : Inv X pins σ H s) (hg : Gl X x) (hm : X.mg x = none) (hv : bootBuiltins x = some u) (h : Q u s) (hn : x ≠ "__name__" := by decide) (hd : (x == ("__debug__" : Str)) = false := by decide) : wpAny (model X.prog X.w) X.A (eval (.Name x pos) X.env) Q E s := by
  obtain ⟨mb, h1, h2⟩ := I.mod.blt
  exact Calls.Name_function_global I.ok.kind hg (Calls.loadGlobal_builtin (by rw [I.ok.glob]; exact I.mod.glob.keeps I.bk) hm (by rw [I.ok.blt]; exact h1.keeps I.bk) ((h2 x hn).trans hv) h) hd
theorem pe_glob {x : Str} {v : V} {u : Value} {pos : Pos} (hg : Gl X x) (hm : X.mg x = some u) (r : RelV v u) (hd : (x == ("__debug__" : Str)) = false := by decide) : PE X (.Name x pos) (tC v) :=
  fun _ _ _ H _ I h => ld_glob I hg hm ⟨v, H, I, r, h⟩ hd
theorem pe_bltn {x : Str} {v : V} {u : Value} {pos : Pos} (hg : Gl X x) (hm : X.mg x = none) (hv : bootBuiltins x = some u) (r : RelV v u) (hn : x ≠ "__name__" := by decide) (hd : (x == ("__debug__" : Str)) = false := by decide) : PE X (.Name x pos) (tC v) :=
  fun _ _ _ H _ I h => ld_blt I hg hm hv ⟨v, H, I, r, h⟩ hn hd
variable {a b : Expr} {ta tb : TE} {pos : Pos}
def PC (X : Cx) (op : CmpOp) (a b : Expr) (t : TE) : Prop :=
  ∀ (pins : List (Addr × Obj)) (s : Shared) (σ : St) (H : Hp) (Q : VK), Inv X pins σ H s->t σ H Q →
    wpAny (model X.prog X.w) X.A (eval a X.env) (fun v s₁ => wpAny (model X.prog X.w) X.A (eval b X.env) (fun u s₂ => wpAny (model X.prog X.w) X.A (compareOp op v u) (EP X pins σ Q) X.xe s₂) X.xe s₁) X.xe s
def tB (t : TE) : TT := fun σ H Q => t σ H fun x H1 => ∃ c, x = .bl c/\Q c H1
theorem pt_cmp {op : CmpOp} {t : TE} (h : PC X op a b t) (h1 : behindInMarks op b = false := by first | exact nobehind _ (by decide) (by decide) | rfl) : PT X (.Compare a [op] [b] pos) (tB t) := by
  intro pins s σ H Q I hw
  refine wpAny_isTrue_Compare1 (thn (h pins s σ H _ I hw) fun v s1 h1 => thn h1 fun u s2 h2 => thn h2 fun c s3 ⟨x, H1, I1, r1, q1⟩ => ?_) h1
  obtain ⟨d, rfl, q⟩ := q1
  cases r1
  exact wpAny_truthy_bool ⟨H1, I1, q⟩
theorem pt_val {e : Expr} {t : TE} (h : PE X e t) (he : ∀ whole, isTrue e X.env whole = (do let v ← whole; standAt e.pos; holding [v] (truthy v)) := by intro _; rfl) : PT X e (tB t) := by
  intro pins s σ H Q I hw
  refine isTrue_plain (thn (h pins s σ H _ I hw) fun v s1 ⟨x, H1, I1, r1, q1⟩ => ?_) (he _)
  obtain ⟨d, rfl, q⟩ := q1
  cases r1
  exact wpAny_truthy_bool ⟨H1, I1, q⟩
variable {tA tB' : TT} {rest : List Expr}
def tAnd (t u : TT) : TT := fun σ H Q => t σ H fun c H1 => if c = true then u σ H1 Q else Q false H1
def tOr (t u : TT) : TT := fun σ H Q => t σ H fun c H1 => if c = true then Q true H1 else u σ H1 Q
def tNot (t : TT) : TT := fun σ H Q => t σ H fun c H1 => Q (!c) H1
theorem pw_and1 (ha : PT X a tA) : PW X (.BoolOp .And [a] pos) tA := by
  intro wh pins s σ H Q I h
  refine isTrue_and (thn (ha pins s σ H Q I h) fun c s1 e => ?_)
  cases c with
  | true => exact isTrue_and_nil e
  | false => exact e
theorem pw_or1 (ha : PT X a tA) : PW X (.BoolOp .Or [a] pos) tA := by
  intro wh pins s σ H Q I h
  refine isTrue_or (thn (ha pins s σ H Q I h) fun c s1 e => ?_)
  cases c with
  | false => exact isTrue_or_nil e
  | true => exact e
theorem pw_and (ha : PT X a tA) (hb : PW X (.BoolOp .And (b :: rest) pos) tB') : PW X (.BoolOp .And (a :: b :: rest) pos) (tAnd tA tB') := by
  intro wh pins s σ H Q I h
  refine isTrue_and (thn (ha pins s σ H _ I h) fun c s1 ⟨H1, I1, q1⟩ => ?_)
  cases c with
  | true => exact hb wh pins s1 σ H1 Q I1 q1
  | false => exact ⟨H1, I1, q1⟩
theorem pw_or (ha : PT X a tA) (hb : PW X (.BoolOp .Or (b :: rest) pos) tB') : PW X (.BoolOp .Or (a :: b :: rest) pos) (tOr tA tB') := by
  intro wh pins s σ H Q I h
  refine isTrue_or (thn (ha pins s σ H _ I h) fun c s1 ⟨H1, I1, q1⟩ => ?_)
  cases c with
  | true => exact ⟨H1, I1, q1⟩
  | false => exact hb wh pins s1 σ H1 Q I1 q1
theorem pt_not (ha : PT X a tA) : PT X (.UnaryOp .Not a pos) (tNot tA) := by
  intro pins s σ H Q I h
  exact isTrue_not (ha pins s σ H (fun c H1 => Q (!c) H1) I h)
def tAndV (ta tb : TE) : TE := fun σ H Q => ta σ H fun x H1 => ∃ c, x = .bl c/\if c = true then tb σ H1 Q else Q (.bl false) H1
def tNotV (ta : TE) : TE := fun σ H Q => ta σ H fun x H1 => ∃ c, x = .bl c/\Q (.bl (!c)) H1
theorem pe_one {op} {t : TE} (h : PE X a t) : PE X (.BoolOp op [a] pos) t := fun pins s σ H Q I hw => BoolOp_one (h pins s σ H Q I hw)
theorem pe_and (ha : PE X a ta) (hb : PE X (.BoolOp .And (b :: rest) pos) tb) : PE X (.BoolOp .And (a :: b :: rest) pos) (tAndV ta tb) := by
  intro pins s σ H Q I h
  refine BoolOp_and (thn (ha pins s σ H _ I h) fun v s1 ⟨x, H1, I1, r1, q1⟩ => ?_)
  obtain ⟨c, rfl, q1⟩ := q1
  cases r1
  refine wpAny_truthy_bool ?_
  cases c with
  | true => exact hb pins s1 σ H1 Q I1 q1
  | false => exact ⟨.bl false, H1, I1, rfl, q1⟩
theorem pe_not (ha : PE X a ta) : PE X (.UnaryOp .Not a pos) (tNotV ta) := by
  intro pins s σ H Q I h
  refine UnaryOp_ (thn (ha pins s σ H _ I h) fun v s1 ⟨x, H1, I1, r1, q1⟩ => ?_)
  obtain ⟨c, rfl, q1⟩ := q1
  cases r1
  exact not_of (wpAny_truthy_bool ⟨.bl (!c), H1, I1, rfl, q1⟩)
end
end L2
namespace L2
open PySem PySem.Spec PyProof.Rows
def SqL (K : PySem.W.Frag) (H : Hp) (a : Addr) (xs : List V) : Prop :=
  Rd H a (.lst xs) ∨
    ∃ (o : Obj) (its : Array Value) (n : Nat), K.lookup a = some o/\o.cls = .type "list"/\o.dict = none/\o.data = .seq its n/\its.size ≤ sizeLine/\Vals xs its.toList
def SqT (K : PySem.W.Frag) (H : Hp) (a : Addr) (xs : List V) : Prop :=
  Rd H a (.tup xs) ∨
    ∃ (o : Obj) (its : Array Value) (n : Nat), K.lookup a = some o/\o.cls = .type "tuple"/\o.data = .seq its n/\its.size ≤ sizeLine/\Vals xs its.toList
def absV : Value->Option V
  | .none => some .non
  | .bool b => some (.bl b)
  | .int i _ => some (.int i)
  | .str x _ => some (.str x)
  | .bytes b _ => some (.byt b)
  | .float b _ => some (.flt b)
  | .ref a => some (.ref a)
  | .type n => some (.ty n)
  | _ => none
theorem RelV.abs {x : V} {u : Value} (r : RelV x u) : absV u = some x := by
  cases x with
  | non => cases r; rfl
  | bl _ => cases r; rfl
  | int _ => obtain ⟨t, rfl⟩ := r; rfl
  | str _ => obtain ⟨t, rfl⟩ := r; rfl
  | byt _ => obtain ⟨t, rfl⟩ := r; rfl
  | flt _ => obtain ⟨t, rfl⟩ := r; rfl
  | ref _ => cases r; rfl
  | ty _ => cases r; rfl
theorem RelV.inj {x y : V} {u : Value} (r : RelV x u) (q : RelV y u) : x = y := Option.some.inj (r.abs.symm.trans q.abs)
theorem Vals.inj : ∀ {xs ys : List V} {us : List Value}, Vals xs us->Vals ys us->xs = ys
  | _, _, _, .nil, .nil => rfl
  | _, _, _, .cons r t, .cons r' t' => by rw [r.inj r', Vals.inj t t']
section
variable {X : Cx} {pins : List (Addr × Obj)} {σ : St} {H : Hp} {s : Shared} {a : Addr} {xs ys : List V}
theorem SqL.of {K : PySem.W.Frag} (h : H a = some (.lst xs)) : SqL K H a xs := .inl (.inl h)
theorem SqT.of {K : PySem.W.Frag} (h : H a = some (.tup xs)) : SqT K H a xs := .inl (.inl h)
theorem Inv.list (I : Inv X pins σ H s) (h : SqL X.K H a xs) : ∃ its : List Value, Vals xs its/\PlainL s.heap a its.toArray/\xs.length ≤ sizeLine := by
  rcases h with h | ⟨o, its, n, hk, hc, hd, hs, hz, r⟩
  · obtain ⟨z, its, n, r, e⟩ := h.ok I.hok
    exact ⟨its, r, ⟨_, n, e, rfl, rfl, rfl⟩, z⟩
  · refine ⟨its.toList, r, ⟨o, n, I.kIn a o hk, hc, hd, by simpa using hs⟩, ?_⟩
    have e := r.length
    simp only [Array.length_toList] at e
    omega
theorem Inv.tuple (I : Inv X pins σ H s) (h : SqT X.K H a xs) : ∃ its : List Value, Vals xs its/\IsTup s.heap a its.toArray/\xs.length ≤ sizeLine := by
  rcases h with h | ⟨o, its, n, hk, hc, hs, hz, r⟩
  · obtain ⟨z, its, r, p⟩ := h.ok I.hok
    exact ⟨its, r, p, z⟩
  · refine ⟨its.toList, r, ⟨o, I.kIn a o hk, hc, n, by simpa using hs⟩, ?_⟩
    have e := r.length
    simp only [Array.length_toList] at e
    omega
theorem Inv.list_inj (I : Inv X pins σ H s) (h : SqL X.K H a xs) (h' : SqL X.K H a ys) : xs = ys := by
  obtain ⟨its, r, ⟨o, n, e, _, _, d⟩, _⟩ := I.list h
  obtain ⟨its', r', ⟨o', n', e', _, _, d'⟩, _⟩ := I.list h'
  rw [e] at e'; cases e'
  rw [d] at d'
  injection d' with d1 _
  have : its = its' := by simpa using congrArg Array.toList d1
  subst this
  exact r.inj r'
end
abbrev Cx.wish (X : Cx) (E : Value->Shared->Prop) : Cx := { X with xe := E }
abbrev Cx.nox (X : Cx) : Cx := X.wish fun _ _ => False
theorem Cx.Ok.wish {X : Cx} (ok : X.Ok) (E : Value->Shared->Prop) : (X.wish E).Ok :=
  ⟨ok.mod, ok.kind, ok.glob, ok.blt, ok.above, ok.inj, ok.has, ok.cab, ok.hd, ok.frames, ok.stk, ok.exf, ok.bs, ok.bsz, ok.noex, ok.exfs, ok.funs, ok.frf⟩
theorem Cx.Ok.unwish {X : Cx} {E : Value->Shared->Prop} (ok : (X.wish E).Ok) : X.Ok :=
  ⟨ok.mod, ok.kind, ok.glob, ok.blt, ok.above, ok.inj, ok.has, ok.cab, ok.hd, ok.frames, ok.stk, ok.exf, ok.bs, ok.bsz, ok.noex, ok.exfs, ok.funs, ok.frf⟩
section
variable {X : Cx} {pins : List (Addr × Obj)} {σ : St} {H : Hp} {s : Shared} {E : Value->Shared->Prop}
theorem Inv.wish (I : Inv X pins σ H s) (E : Value->Shared->Prop) : Inv (X.wish E) pins σ H s := ⟨I.ok.wish E, I.os, I.bare, I.base, I.loc, I.cell, I.free, I.freeC, I.pin, I.hok, I.len⟩
theorem Inv.unwish (I : Inv (X.wish E) pins σ H s) : Inv X pins σ H s := ⟨I.ok.unwish, I.os, I.bare, I.base, I.loc, I.cell, I.free, I.freeC, I.pin, I.hok, I.len⟩
theorem SP.unwish {D : Ends} {f : Flow} {s' : Shared} (h : SP (X.wish E) pins D f s') : SP X pins D f s' := by
  cases f with
  | next => obtain ⟨σ', H', I, q⟩ := h; exact ⟨σ', H', I.unwish, q⟩
  | brk => obtain ⟨σ', H', I, q⟩ := h; exact ⟨σ', H', I.unwish, q⟩
  | cont => obtain ⟨σ', H', I, q⟩ := h; exact ⟨σ', H', I.unwish, q⟩
  | ret u => obtain ⟨v, σ', H', I, r, q⟩ := h; exact ⟨v, σ', H', I.unwish, r, q⟩
theorem PSs.nox {st : List Stmt} {t : TS} (h : PSs X.nox st t) : PSs X st t := fun pins s σ H D I hw =>
  wpAny_mono (h pins s σ H D (I.wish _) hw) (fun _ _ q => q.unwish) fun _ _ z => False.elim z
end
section
variable {X : Cx} {st : Stmt} {rest : List Stmt} {t u : TS} {e : Expr} {te : TE} {pos : Pos}
def tNext : TS := fun D σ H => D.nx σ H
def tSeq (t u : TS) : TS := fun D σ H => t { D with nx := u D } σ H
theorem pss_nil : PSs X [] tNext := fun _ _ σ H _ I h => wpAny_execs_nil ⟨σ, H, I, h⟩
theorem pss_cons (h1 : PS X st t) (h2 : PSs X rest u) : PSs X (st :: rest) (tSeq t u) := by
  intro pins s σ H D I h
  refine wpAny_execs_cons (thn (h1 pins s σ H { D with nx := u D } I h) fun f s1 q => ?_)
  cases f with
  | next =>
    obtain ⟨σ', H', I', q⟩ := q
    exact h2 pins s1 σ' H' D I' q
  | ret v => exact q
  | brk => exact q
  | cont => exact q
theorem pss_one (h1 : PS X st t) : PSs X [st] t := by
  intro pins s σ H D I h
  refine wpAny_execs_cons (thn (h1 pins s σ H D I h) fun f s1 q => ?_)
  cases f with
  | next => exact wpAny_execs_nil q
  | ret v => exact q
  | brk => exact q
  | cont => exact q
theorem Inv.quiet {pins : List (Addr × Obj)} {σ : St} {H : Hp} {s : Shared} (I : Inv X pins σ H s) : interactive X.env = false := by simp [interactive, I.ok.kind]
def tDrop (te : TE) : TS := fun D σ H => te σ H fun _ H1 => D.nx σ H1
theorem ps_expr (he : PE X e te) (hs : swapsWith e none pos.line X.env = pure false := by rfl) : PS X (.Expr e pos) (tDrop te) := by
  intro pins s σ H D I h
  exact wpAny_Expr_any (thn (he pins s σ H _ I h) fun v s1 ⟨x, H1, I1, r1, q1⟩ => ⟨σ, H1, I1, q1⟩) I.quiet hs
def tRet (te : TE) : TS := fun D σ H => te σ H D.rt
theorem ps_ret (he : PE X e te) : PS X (.Return (some e) pos) (tRet te) := by
  intro pins s σ H D I h
  exact wpAny_Return_some (thn (he pins s σ H _ I h) fun v s1 ⟨x, H1, I1, r1, q1⟩ => ⟨x, σ, H1, I1, r1, q1⟩)
def tIfS (c : TT) (t u : TS) : TS := fun D σ H => c σ H fun b H1 => if b = true then t D σ H1 else u D σ H1
theorem ps_if {c : Expr} {a b : List Stmt} {tc : TT} (hc : PT X c tc) (ha : PSs X a t) (hb : PSs X b u) : PS X (.If c a b pos) (tIfS tc t u) := by
  intro pins s σ H D I h
  refine wpAny_If (thn (hc pins s σ H _ I h) fun d s1 ⟨H1, I1, q1⟩ => ?_)
  cases d with
  | true => exact ha pins s1 σ H1 D I1 q1
  | false => exact hb pins s1 σ H1 D I1 q1
def tNever : TS := fun _ _ _ => False
theorem ps_never : PS X st tNever := fun _ _ _ _ _ _ h => h.elim
end
abbrev TG := V->St->Hp->(St->Hp->Prop)->Prop
abbrev TGs := List V->St->Hp->(St->Hp->Prop)->Prop
def PG (X : Cx) (target : Expr) (t : TG) : Prop :=
  ∀ (pins : List (Addr × Obj)) (s : Shared) (σ : St) (H : Hp) (v : V) (u : Value) (Q : St->Hp->Prop), Inv X pins σ H s->RelV v u->t v σ H Q →
    wpAny (model X.prog X.w) X.A (assign target X.env u) (fun _ s' => ∃ σ' H', Inv X pins σ' H' s'/\Q σ' H') X.xe s
def PGs (X : Cx) (ts : List Expr) (t : TGs) : Prop :=
  ∀ (pins : List (Addr × Obj)) (s : Shared) (σ : St) (H : Hp) (vs : List V) (us : List Value) (Q : St->Hp->Prop), Inv X pins σ H s->Vals vs us->t vs σ H Q →
    wpAny (model X.prog X.w) X.A (assignInOrder ((assignEach ts X.env).map (·.2)) us) (fun _ s' => ∃ σ' H', Inv X pins σ' H' s'/\Q σ' H') X.xe s
abbrev TSet := V->V->V->Hp->(Hp->Prop)->Prop
def PSet (X : Cx) (t : TSet) : Prop :=
  ∀ (pins : List (Addr × Obj)) (s : Shared) (σ : St) (H : Hp) (o i v : V) (ov iv u : Value) (Q : Hp->Prop), Inv X pins σ H s->RelV o ov->RelV i iv->RelV v u->t o i v H Q →
    wpAny (model X.prog X.w) X.A (setItem ov iv u) (fun _ s' => ∃ H', Inv X pins σ H' s'/\Q H') X.xe s
abbrev TIp := V->V->Hp->VK->Prop
def PIp (X : Cx) (op : Operator) (t : TIp) : Prop :=
  ∀ (pins : List (Addr × Obj)) (s : Shared) (σ : St) (H : Hp) (x y : V) (v u : Value) (Q : VK), Inv X pins σ H s->RelV x v->RelV y u->t x y H Q →
    wpAny (model X.prog X.w) X.A (inplaceOp op v u) (EP X pins σ Q) X.xe s
section
variable {X : Cx} {pos : Pos}
def gName (i : Nat) : TG := fun v σ H Q => Q (σ.set i (some v)) H
theorem pg_name {i : Nat} {x : Str} (hN : X.N.Nodup) (hi : X.N[i]? = some x) (hx : Loc X.env.scope x) (hf : X.fn x = true ∨ X.env.scope.names.lookup x = some .local := by first | exact .inl rfl | exact .inr rfl | assumption) : PG X (.Name x pos) (gName i) := by
  intro pins s σ H v u Q I r h
  exact wpAny_assign_Name (store_ok I hN hi hx r (fun s' I' => ⟨_, H, I', h⟩) hf)
def gNil : TGs := fun vs σ H Q => vs = []/\Q σ H
def gCons (t : TG) (u : TGs) : TGs := fun vs σ H Q => ∃ v r, vs = v :: r/\t v σ H fun σ' H' => u r σ' H' Q
theorem pgs_nil : PGs X [] gNil := by
  intro pins s σ H vs us Q I r h
  obtain ⟨e, h⟩ := h
  subst e
  cases r
  exact assignInOrder_nil ⟨σ, H, I, h⟩
theorem pgs_cons {e : Expr} {es : List Expr} {t : TG} {u : TGs} (h1 : PG X e t) (h2 : PGs X es u) (hs : (assignEach (e :: es) X.env).map (·.2) = assign e X.env :: (assignEach es X.env).map (·.2) := by rfl) : PGs X (e :: es) (gCons t u) := by
  intro pins s σ H vs us Q I r h
  obtain ⟨v, vr, e1, h⟩ := h
  subst e1
  cases r with
  | cons r rr =>
    rw [hs]
    refine assignInOrder_cons (thn (h1 pins s σ H _ _ _ I r h) fun _ s1 ⟨σ1, H1, I1, q1⟩ => ?_)
    exact h2 pins s1 σ1 H1 _ _ Q I1 rr q1
def gTup (K : PySem.W.Frag) (n : Nat) (t : TGs) : TG := fun v σ H Q => ∃ a xs, v = .ref a/\SqT K H a xs/\xs.length = n/\t xs σ H Q
theorem pg_tup {es : List Expr} {k : Nat} {t : TGs} {n : Nat} (hc : X.calm = true) (h : PGs X es t) (hn : (assignEach es X.env).length = n := by rfl) (hst : (assignEach es X.env).findIdx? (·.1) = none := by rfl) : PG X (.Tuple es k pos) (gTup X.K n t) := by
  intro pins s σ H v u Q I r hw
  obtain ⟨a, xs, e1, hq, hl, hw⟩ := hw
  subst e1
  cases r
  obtain ⟨its, rv, ht, hz⟩ := I.tuple hq
  refine assign_Tuple_tuple (I.ok.hd hc) ht (by simp [hn, ← hl, rv.length]) hst fun h' hx => ?_
  have I1 : Inv X pins σ H { s with heap := h' } := I.kept (t' := s.toks) fun b o e => hx b o (Nat.ne_of_lt (Heap.lt_size e)) e
  exact h pins _ σ H xs _ Q I1 (by simpa using rv) hw
def gSub (to ti : TE) (t : TSet) : TG := fun v σ H Q => to σ H fun o H1 => ti σ H1 fun i H2 => t o i v H2 fun H3 => Q σ H3
theorem pg_sub {o i : Expr} {to ti : TE} {t : TSet} (ho : PE X o to) (hi : PE X i ti) (hs : PSet X t)
    (ha : ∀ v, assign (.Subscript o i pos) X.env v = (do
      let ov ← holding [v] (eval o X.env)
      let iv ← holding [v, ov] (eval i X.env)
      standAt pos
      holding [v, ov, iv] (setItem ov iv v)
      release [v, ov, iv] []) := by intro _; rfl) : PG X (.Subscript o i pos) (gSub to ti t) := by
  intro pins s σ H v u Q I r h
  rw [ha]
  refine wpAny_bind (wpAny_holding (thn (ho pins s σ H _ I h) fun ov s1 ⟨x, H1, I1, r1, q1⟩ => ?_))
  refine wpAny_bind (wpAny_holding (thn (hi pins s1 σ H1 _ I1 q1) fun iv s2 ⟨y, H2, I2, r2, q2⟩ => ?_))
  refine wpAny_bind (wpAny_standAt (wpAny_bind (wpAny_holding (thn (hs pins s2 σ H2 x y v ov iv u _ I2 r1 r2 r q2) fun _ s3 ⟨H3, I3, q3⟩ => ?_))))
  exact wpAny_release ⟨σ, H3, I3, q3⟩
def tAsg (te : TE) (g : TG) : TS := fun D σ H => te σ H fun x H1 => g x σ H1 D.nx
theorem ps_asg {tg e : Expr} {te : TE} {g : TG} (he : PE X e te) (hg : PG X tg g) (hs : swapsWithSole [tg] e pos.line X.env = pure false := by rfl) (hw : swappedStores [tg] e X.env = pure none := by rfl)
    (h1 : (assignEach [tg] X.env).map (·.2) = [assign tg X.env] := by rfl) : PS X (.Assign [tg] e pos) (tAsg te g) := by
  intro pins s σ H D I h
  refine wpAny_Assign_stores (thn (he pins s σ H _ I h) fun v s1 ⟨x, H1, I1, r1, q1⟩ => ?_) hs hw
  rw [h1]
  exact thn (hg pins s1 σ H1 x v _ I1 r1 q1) fun _ s2 q => q
theorem ps_set {i : Nat} {x : Str} {e : Expr} {te : TE} {pos' : Pos} (hN : X.N.Nodup) (hi : X.N[i]? = some x) (hx : Loc X.env.scope x) (he : PE X e te) (hs : swapsWith e (some (.Name x pos')) pos.line X.env = pure false := by rfl) (hf : X.fn x = true ∨ X.env.scope.names.lookup x = some .local := by first | exact .inl rfl | exact .inr rfl | assumption) :
    PS X (.Assign [.Name x pos'] e pos) (tAsg te (gName i)) := by
  intro pins s σ H D I h
  refine wpAny_Assign_Name (thn (he pins s σ H _ I h) fun v s1 ⟨y, H1, I1, r1, q1⟩ => ?_) hs
  exact store_ok I1 hN hi hx r1 (fun s2 I2 => ⟨_, H1, I2, q1⟩) hf
def tAug (i : Nat) (te : TE) (ti : TIp) : TS := fun D σ H => ∃ x, σ[i]? = some (some x)/\te σ H fun y H1 => ti x y H1 fun z H2 => D.nx (σ.set i (some z)) H2
theorem ps_aug {i : Nat} {x : Str} {e : Expr} {te : TE} {op : Operator} {ti : TIp} {pos' : Pos} (hN : X.N.Nodup) (hi : X.N[i]? = some x) (hx : Loc X.env.scope x) (he : PE X e te) (ho : PIp X op ti) (hf : X.fn x = true ∨ X.env.scope.names.lookup x = some .local := by first | exact .inl rfl | exact .inr rfl | assumption) :
    PS X (.AugAssign (.Name x pos') op e pos) (tAug i te ti) := by
  intro pins s σ H D I h
  obtain ⟨v, e1, h⟩ := h
  obtain ⟨m, hn, hl⟩ := I.loc
  have vis : Vis X.env.scope x := by rcases hx with k | k; exact .inl k; exact .inr (.inl k)
  obtain ⟨u, r, l⟩ := hl i x v hi e1 vis
  refine wpAny_AugAssign_Name ?_
  have go : wpAny (model X.prog X.w) X.A (eval e X.env) (fun w s₂ => wpAny (model X.prog X.w) X.A (inplaceOp op u w) (fun r s₃ => wpAny (model X.prog X.w) X.A (storeName X.env x r) (fun _ => SP X pins D .next) X.xe s₃) X.xe s₂) X.xe s := by
    refine thn (he pins s σ H _ I h) fun w s1 ⟨y, H1, I1, r1, q1⟩ => ?_
    refine thn (ho pins s1 σ H1 v y u w _ I1 r r1 q1) fun z s2 ⟨zv, H2, I2, r2, q2⟩ => ?_
    exact store_ok I2 hN hi hx r2 (fun s3 I3 => ⟨_, H2, I3, q2⟩) hf
  rcases l with ⟨hk, hm⟩ | ⟨hk, c, hc, hcell⟩
  · exact wpAny_loadName_local I.ok.kind hk hn hm go
  · rcases hk with hk | hk
    · exact wpAny_loadName_cell I.ok.kind hk hc hcell go
    · rcases hx with k | k
      · have : X.env.scope.names.lookup x = some .free := hk
        rw [k] at this; cases this
      · have : X.env.scope.names.lookup x = some .free := hk
        rw [k] at this; cases this
def ipI (f : Int->Int->Int) : TIp := fun x y H Q => ∃ i j, x = .int i/\y = .int j/\Q (.int (f i j)) H
theorem ip_add : PIp X .Add (ipI fun i j => i + j) := by
  intro pins s σ H x y v u Q I r1 r2 h
  obtain ⟨i, j, e1, e2, q⟩ := h
  subst e1; subst e2
  obtain ⟨t, rfl⟩ := r1
  obtain ⟨t', rfl⟩ := r2
  exact iadd_int ⟨.int _, H, I.tok _, ⟨_, rfl⟩, q⟩
end
section
variable {X : Cx} {pos : Pos}
def tWhile (c : TT) (tb : TS) : TS := fun D σ H => ∃ W : Nat->St->Hp->Prop, (∃ m, W m σ H)/\∀ m σ H, W m σ H →
  c σ H fun b H1 => if b = true then ∃ N : St->Hp->Prop, (∀ σ' H', N σ' H'->∃ m', m' < m/\W m' σ' H')/\tb { D with nx := N, ct := N, bk := D.nx } σ H1 else D.nx σ H1
theorem ps_while {c : Expr} {body : List Stmt} {tc : TT} {tb : TS} (hp : PassesOwn (model X.prog X.w) X.A X.env X.xe) (hc : PT X c tc) (hb : PSs X body tb) : PS X (.While c body [] pos) (tWhile tc tb) := by
  intro pins s σ H D I h
  obtain ⟨W, ⟨m0, w0⟩, turn⟩ := h
  refine wpAny_While (codeAny_whileLoop (fun n s' => ∃ σ' H', Inv X pins σ' H' s'/\W n σ' H') ?_ m0 ⟨σ, H, I, w0⟩)
  rintro n s1 ⟨σ1, H1, I1, w1⟩
  refine wpAny_passesOwn hp (thn (hc pins s1 σ1 H1 _ I1 (turn n σ1 H1 w1)) fun b s2 ⟨H2, I2, q2⟩ => ?_)
  cases b with
  | true =>
    obtain ⟨N, hN, q2⟩ := q2
    rw [if_pos rfl]
    refine wpAny_passesOwn hp (thn (hb pins s2 σ1 H2 _ I2 q2) fun f s3 q3 => ?_)
    cases f with
    | next =>
      obtain ⟨σ3, H3, I3, n3⟩ := q3
      obtain ⟨m', hm, w3⟩ := hN σ3 H3 n3
      exact ⟨m', hm, σ3, H3, I3, w3⟩
    | cont =>
      obtain ⟨σ3, H3, I3, n3⟩ := q3
      obtain ⟨m', hm, w3⟩ := hN σ3 H3 n3
      exact ⟨m', hm, σ3, H3, I3, w3⟩
    | brk => exact q3
    | ret v => exact q3
  | false =>
    rw [if_neg Bool.false_ne_true]
    exact wpAny_execs_nil ⟨σ1, H2, I2, q2⟩
end
structure It where
  go : Nat->Hp->Prop
  yld : Nat->Hp->V->Hp->Prop
  stop : Nat->Hp->Prop
def FpOk (X : Cx) (pins : List (Addr × Obj)) (H : Hp) (b : Addr) : Prop :=
  H b = none/\b ≠ X.env.locals/\b ∉ X.fs/\(b ∈ X.ex ∨ X.s₀.heap.objs.size ≤ b)/\(∀ x c, X.env.cells.lookup x = some c->c ≠ b)/\∀ p ∈ X.pn ++ pins, p.1 ≠ b
theorem Inv.fpOk {X : Cx} {pins : List (Addr × Obj)} {σ : St} {H H' : Hp} {s : Shared} {b : Addr} (I : Inv X pins σ H s) (hb : s.heap.objs.size ≤ b) (hn : H' b = none) : FpOk X pins H' b := by
  refine ⟨hn, Nat.ne_of_gt (Nat.lt_of_lt_of_le I.lt hb), I.nofs hb, .inr (Nat.le_trans I.sz hb), fun x c e z => ?_, fun p hp z => ?_⟩
  · obtain ⟨v, q⟩ := I.cell x c e
    exact absurd (Nat.lt_of_lt_of_le q.lt (by rw [z]; exact hb)) (Nat.lt_irrefl _)
  · exact absurd (Nat.lt_of_lt_of_le (Heap.lt_size (I.pin p hp).1) (by rw [z]; exact hb)) (Nat.lt_irrefl _)
structure Turn (P : Program) (w : World) (K : PySem.W.Frag) (tg : Expr) (J : It) (fp : List Addr) (it : Addr) (tn : Nat->Heap->Prop) : Prop where
  mem : it ∈ fp
  obj : ∀ i h, tn i h->∀ b ∈ fp, ∃ o, h.get? b = some o/\∀ v, o.data ≠ .cell v
  keep : ∀ i h h', tn i h->(∀ b ∈ fp, ∀ o, h.get? b = some o->h'.get? b = some o)->tn i h'
  item : ∀ (X : Cx), X.prog = P->X.w = w->X.K = K->X.calm = true->∀ (i : Nat) (pins : List (Addr × Obj)) (s : Shared) (σ : St) (H : Hp) (E : Value->Shared->Prop), Inv X pins σ H s->(∀ b ∈ fp, FpOk X pins H b)->tn i s.heap->J.go i H →
    wpAny (model P w) X.A (pyNext (.ref it)) (fun r s1 => ∃ u, r = some u ∧
      wpAny (model P w) X.A (letOwnedTupleGo tg (.ref it) u) (fun _ s2 => ∃ x H', Inv X pins σ H' s2/\RelV x u/\J.yld i H x H'/\tn (i + 1) s2.heap/\∀ b ∈ fp, H' b = none) E s1) E s
  done : ∀ (X : Cx), X.prog = P->X.w = w->X.K = K->X.calm = true->∀ (i : Nat) (pins : List (Addr × Obj)) (s : Shared) (σ : St) (H : Hp) (E : Value->Shared->Prop), Inv X pins σ H s->(∀ b ∈ fp, FpOk X pins H b)->tn i s.heap->J.stop i H →
    wpAny (model P w) X.A (pyNext (.ref it)) (fun r s1 => r = none/\Inv X pins σ H s1) E s
  self : ∀ (A : Around) (i : Nat) (s : Shared) (Q : Value->Shared->Prop) (E : Value->Shared->Prop), tn i s.heap->Q (.ref it) s->wpAny (model P w) A (pyIter (.ref it)) Q E s
abbrev TI := St->Hp->(It->Hp->Prop)->Prop
def PIE (X : Cx) (pins : List (Addr × Obj)) (σ : St) (tg : Expr) (R : It->Hp->Prop) (itv : Value) (s2 : Shared) : Prop :=
  ∃ (it : Addr) (fp : List Addr) (tn : Nat->Heap->Prop) (J : It) (H' : Hp), itv = .ref it/\Inv X pins σ H' s2/\Turn X.prog X.w X.K tg J fp it tn/\tn 0 s2.heap/\(∀ b ∈ fp, FpOk X pins H' b)/\R J H'
def PI (X : Cx) (tg iter : Expr) (wi : TI) : Prop :=
  ∀ (pins : List (Addr × Obj)) (s : Shared) (σ : St) (H : Hp) (R : It->Hp->Prop), Inv X pins σ H s->wi σ H R →
    wpAny (model X.prog X.w) X.A (eval iter X.env) (fun v s1 => wpAny (model X.prog X.w) X.A (pyIter v) (PIE X pins σ tg R) X.xe s1) X.xe s
theorem go_of {M : Model} {A : Around} {E : Value->Shared->Prop} {s : Shared} {tg : Expr} {it : Addr} {u : Value} {o : Obj} {n : String} {vs : Array Value} {Q : Unit->Shared->Prop} (ho : s.heap.get? it = some o) (hc : o.cls = .type n) (hd : o.data = .fields vs) (hn : ["enumerate", "zip", "dict_itemiterator", "dict_reverseitemiterator", "odict_iterator", "itertools.zip_longest", "itertools.pairwise"].contains n = false) (hQ : Q () s) : wpAny M A (letOwnedTupleGo tg (.ref it) u) Q E s := by
  unfold letOwnedTupleGo
  cases tg <;> first
    | exact wpAny_pure hQ
    | (cases u <;> first
        | exact wpAny_pure hQ
        | (refine wpAny_bind (wpAny_load ho ?_)
           rw [hc, hd]
           show wpAny M A (if (["enumerate", "zip", "dict_itemiterator", "dict_reverseitemiterator", "odict_iterator", "itertools.zip_longest", "itertools.pairwise"].contains n && vs[0]? == some (rawInt _)) = true then _ else _) Q E s
           rw [if_neg (by intro h; rw [hn, Bool.false_and] at h; cases h)]
           exact wpAny_pure hQ))
def Itl (K : PySem.W.Frag) (a : Addr) : It :=
  ⟨fun i H => ∃ xs x, SqL K H a xs/\xs[i]? = some x, fun i H x H' => H' = H/\∀ xs, SqL K H a xs->xs[i]? = some x, fun i H => ∃ xs, SqL K H a xs/\xs.length ≤ i⟩
def Itr (lo : Int) (n : Nat) : It := ⟨fun i _ => i < n, fun i H x H' => H' = H/\x = .int (lo + i), fun i _ => n ≤ i⟩
theorem turn_list {P : Program} {w : World} {K : PySem.W.Frag} {tg : Expr} (a it : Addr) : Turn P w K tg (Itl K a) [it] it (fun i h => h.IsListIter it a i) where
  mem := by simp
  obj := fun i h st b hb => by
    have e : b = it := by simpa using hb
    subst e
    obtain ⟨o, e, c, d⟩ := st
    exact ⟨o, e, fun v z => by rw [d] at z; cases z⟩
  keep := fun i h h' st k => st.at fun o e => k it (by simp) o e
  item := by
    intro X hP hw hK hc i pins s σ H E I hf st hg
    subst hP hw hK
    obtain ⟨xs, x, hq, hx⟩ := hg
    obtain ⟨its, rv, p, hz⟩ := I.list hq
    obtain ⟨u, hu, ru⟩ := rv.get hx
    obtain ⟨f0, f1, f2, f3, f4, f5⟩ := hf it (by simp)
    refine wpAny_pyNext_list_item st p.isList (x := u) (by simpa using hu) fun h' st' sb => ?_
    have I1 : Inv X pins σ H { s with heap := h' } := I.turned (t' := s.toks) (fun b o hb e => (sb.2 b hb).trans e) f0 f1 f3 f4 f5
    obtain ⟨o, e, c, d⟩ := id st'
    exact ⟨u, rfl, go_of (s := { s with heap := h' }) e c d (by decide) ⟨x, H, I1, ru, ⟨rfl, fun ys hy => by rw [I.list_inj hy hq]; exact hx⟩, st', fun b hb => (hf b hb).1⟩⟩
  done := by
    intro X hP hw hK hc i pins s σ H E I hf st hg
    subst hP hw hK
    obtain ⟨xs, hq, hx⟩ := hg
    obtain ⟨its, rv, p, hz⟩ := I.list hq
    obtain ⟨f0, f1, f2, f3, f4, f5⟩ := hf it (by simp)
    have hl := rv.length
    exact wpAny_pyNext_list_end (I.ok.hd hc) st p.isList (by simp; omega) fun h' eb => ⟨rfl, I.turned (t' := s.toks) (fun b o hb e => eb b o hb e) f0 f1 f3 f4 f5⟩
  self := fun _ _ _ _ _ st h => wpAny_pyIter_listiter st h
theorem turn_range {P : Program} {w : World} {K : PySem.W.Frag} {tg : Expr} (it : Addr) (lo : Int) (n : Nat) : Turn P w K tg (Itr lo n) [it] it (fun i h => IsRangeIter h it (lo + (i : Nat) * 1) ((n : Int) - (i : Nat)) 1) where
  mem := by simp
  obj := fun i h st b hb => by
    have e : b = it := by simpa using hb
    subst e
    exact ⟨_, st, fun v z => by
      have z' : Data.fields _ = Data.cell v := z
      cases z'⟩
  keep := fun i h h' st k => k it (by simp) _ st
  item := by
    intro X hP hw hK hc i pins s σ H E I hf st hg
    subst hP hw hK
    obtain ⟨f0, f1, f2, f3, f4, f5⟩ := hf it (by simp)
    have W := Walks.range (prog := X.prog) (w := X.w) (I.ok.hd hc) it lo 1 n
    refine W.item i s _ _ hg st fun v h' tk hv st' kk => ?_
    obtain ⟨t, rfl⟩ := hv
    have I1 : Inv X pins σ H { s with heap := h', toks := tk } := I.turned (fun b o hb e => kk b o (by simpa using hb) e) f0 f1 f3 f4 f5
    refine ⟨_, rfl, go_of (s := { s with heap := h', toks := tk }) (n := "range_iterator") st' rfl rfl (by decide) ⟨.int (lo + i), H, I1, ⟨t, ?_⟩, ⟨rfl, rfl⟩, st', fun b hb => (hf b hb).1⟩⟩
    rw [Int.mul_one]
  done := by
    intro X hP hw hK hc i pins s σ H E I hf st hg
    subst hP hw hK
    obtain ⟨f0, f1, f2, f3, f4, f5⟩ := hf it (by simp)
    exact wpAny_pyNext_range_end (I.ok.hd hc) st (by have : n ≤ i := hg; omega) fun h' eb => ⟨rfl, I.turned (t' := s.toks) (fun b o hb e => eb b o hb e) f0 f1 f3 f4 f5⟩
  self := fun _ _ _ _ _ st h => wpAny_pyIter_rangeiter st h
end L2
namespace L2
open PySem PySem.Spec PyProof.Rows
section
variable {X : Cx} {tg : Expr}
def iList (K : PySem.W.Frag) (tl : TE) : TI := fun σ H R => tl σ H fun x H1 => ∃ a, x = .ref a/\(∃ xs, SqL K H1 a xs)/\R (Itl K a) H1
theorem pi_list {l : Expr} {tl : TE} (hl : PE X l tl) : PI X tg l (iList X.K tl) := by
  intro pins s σ H R I h
  refine thn (hl pins s σ H _ I h) fun v s1 ⟨x, H1, I1, r1, q1⟩ => ?_
  obtain ⟨a, e, ⟨xs, hq⟩, q⟩ := q1
  subst e
  cases r1
  obtain ⟨its, rv, p, hz⟩ := I1.list hq
  refine wpAny_pyIter_list p.isList ?_
  refine ⟨s1.heap.objs.size, [s1.heap.objs.size], _, _, H1, rfl, I1.kept (t' := s1.toks) fun b o e => Heap.get?_push_of_some _ e, turn_list a _, ⟨_, Heap.get?_push_size _ rfl, rfl, rfl⟩, fun b hb => ?_, q⟩
  have e : b = s1.heap.objs.size := by simpa using hb
  subst e
  exact I1.fpOk (Nat.le_refl _) (I1.hok.fresh (Nat.le_refl _))
theorem range_it {pins : List (Addr × Obj)} {σ : St} {H : Hp} {s : Shared} {R : It->Hp->Prop} {E : Value->Shared->Prop} {lo hi : Int} {t u v : Tok} {tk : Nat} (I : Inv X pins σ H s) (h1 : -(2 ^ 62) ≤ lo) (h2 : lo < 2 ^ 62) (h3 : -(2 ^ 62) ≤ hi) (h4 : hi < 2 ^ 62) (q : R (Itr lo (hi - lo).toNat) H) : wpAny (model X.prog X.w) X.A (pyIter (.ref s.heap.objs.size)) (PIE X pins σ tg R) E { s with heap := s.heap.push { cls := .type "range", data := .fields #[.int lo t, .int hi u, .int 1 v] }, toks := tk } := by
  refine wpAny_pyIter_range (IsRange.new ..) (small_one h1 h2 h3 h4) ?_
  have I1 : Inv X pins σ H { s with heap := s.heap.push { cls := .type "range", data := .fields #[.int lo t, .int hi u, .int 1 v] }, toks := tk } := I.kept fun b o e => Heap.get?_push_of_some _ e
  refine ⟨(s.heap.push { cls := .type "range", data := .fields #[.int lo t, .int hi u, .int 1 v] }).objs.size, [(s.heap.push { cls := .type "range", data := .fields #[.int lo t, .int hi u, .int 1 v] }).objs.size], _, _, H, rfl,
    I1.kept (t' := tk) fun b o e => Heap.get?_push_of_some _ e, turn_range _ lo (hi - lo).toNat, ?_, fun b hb => ?_, q⟩
  · have e1 : lo + ((0 : Nat) : Int) * 1 = lo := by simp
    have e2 : (((hi - lo).toNat : Nat) : Int) - ((0 : Nat) : Int) = Builtin.Range.rangeSize lo hi 1 := by rw [rangeSize_one]; split <;> omega
    show IsRangeIter _ _ (lo + ((0 : Nat) : Int) * 1) ((((hi - lo).toNat : Nat) : Int) - ((0 : Nat) : Int)) 1
    rw [e1, e2]
    exact Heap.get?_push_size _ rfl
  · have e : b = (s.heap.push { cls := .type "range", data := .fields #[.int lo t, .int hi u, .int 1 v] }).objs.size := by simpa using hb
    subst e
    exact I1.fpOk (Nat.le_refl _) (I1.hok.fresh (Nat.le_refl _))
def iRng1 (ta : TA) : TI := fun σ H R => ta σ H fun vs H1 => ∃ j : Int, vs = [.int j]/\-(2 ^ 62) ≤ j/\j < 2 ^ 62/\R (Itr 0 j.toNat) H1
def iRng2 (ta : TA) : TI := fun σ H R => ta σ H fun vs H1 => ∃ i j : Int, vs = [.int i, .int j]/\(-(2 ^ 62) ≤ i/\i < 2 ^ 62/\-(2 ^ 62) ≤ j/\j < 2 ^ 62)/\R (Itr i (j - i).toNat) H1
theorem pi_range1 {a : Expr} {ta : TA} {p pos : Pos} (hg : Gl X "range") (hm : X.mg "range" = none) (ha : PA X [a] ta) (hs : starEach [a] X.env = [(false, eval a X.env)] := by rfl) : PI X tg (.Call (.Name "range" p) [a] [] pos) (iRng1 ta) := by
  intro pins s σ H R I h
  refine Call_ (ld_blt I hg hm boot_range (PyProof.Rows.callWith_type1 (thn (ha pos pins s σ H _ I h) fun us s1 ⟨vs, H1, I1, r1, q1⟩ => ?_) hs rfl))
  obtain ⟨j, e, q1, q2, q⟩ := q1
  subst e
  cases r1 with
  | cons r rr =>
    cases rr
    obtain ⟨t, rfl⟩ := r
    exact call_range_1 (range_it I1 (by omega) (by omega) q1 q2 (by simpa using q))
theorem pi_range2 {a b : Expr} {ta : TA} {p pos : Pos} (hg : Gl X "range") (hm : X.mg "range" = none) (ha : PA X [a, b] ta) (hs : starEach [a, b] X.env = [(false, eval a X.env), (false, eval b X.env)] := by rfl) (hs2 : starEach [b] X.env = [(false, eval b X.env)] := by rfl) :
    PI X tg (.Call (.Name "range" p) [a, b] [] pos) (iRng2 ta) := by
  intro pins s σ H R I h
  refine Call_ (ld_blt I hg hm boot_range (PyProof.Rows.callWith_type1 (thn (ha pos pins s σ H _ I h) fun us s1 ⟨vs, H1, I1, r1, q1⟩ => ?_) (by rw [hs, hs2]) (by rw [hs2]; rfl)))
  obtain ⟨i, j, e, ⟨q1, q2, q3, q4⟩, q⟩ := q1
  subst e
  cases r1 with
  | cons r rr =>
    cases rr with
    | cons r' rr =>
      cases rr
      obtain ⟨t, rfl⟩ := r
      obtain ⟨t', rfl⟩ := r'
      exact call_range_2 (range_it I1 q1 q2 q3 q4 q)
def tFor (wi : TI) (g : TG) (tb : TS) : TS := fun D σ H => wi σ H fun J H1 => ∃ W : Nat->Nat->St->Hp->Prop, (∃ m, W 0 m σ H1)/\∀ i m σ H, W i m σ H →
  (J.stop i H/\D.nx σ H) ∨ (J.go i H/\∃ N : St->Hp->Prop, (∀ σ' H', N σ' H'->∃ m', m' < m/\W (i + 1) m' σ' H')/\∀ x H', J.yld i H x H'->g x σ H' fun σ2 H2 => tb { D with nx := N, ct := N, bk := D.nx } σ2 H2)
def pinsAt (fp : List Addr) (h : Heap) : List (Addr × Obj) := fp.filterMap fun b => (h.get? b).map fun o => (b, o)
theorem mem_pinsAt {fp : List Addr} {h : Heap} {b : Addr} {o : Obj} (hb : b ∈ fp) (e : h.get? b = some o) : (b, o) ∈ pinsAt fp h := List.mem_filterMap.mpr ⟨b, hb, by rw [e]; rfl⟩
theorem of_pinsAt {fp : List Addr} {h : Heap} {p : Addr × Obj} (hp : p ∈ pinsAt fp h) : p.1 ∈ fp/\h.get? p.1 = some p.2 := by
  obtain ⟨b, hb, e⟩ := List.mem_filterMap.mp hp
  cases q : h.get? b with
  | none => rw [q] at e; cases e
  | some o =>
    rw [q] at e
    have e' : (b, o) = p := Option.some.inj e
    subst e'
    exact ⟨hb, q⟩
theorem Inv.pinned {pins : List (Addr × Obj)} {σ : St} {H : Hp} {s : Shared} {fp : List Addr} (I : Inv X pins σ H s) (hf : ∀ b ∈ fp, FpOk X pins H b) (ho : ∀ b ∈ fp, ∃ o, s.heap.get? b = some o/\∀ v, o.data ≠ .cell v) : Inv X (pins ++ pinsAt fp s.heap) σ H s :=
  I.pins_of fun p hp => (List.mem_append.mp hp).elim (fun z => I.pin p (List.mem_append_right _ z)) fun z => by
    obtain ⟨hb, e⟩ := of_pinsAt z
    obtain ⟨f0, f1, f2, _⟩ := hf p.1 hb
    obtain ⟨o, e', d⟩ := ho p.1 hb
    rw [e] at e'; cases e'
    exact ⟨e, f0, f1, f2, d⟩
theorem Inv.unpinned {pins pl : List (Addr × Obj)} {σ : St} {H : Hp} {s : Shared} (I : Inv X (pins ++ pl) σ H s) : Inv X pins σ H s := I.pins_of fun p hp => I.pin p (List.mem_append_right _ (List.mem_append_left _ hp))
theorem ps_for {iter : Expr} {body : List Stmt} {wi : TI} {g : TG} {tb : TS} {pos : Pos} (hp : PassesOwn (model X.prog X.w) X.A X.env X.xe) (hc : X.calm = true) (hi : PI X tg iter wi) (hg : PG X tg g) (hb : PSs X body tb) (hs : ∀ x, foldedSetIterable iter X.env x = pure x := by intro _; rfl) : PS X (.For tg iter body [] pos) (tFor wi g tb) := by
  intro pins s σ H D I h
  refine wpAny_For (thn (hi pins s σ H _ I h) fun v s1 h1 => thn h1 fun itv s2 h2 => ?_) hs
  obtain ⟨it, fp, tn, J, H2, e, I2, T, st2, f2, W, ⟨m0, w0⟩, turn⟩ := h2
  subst e
  have stat : ∀ {H' : Hp}, (∀ b ∈ fp, H' b = none)->∀ b ∈ fp, FpOk X pins H' b := fun hn b hb => ⟨hn b hb, (f2 b hb).2⟩
  refine codeAny_forLoop_any (fun n s' => ∃ i σ' H', Inv X pins σ' H' s'/\tn i s'.heap/\(∀ b ∈ fp, H' b = none)/\W i n σ' H') ?_ m0 ⟨0, σ, H2, I2, st2, fun b hb => (f2 b hb).1, w0⟩
  rintro n s3 ⟨i, σ3, H3, I3, st3, fr3, w3⟩
  rcases turn i n σ3 H3 w3 with ⟨stop, qn⟩ | ⟨go, N, hN, step⟩
  · refine wpAny_passesOwn hp (thn (T.done X rfl rfl rfl hc i pins s3 σ3 H3 X.xe I3 (stat fr3) st3 stop) fun r s4 ⟨hr, I4⟩ => ?_)
    subst hr
    exact wpAny_execs_nil ⟨σ3, H3, I4, qn⟩
  · refine wpAny_passesOwn hp (thn (T.item X rfl rfl rfl hc i pins s3 σ3 H3 X.xe I3 (stat fr3) st3 go) fun r s4 ⟨u, hr, h4⟩ => ?_)
    subst hr
    refine wpAny_passesOwn hp (thn h4 fun _ s5 ⟨x, H5, I5, r5, y5, st5, fr5⟩ => ?_)
    have I5' := I5.pinned (stat fr5) (T.obj _ _ st5)
    refine wpAny_passesOwn hp (thn (hg _ s5 σ3 H5 x u _ I5' r5 (step x H5 y5)) fun _ s6 ⟨σ6, H6, I6, q6⟩ => ?_)
    refine wpAny_passesOwn hp (thn (hb _ s6 σ6 H6 _ I6 q6) fun f s7 q7 => ?_)
    have again : ∀ {σ7 : St} {H7 : Hp}, Inv X (pins ++ pinsAt fp s5.heap) σ7 H7 s7->N σ7 H7->∃ m, m < n/\∃ i σ' H', Inv X pins σ' H' s7/\tn i s7.heap/\(∀ b ∈ fp, H' b = none)/\W i m σ' H' := fun {σ7 H7} I7 n7 => by
      obtain ⟨m', hm, w7⟩ := hN σ7 H7 n7
      refine ⟨m', hm, i + 1, σ7, H7, I7.unpinned, T.keep _ _ _ st5 fun b hb o e => (I7.pin (b, o) (List.mem_append_right _ (List.mem_append_right _ (mem_pinsAt hb e)))).1, fun b hb => ?_, w7⟩
      obtain ⟨o, e, d⟩ := T.obj _ _ st5 b hb
      exact (I7.pin (b, o) (List.mem_append_right _ (List.mem_append_right _ (mem_pinsAt hb e)))).2.1
    cases f with
    | next => obtain ⟨σ7, H7, I7, n7⟩ := q7; exact again I7 n7
    | cont => obtain ⟨σ7, H7, I7, n7⟩ := q7; exact again I7 n7
    | brk => obtain ⟨σ7, H7, I7, q7⟩ := q7; exact ⟨σ7, H7, I7.unpinned, q7⟩
    | ret v => obtain ⟨x7, σ7, H7, I7, r7, q7⟩ := q7; exact ⟨x7, σ7, H7, I7.unpinned, r7, q7⟩
end
theorem for_list {K : PySem.W.Frag} {a : Addr} {xs : List V} {g : TG} {tb : TS} {D : Ends} {σ : St} {H : Hp} (Pv : Nat->St->Hp->Prop) (h0 : Pv 0 σ H) (hl : ∀ i σ H, i ≤ xs.length->Pv i σ H->SqL K H a xs) (hs : ∀ i x σ H, xs[i]? = some x->Pv i σ H->g x σ H fun σ2 H2 => tb { D with nx := Pv (i + 1), ct := Pv (i + 1), bk := D.nx } σ2 H2) (hd : ∀ σ H, Pv xs.length σ H->D.nx σ H) :
    ∃ W : Nat->Nat->St->Hp->Prop, (∃ m, W 0 m σ H)/\∀ i m σ H, W i m σ H →
      ((Itl K a).stop i H/\D.nx σ H) ∨ ((Itl K a).go i H/\∃ N : St->Hp->Prop, (∀ σ' H', N σ' H'->∃ m', m' < m/\W (i + 1) m' σ' H')/\∀ x H', (Itl K a).yld i H x H'->g x σ H' fun σ2 H2 => tb { D with nx := N, ct := N, bk := D.nx } σ2 H2) := by
  refine ⟨fun i m σ H => m = xs.length - i/\i ≤ xs.length/\Pv i σ H, ⟨xs.length, by simp, Nat.zero_le _, h0⟩, ?_⟩
  rintro i m σ H ⟨rfl, hi, p⟩
  have q := hl i σ H hi p
  by_cases hlt : i < xs.length
  · refine .inr ⟨⟨xs, xs[i], q, by simp [hlt]⟩, Pv (i + 1), fun σ' H' p' => ⟨xs.length - (i + 1), by omega, rfl, hlt, p'⟩, fun x H' y => ?_⟩
    obtain ⟨e, y⟩ := y
    subst e
    exact hs i x σ _ (y xs q) p
  · have e : i = xs.length := by omega
    subst e
    exact .inl ⟨⟨xs, q, Nat.le_refl _⟩, hd σ H p⟩
theorem for_range {lo : Int} {n : Nat} {g : TG} {tb : TS} {D : Ends} {σ : St} {H : Hp} (Pv : Nat->St->Hp->Prop) (h0 : Pv 0 σ H) (hs : ∀ i σ H, i < n->Pv i σ H->g (.int (lo + i)) σ H fun σ2 H2 => tb { D with nx := Pv (i + 1), ct := Pv (i + 1), bk := D.nx } σ2 H2) (hd : ∀ σ H, Pv n σ H->D.nx σ H) :
    ∃ W : Nat->Nat->St->Hp->Prop, (∃ m, W 0 m σ H)/\∀ i m σ H, W i m σ H →
      ((Itr lo n).stop i H/\D.nx σ H) ∨ ((Itr lo n).go i H/\∃ N : St->Hp->Prop, (∀ σ' H', N σ' H'->∃ m', m' < m/\W (i + 1) m' σ' H')/\∀ x H', (Itr lo n).yld i H x H'->g x σ H' fun σ2 H2 => tb { D with nx := N, ct := N, bk := D.nx } σ2 H2) := by
  refine ⟨fun i m σ H => m = n - i/\i ≤ n/\Pv i σ H, ⟨n, by simp, Nat.zero_le _, h0⟩, ?_⟩
  rintro i m σ H ⟨rfl, hi, p⟩
  by_cases hlt : i < n
  · refine .inr ⟨hlt, Pv (i + 1), fun σ' H' p' => ⟨n - (i + 1), by omega, rfl, hlt, p'⟩, fun x H' y => ?_⟩
    obtain ⟨e, y⟩ := y
    subst e y
    exact hs i σ _ hlt p
  · have e : i = n := by omega
    subst e
    exact .inl ⟨Nat.le_refl _, hd σ H p⟩
end L2
namespace L2
open PySem PySem.Spec PyProof.Rows
abbrev R2 := V->V->Hp->VK->Prop
def OpR (X : Cx) (f : Value->Value->Sem Value) (r : R2) : Prop :=
  ∀ (pins : List (Addr × Obj)) (s : Shared) (σ : St) (H : Hp) (x y : V) (v u : Value) (Q : VK), Inv X pins σ H s->RelV x v->RelV y u->r x y H Q →
    wpAny (model X.prog X.w) X.A (f v u) (EP X pins σ Q) X.xe s
def UnR (X : Cx) (f : Value->Sem Value) (r : V->Hp->VK->Prop) : Prop :=
  ∀ (pins : List (Addr × Obj)) (s : Shared) (σ : St) (H : Hp) (x : V) (v : Value) (Q : VK), Inv X pins σ H s->RelV x v->r x H Q →
    wpAny (model X.prog X.w) X.A (f v) (EP X pins σ Q) X.xe s
def CallR (X : Cx) (f : Value) (r : List V->Hp->VK->Prop) : Prop :=
  ∀ (pins : List (Addr × Obj)) (s : Shared) (σ : St) (H : Hp) (xs : List V) (us : List Value) (Q : VK), Inv X pins σ H s->Vals xs us->r xs H Q →
    wpAny (model X.prog X.w) X.A (call f us) (EP X pins σ Q) X.xe s
def tOp (r : R2) (ta tb : TE) : TE := fun σ H Q => ta σ H fun x H1 => tb σ H1 fun y H2 => r x y H2 Q
def tUn (r : V->Hp->VK->Prop) (ta : TE) : TE := fun σ H Q => ta σ H fun x H1 => r x H1 Q
def rI (C : Int->Int->Prop) (g : Int->Int->V) : R2 := fun x y H Q => ∃ i j, x = .int i/\y = .int j/\C i j/\Q (g i j) H
def rI0 (g : Int->Int->V) : R2 := fun x y H Q => ∃ i j, x = .int i/\y = .int j/\Q (g i j) H
def rU (g : Int->V) : V->Hp->VK->Prop := fun x H Q => ∃ i, x = .int i/\Q (g i) H
section
variable {X : Cx} {a b c : Expr} {ta tb tc : TE} {pos : Pos}
theorem binT (ha : PE X a ta) (hb : PE X b tb) {pins : List (Addr × Obj)} {s : Shared} {σ : St} {H : Hp} {R : V->V->Hp->Prop} (I : Inv X pins σ H s) (h : ta σ H fun x H1 => tb σ H1 fun y H2 => R x y H2) {Q : Value->Shared->Prop} {f : Value->Value->Sem Value} (hf : ∀ v u s2 x y H2, Inv X pins σ H2 s2->RelV x v->RelV y u->R x y H2->wpAny (model X.prog X.w) X.A (f v u) Q X.xe s2) : wpAny (model X.prog X.w) X.A (eval a X.env) (fun v s₁ => wpAny (model X.prog X.w) X.A (eval b X.env) (fun u s₂ => wpAny (model X.prog X.w) X.A (f v u) Q X.xe s₂) X.xe s₁) X.xe s := by
  refine thn (ha pins s σ H _ I h) fun v s1 ⟨x, H1, I1, r1, q1⟩ => ?_
  refine thn (hb pins s1 σ H1 _ I1 q1) fun u s2 ⟨y, H2, I2, r2, q2⟩ => ?_
  exact hf v u s2 x y H2 I2 r1 r2 q2
theorem pe_op {op : Operator} {r : R2} (ho : OpR X (binaryOp op) r) (ha : PE X a ta) (hb : PE X b tb) : PE X (.BinOp a op b pos) (tOp r ta tb) := by
  intro pins s σ H Q I h
  exact wpAny_BinOp (binT ha hb I h fun v u s2 x y H2 I2 rx ry q => ho pins s2 σ H2 x y v u Q I2 rx ry q)
theorem pe_un {op : UnaryOp} {r : V->Hp->VK->Prop} (ho : UnR X (unaryOp op) r) (ha : PE X a ta) : PE X (.UnaryOp op a pos) (tUn r ta) := by
  intro pins s σ H Q I h
  exact UnaryOp_ (thn (ha pins s σ H _ I h) fun v s1 ⟨x, H1, I1, r1, q1⟩ => ho pins s1 σ H1 x v Q I1 r1 q1)
theorem opI {f : Value->Value->Sem Value} {C : Int->Int->Prop} {g : Int->Int->Int} (rule : ∀ (i j : Int) (t u : Tok) (s : Shared) (Q : Value->Shared->Prop) (E : Value->Shared->Prop), C i j->Q (.int (g i j) s.toks) { s with toks := s.toks + 1 }->wpAny (model X.prog X.w) X.A (f (.int i t) (.int j u)) Q E s) :
    OpR X f (rI C fun i j => .int (g i j)) := by
  intro pins s σ H x y v u Q I rx ry h
  obtain ⟨i, j, rfl, rfl, hc, q⟩ := h
  obtain ⟨t, rfl⟩ := rx
  obtain ⟨t', rfl⟩ := ry
  exact rule i j t t' s _ _ hc ⟨.int (g i j), H, I.tok _, ⟨_, rfl⟩, q⟩
theorem opI0 {f : Value->Value->Sem Value} {g : Int->Int->Int} (rule : ∀ (i j : Int) (t u : Tok) (s : Shared) (Q : Value->Shared->Prop) (E : Value->Shared->Prop), Q (.int (g i j) s.toks) { s with toks := s.toks + 1 }->wpAny (model X.prog X.w) X.A (f (.int i t) (.int j u)) Q E s) :
    OpR X f (rI0 fun i j => .int (g i j)) := by
  intro pins s σ H x y v u Q I rx ry h
  obtain ⟨i, j, rfl, rfl, q⟩ := h
  obtain ⟨t, rfl⟩ := rx
  obtain ⟨t', rfl⟩ := ry
  exact rule i j t t' s _ _ ⟨.int (g i j), H, I.tok _, ⟨_, rfl⟩, q⟩
theorem opB0 {f : Value->Value->Sem Value} {g : Int->Int->Bool} (rule : ∀ (i j : Int) (t u : Tok) (s : Shared) (Q : Value->Shared->Prop) (E : Value->Shared->Prop), Q (.bool (g i j)) s->wpAny (model X.prog X.w) X.A (f (.int i t) (.int j u)) Q E s) : OpR X f (rI0 fun i j => .bl (g i j)) := by
  intro pins s σ H x y v u Q I rx ry h
  obtain ⟨i, j, rfl, rfl, q⟩ := h
  obtain ⟨t, rfl⟩ := rx
  obtain ⟨t', rfl⟩ := ry
  exact rule i j t t' s _ _ ⟨.bl (g i j), H, I, rfl, q⟩
def CDiv (i j : Int) : Prop := 0 < j/\j < 1073741824
def CPow (i j : Int) : Prop := 0 ≤ j/\j ≤ 1000000/\i.natAbs < 2 ^ 64
def CMul (i j : Int) : Prop := (-(2 ^ 64) < i/\i < 2 ^ 64) ∨ (-(2 ^ 64) < j/\j < 2 ^ 64)
theorem CMul.ok {i j : Int} (h : CMul i j) : IntMulOk i j := by
  rcases h with ⟨h1, h2⟩ | ⟨h1, h2⟩
  · exact .of_left (intBits_le_64 h1 h2)
  · exact .of_right (intBits_le_64 h1 h2)
theorem op_add : OpR X (binaryOp .Add) (rI0 fun i j => .int (i + j)) := opI0 fun _ _ _ _ _ _ _ q => add_int q
theorem op_sub : OpR X (binaryOp .Sub) (rI0 fun i j => .int (i - j)) := opI0 fun _ _ _ _ _ _ _ q => sub_int q
theorem op_mul : OpR X (binaryOp .Mult) (rI CMul fun i j => .int (i * j)) := opI fun _ _ _ _ _ _ _ hc q => mul_int q hc.ok
theorem op_fdiv : OpR X (binaryOp .FloorDiv) (rI CDiv fun i j => .int (i / j)) := opI fun i j _ _ _ _ _ hc q => by
  have h1 : (0 : Int) < j := hc.1
  have h2 : j < 1073741824 := hc.2
  exact floordiv_int (by omega) (by rw [Int.fdiv_eq_ediv_of_nonneg i (by omega)]; exact q) (.inl (PyProof.noPylong_small (by omega)))
theorem op_mod : OpR X (binaryOp .Mod) (rI (fun _ j => 0 < j) fun i j => .int (i % j)) := opI fun i j _ _ _ _ _ hc q => by
  have h1 : (0 : Int) < j := hc
  exact mod_int' (by omega) (by rw [Int.fmod_eq_emod_of_nonneg i (by omega)]; exact q)
theorem op_pow : OpR X (binaryOp .Pow) (rI CPow fun i j => .int (i ^ j.toNat)) := opI fun _ _ _ _ _ _ _ hc q => pow_int_small hc.1 hc.2.1 hc.2.2 q
theorem unI {f : Value->Sem Value} {g : Int->Int} (rule : ∀ (i : Int) (t : Tok) (s : Shared) (Q : Value->Shared->Prop) (E : Value->Shared->Prop), Q (.int (g i) s.toks) { s with toks := s.toks + 1 }->wpAny (model X.prog X.w) X.A (f (.int i t)) Q E s) :
    UnR X f (rU fun i => .int (g i)) := by
  intro pins s σ H x v Q I rx h
  obtain ⟨i, rfl, q⟩ := h
  obtain ⟨t, rfl⟩ := rx
  exact rule i t s _ _ ⟨.int (g i), H, I.tok _, ⟨_, rfl⟩, q⟩
theorem un_neg : UnR X (unaryOp .USub) (rU fun i => .int (-i)) := unI fun _ _ _ _ _ q => neg_int q
end
def scal : V->V->Bool
  | .non, .non => true | .non, .int _ => true | .int _, .non => true | .non, .bl _ => true | .bl _, .non => true | .non, .str _ => true | .str _, .non => true
  | .int _, .int _ => true | .bl _, .bl _ => true | .str _, .str _ => true | .byt _, .byt _ => true
  | .int _, .str _ => true | .str _, .int _ => true | .bl _, .str _ => true | .str _, .bl _ => true
  | _, _ => false
def rEq : R2 := fun x y H Q => scal x y = true/\Q (.bl (decide (x = y))) H
def rNe : R2 := fun x y H Q => scal x y = true/\Q (.bl (!decide (x = y))) H
theorem dec_int {i j : Int} : decide (V.int i = V.int j) = (i == j) := by
  rw [Bool.eq_iff_iff]
  simp
theorem dec_bl {i j : Bool} : decide (V.bl i = V.bl j) = (i == j) := by
  rw [Bool.eq_iff_iff]
  simp
theorem dec_str {i j : Str} : decide (V.str i = V.str j) = (i == j) := by
  rw [Bool.eq_iff_iff]
  simp
theorem dec_byt {i j : Array UInt8} : decide (V.byt i = V.byt j) = (i.toList == j.toList) := by
  rw [Bool.eq_iff_iff]
  cases i
  cases j
  simp
section
variable {X : Cx} {a b c : Expr} {ta tb tc : TE} {pos : Pos}
theorem fin_bl {pins : List (Addr × Obj)} {σ : St} {H : Hp} {s : Shared} {Q : VK} {k k' : Bool} (I : Inv X pins σ H s) (q : Q (.bl k) H) (e : k = k') : EP X pins σ Q (.bool k') s := by
  subst e
  exact ⟨.bl k, H, I, rfl, q⟩
theorem op_eq : OpR X (compareOp .Eq) rEq := by
  intro pins s σ H x y v u Q I rx ry h
  obtain ⟨hs, q⟩ := h
  cases x with
  | non =>
    cases rx
    cases y with
    | non => cases ry; exact PySem.EqNone.eq_none_none (fin_bl I q (by simp))
    | bl j => cases ry; exact PySem.EqNone.eq_none_bool (fin_bl I q (by simp))
    | int j => obtain ⟨t', rfl⟩ := ry; exact PySem.EqNone.eq_none_int (fin_bl I q (by simp))
    | str j => obtain ⟨t', rfl⟩ := ry; exact PySem.EqNone.eq_none_str (fin_bl I q (by simp))
    | _ => exact absurd (show false = true from hs) Bool.false_ne_true
  | bl i =>
    cases rx
    cases y with
    | non => cases ry; exact PySem.EqNone.eq_bool_none (fin_bl I q (by simp))
    | bl j => cases ry; exact eq_bool (fin_bl I q dec_bl)
    | str j => obtain ⟨t', rfl⟩ := ry; exact PySem.EqMixed.eq_bool_str (fin_bl I q (by simp))
    | _ => exact absurd (show false = true from hs) Bool.false_ne_true
  | int i =>
    obtain ⟨t, rfl⟩ := rx
    cases y with
    | non => cases ry; exact PySem.EqNone.eq_int_none (fin_bl I q (by simp))
    | int j => obtain ⟨t', rfl⟩ := ry; exact eq_int (fin_bl I q dec_int)
    | str j => obtain ⟨t', rfl⟩ := ry; exact PySem.EqMixed.eq_int_str (fin_bl I q (by simp))
    | _ => exact absurd (show false = true from hs) Bool.false_ne_true
  | str i =>
    obtain ⟨t, rfl⟩ := rx
    cases y with
    | non => cases ry; exact PySem.EqNone.eq_str_none (fin_bl I q (by simp))
    | bl j => cases ry; exact PySem.EqMixed.eq_str_bool (fin_bl I q (by simp))
    | int j => obtain ⟨t', rfl⟩ := ry; exact PySem.EqMixed.eq_str_int (fin_bl I q (by simp))
    | str j => obtain ⟨t', rfl⟩ := ry; exact eq_str (fin_bl I q dec_str)
    | _ => exact absurd (show false = true from hs) Bool.false_ne_true
  | byt i =>
    obtain ⟨t, rfl⟩ := rx
    cases y with
    | byt j => obtain ⟨t', rfl⟩ := ry; exact PySem.W.eq_bytes (fin_bl I q dec_byt)
    | _ => exact absurd (show false = true from hs) Bool.false_ne_true
  | _ => cases y <;> exact absurd (show false = true from hs) Bool.false_ne_true
theorem op_ne : OpR X (compareOp .NotEq) rNe := by
  intro pins s σ H x y v u Q I rx ry h
  obtain ⟨hs, q⟩ := h
  cases x with
  | non =>
    cases rx
    cases y with
    | non => cases ry; exact PySem.EqNone.ne_none_none (fin_bl I q (by simp))
    | bl j => cases ry; exact PySem.EqNone.ne_none_bool (fin_bl I q (by simp))
    | int j => obtain ⟨t', rfl⟩ := ry; exact PySem.EqNone.ne_none_int (fin_bl I q (by simp))
    | str j => obtain ⟨t', rfl⟩ := ry; exact PySem.EqNone.ne_none_str (fin_bl I q (by simp))
    | _ => exact absurd (show false = true from hs) Bool.false_ne_true
  | bl i =>
    cases rx
    cases y with
    | non => cases ry; exact PySem.EqNone.ne_bool_none (fin_bl I q (by simp))
    | bl j => cases ry; exact ne_bool (fin_bl I q (congrArg not dec_bl))
    | str j => obtain ⟨t', rfl⟩ := ry; exact PySem.EqMixed.ne_bool_str (fin_bl I q (by simp))
    | _ => exact absurd (show false = true from hs) Bool.false_ne_true
  | int i =>
    obtain ⟨t, rfl⟩ := rx
    cases y with
    | non => cases ry; exact PySem.EqNone.ne_int_none (fin_bl I q (by simp))
    | int j => obtain ⟨t', rfl⟩ := ry; exact ne_int (fin_bl I q (congrArg not dec_int))
    | str j => obtain ⟨t', rfl⟩ := ry; exact PySem.EqMixed.ne_int_str (fin_bl I q (by simp))
    | _ => exact absurd (show false = true from hs) Bool.false_ne_true
  | str i =>
    obtain ⟨t, rfl⟩ := rx
    cases y with
    | non => cases ry; exact PySem.EqNone.ne_str_none (fin_bl I q (by simp))
    | bl j => cases ry; exact PySem.EqMixed.ne_str_bool (fin_bl I q (by simp))
    | int j => obtain ⟨t', rfl⟩ := ry; exact PySem.EqMixed.ne_str_int (fin_bl I q (by simp))
    | str j => obtain ⟨t', rfl⟩ := ry; exact ne_str (fin_bl I q (congrArg not dec_str))
    | _ => exact absurd (show false = true from hs) Bool.false_ne_true
  | byt i =>
    obtain ⟨t, rfl⟩ := rx
    cases y with
    | byt j => obtain ⟨t', rfl⟩ := ry; exact PySem.W.ne_bytes (fin_bl I q (congrArg not dec_byt))
    | _ => exact absurd (show false = true from hs) Bool.false_ne_true
  | _ => cases y <;> exact absurd (show false = true from hs) Bool.false_ne_true
theorem op_lt : OpR X (compareOp .Lt) (rI0 fun i j => .bl (decide (i < j))) := opB0 fun _ _ _ _ _ _ _ q => lt_int q
theorem op_le : OpR X (compareOp .LtE) (rI0 fun i j => .bl (decide (i ≤ j))) := opB0 fun _ _ _ _ _ _ _ q => le_int q
theorem op_gt : OpR X (compareOp .Gt) (rI0 fun i j => .bl (decide (j < i))) := opB0 fun _ _ _ _ _ _ _ q => gt_int q
theorem op_ge : OpR X (compareOp .GtE) (rI0 fun i j => .bl (decide (j ≤ i))) := opB0 fun _ _ _ _ _ _ _ q => ge_int q
theorem op_isN : OpR X (compareOp .Is) (fun x y H Q => y = .non/\Q (.bl (decide (x = .non))) H) := by
  intro pins s σ H x y v u Q I rx ry h
  obtain ⟨rfl, q⟩ := h
  cases ry
  refine is_none_gen (fin_bl I q ?_)
  cases x <;> first
    | (cases rx; rfl)
    | (obtain ⟨t, rfl⟩ := rx; rfl)
theorem nomark (b : Expr) {op : CmpOp} (h : op ≠ .In := by decide) (h2 : op ≠ .NotIn := by decide) : behindInMarks op b = false := by
  have e1 : (op == CmpOp.In) = false := by cases op <;> first | rfl | exact absurd rfl h
  have e2 : (op == CmpOp.NotIn) = false := by cases op <;> first | rfl | exact absurd rfl h2
  cases b <;> simp [behindInMarks, e1, e2]
theorem pe_cmpR {op : CmpOp} {r : R2} (ho : OpR X (compareOp op) r) (ha : PE X a ta) (hb : PE X b tb) (hm : behindInMarks op b = false) : PE X (.Compare a [op] [b] pos) (tOp r ta tb) := by
  intro pins s σ H Q I h
  exact wpAny_Compare1 (binT ha hb I h fun v u s2 x y H2 I2 rx ry q => ho pins s2 σ H2 x y v u Q I2 rx ry q) hm
def tTest (t : TE) : TT := fun σ H Q => t σ H fun x H' => ∃ k, x = .bl k/\Q k H'
theorem pt_cmpR {op : CmpOp} {r : R2} (ho : OpR X (compareOp op) r) (ha : PE X a ta) (hb : PE X b tb) (hm : behindInMarks op b = false) : PT X (.Compare a [op] [b] pos) (tTest (tOp r ta tb)) := by
  intro pins s σ H Q I h
  refine wpAny_isTrue_Compare1 (thn (ha pins s σ H _ I h) fun v s1 ⟨x, H1, I1, r1, q1⟩ => thn (hb pins s1 σ H1 _ I1 q1) fun u s2 ⟨y, H2, I2, r2, q2⟩ =>
    thn (ho pins s2 σ H2 x y v u _ I2 r1 r2 q2) fun c s3 ⟨z, H3, I3, r3, k, e, q3⟩ => ?_) hm
  subst e
  cases r3
  exact wpAny_truthy_bool ⟨H3, I3, q3⟩
def tChain (r r' : R2) (ta tb tc : TE) : TE := fun σ H Q => ta σ H fun x H1 => tb σ H1 fun y H2 => r x y H2 fun z H3 => ∃ k, z = .bl k ∧
  (if k = true then tc σ H3 fun w' H4 => r' y w' H4 Q else Q (.bl false) H3)
theorem pe_chain {op op' : CmpOp} {r r' : R2} (ho : OpR X (compareOp op) r) (ho' : OpR X (compareOp op') r') (ha : PE X a ta) (hb : PE X b tb) (hc : PE X c tc) (hm : lastMarks [op, op'] [b, c] = false := by with_unfolding_all rfl) : PE X (.Compare a [op, op'] [b, c] pos) (tChain r r' ta tb tc) := by
  intro pins s σ H Q I h
  refine Compare_chain (thn (ha pins s σ H _ I h) fun v s1 ⟨x, H1, I1, r1, q1⟩ => chain_link (thn (hb pins s1 σ H1 _ I1 q1) fun u s2 ⟨y, H2, I2, r2, q2⟩ =>
    thn (ho pins s2 σ H2 x y v u _ I2 r1 r2 q2) fun d s3 ⟨z, H3, I3, r3, k, e, q3⟩ => ?_)) hm
  subst e
  cases r3
  refine wpAny_truthy_bool ?_
  cases k with
  | false => exact ite_ff ⟨.bl false, H3, I3, rfl, q3⟩
  | true => exact ite_tt (chain_last (thn (hc pins s3 σ H3 _ I3 q3) fun w' s4 ⟨z', H4, I4, r4, q4⟩ => ho' pins s4 σ H4 y z' u w' Q I4 r2 r4 q4))
theorem line63 : (sizeLine : Nat) < 2 ^ 63 := by rw [sizeLine_eq]; decide
theorem vals1 {x : V} {us : List Value} (r : Vals [x] us) : ∃ u, us = [u]/\RelV x u := by
  cases r with
  | cons r1 r2 => cases r2; exact ⟨_, rfl, r1⟩
theorem vals2 {x y : V} {us : List Value} (r : Vals [x, y] us) : ∃ u w', us = [u, w']/\RelV x u/\RelV y w' := by
  cases r with
  | cons r1 r2 =>
    cases r2 with
    | cons r3 r4 => cases r4; exact ⟨_, _, rfl, r1, r3⟩
theorem call_min2 (hc : X.calm = true) : CallR X (.builtin "min") (fun xs H Q => ∃ i j, xs = [.int i, .int j]/\Q (.int (if j < i then j else i)) H) := by
  intro pins s σ H xs us Q I r h
  obtain ⟨i, j, rfl, q⟩ := h
  obtain ⟨u, w', rfl, ⟨t, rfl⟩, ⟨t', rfl⟩⟩ := vals2 r
  refine min_two_ints (I.ok.hd hc) fun h' tk k => ⟨_, H, I.kept k, ?_, q⟩
  by_cases hj : j < i
  · rw [if_pos hj, if_pos hj]; exact ⟨_, rfl⟩
  · rw [if_neg hj, if_neg hj]; exact ⟨_, rfl⟩
theorem call_int1 : CallR X (.type "int") (fun xs H Q => (∃ i, xs = [.int i]/\Q (.int i) H) ∨ ∃ k, xs = [.bl k]/\Q (.int (if k then 1 else 0)) H) := by
  intro pins s σ H xs us Q I r h
  rcases h with ⟨i, rfl, q⟩ | ⟨k, rfl, q⟩
  · obtain ⟨u, rfl, t, rfl⟩ := vals1 r
    exact call_int_int ⟨.int i, H, I, ⟨_, rfl⟩, q⟩
  · obtain ⟨u, rfl, r1⟩ := vals1 r
    cases r1
    exact call_int_bool ⟨.int (if k then 1 else 0), H, I.tok _, ⟨_, rfl⟩, q⟩
end
end L2
namespace L2
open PySem PySem.Spec PyProof.Rows
structure ObjM (h : Heap) (x dx C : Addr) (mA : Str->Option Value) : Prop where
  obj : h.get? x = some (PySem.W.instObj C dx)
  ns : h.Ns1 dx mA
  ne : dx ≠ x
theorem lookIn_ns {h : Heap} {dx : Addr} {mA : Str->Option Value} (n : h.Ns1 dx mA) : ∃ od, h.get? dx = some od/\∀ name, PySem.W.lookIn name od = some (mA name) := by
  obtain ⟨o, es, ep, ho, hd, hk, _, hm⟩ := n
  refine ⟨o, ho, fun name => ?_⟩
  have e := hm name
  unfold nsFind findBy at e
  rw [← Array.find?_toList] at e
  unfold PySem.W.lookIn
  rw [hd]
  dsimp only
  split
  · rename_i y q
    rw [q] at e
    exact congrArg some e
  · rename_i q
    rw [q] at e
    have a : es.toList.any (·.refKey) = false := by
      rw [List.any_eq_false]
      intro y hy
      obtain ⟨z, t, hkey⟩ := hk y (Array.mem_toList_iff.mp hy)
      simp [DictEntry.refKey, hkey]
    have a' : ¬ es.toList.any (·.refKey) = true := by rw [a]; exact Bool.false_ne_true
    rw [if_neg a']
    exact congrArg some e
theorem ObjM.look {h : Heap} {x dx C : Addr} {mA : Str->Option Value} (I : ObjM h x dx C mA) : ∃ od, PySem.W.InstAt h x (PySem.W.instObj C dx) C (some od)/\∀ name, PySem.W.lookIn name od = some (mA name) :=
  let ⟨od, ho, hl⟩ := lookIn_ns I.ns
  ⟨od, ⟨I.obj, rfl, rfl, ho⟩, hl⟩
section
variable {prog : Program} {w : World} {A : Around} {E : Value->Shared->Prop} {s : Shared} {K : PySem.W.Frag} {x dx C f : Addr} {mA : Str->Option Value} {name : Str} {v : Value}
end
theorem RelO.some_of {v : V} {o : Option Value} (r : RelO (some v) o) : ∃ u, o = some u/\RelV v u := by
  cases o with
  | none => exact (show False from r).elim
  | some u => exact ⟨u, rfl, r⟩
section
variable {P : Program} {w : World} {H H' : Hp} {h h' : Heap} {a C dx : Addr} {fs fs' : List (Str × V)}
theorem ins_get (hok : HOk P w H h) (e : H a = some (.ins C dx fs)) : ∃ mA, ObjM h a dx C mA/\(∀ f, RelO (fs.lookup f) (mA f))/\PySem.Within mA (fs.map (·.1))/\fs.length ≤ 1000/\H dx = some (.own a) := by
  obtain ⟨d, z, ne, ob, mA, n, r, q⟩ := (show ObjOk P w H h a (.ins C dx fs) from hok a _ e)
  exact ⟨mA, ⟨ob, n, ne⟩, r, q, z, d⟩
end
structure Cls (K : PySem.W.Frag) (C : Addr) : Prop where
  pg : PySem.W.plainGet K C Str.empty = true
  hd : PySem.W.hasDictIn K C = true
  po : PySem.W.plainOver K C = true
  sa : PySem.W.findIn K (.ref C) "__setattr__" = some (some (.builtin "object.__setattr__"))
theorem Cls.get {K : PySem.W.Frag} {C : Addr} (c : Cls K C) (f : Str) : PySem.W.plainGet K C f = true := c.pg
section
variable {X : Cx} {pins : List (Addr × Obj)} {σ : St} {H : Hp} {s : Shared} {a C dx : Addr} {fs : List (Str × V)} {f : Str} {v : V} {A : Around} {E : Value->Shared->Prop}
end
section
variable {X : Cx} {o e value : Expr} {f : Str} {pos pos' tpos : Pos} {ta tv : TE}
end
section
variable {X : Cx} {pins : List (Addr × Obj)} {σ : St} {H : Hp} {s : Shared} {A : Around} {E : Value->Shared->Prop} {Q : Value->Shared->Prop} {c : Value} {b : Bool}
inductive TyOf (K : PySem.W.Frag) (H : Hp) : V->Value->Prop where
  | non : TyOf K H .non (.type "NoneType")
  | bl (x : Bool) : TyOf K H (.bl x) (.type "bool")
  | int (i : Int) : TyOf K H (.int i) (.type "int")
  | str (x : Str) : TyOf K H (.str x) (.type "str")
  | flt (x : UInt64) : TyOf K H (.flt x) (.type "float")
  | lst {a : Addr} {xs : List V} (e : H a = some (.lst xs)) : TyOf K H (.ref a) (.type "list")
  | frz {a : Addr} {o : Obj} {xs : List V} (e : H a = some (.frz o (.lst xs))) : TyOf K H (.ref a) (.type "list")
  | tup {a : Addr} {xs : List V} (e : H a = some (.tup xs)) : TyOf K H (.ref a) (.type "tuple")
  | dK {a : Addr} {kvs : List (Key × V)} (e : H a = some (.dK kvs)) : TyOf K H (.ref a) (.type "dict")
  | dT {a : Addr} {kvs : List (List Key × V)} (e : H a = some (.dT kvs)) : TyOf K H (.ref a) (.type "dict")
  | ins {a C dx : Addr} {fs : List (Str × V)} (e : H a = some (.ins C dx fs)) (cl : Cls K C) (ha : PySem.W.findIn K (.ref C) "__class__" = some (some (.builtin "object.__class__")))
      (hn : PySem.W.specialIn K (.builtin "object.__class__") "__get__" = some (some (.builtin "getset_descriptor.__get__"))) (htk : PySem.W.takesIn K (.builtin "object.__class__") = some true)
      (hm : PySem.W.mroIn K C (.type "object") = some true) : TyOf K H (.ref a) (.ref C)
theorem isinst_ok {x : V} {u t : Value} (I : Inv X pins σ H s) (rx : RelV x u) (ty : TyOf X.K H x t) (e : PySem.W.kitOne X.K t c = some b) (h : ∀ tk, Q (.bool b) { s with toks := tk }) :
    wpAny (model X.prog X.w) A (call (.builtin "isinstance") [u, c]) Q E s := by
  cases ty with
  | non => cases (show u = Value.none from rx); exact PySem.W.kia_one PySem.W.kitx_none I.kIn True.intro e (fun z => nomatch z) h
  | bl y => cases (show u = Value.bool y from rx); exact PySem.W.kia_one PySem.W.kitx_bool I.kIn True.intro e (fun z => nomatch z) h
  | int i => obtain ⟨t, q⟩ := (show ∃ t, u = Value.int i t from rx); cases q; exact PySem.W.kia_one PySem.W.kitx_int I.kIn True.intro e (fun z => nomatch z) h
  | str y => obtain ⟨t, q⟩ := (show ∃ t, u = Value.str y t from rx); cases q; exact PySem.W.kia_one PySem.W.kitx_str I.kIn True.intro e (fun z => nomatch z) h
  | flt y => obtain ⟨t, q⟩ := (show ∃ t, u = Value.float y t from rx); cases q; exact PySem.W.kia_one PySem.W.kitx_float I.kIn True.intro e (fun z => nomatch z) h
  | @lst a xs ea =>
    cases (show u = Value.ref a from rx)
    obtain ⟨_, _, n, _, h1⟩ := (show ObjOk X.prog X.w H s.heap a (.lst xs) from I.hok a _ ea)
    exact PySem.W.kia_one PySem.W.kitx_list I.kIn ⟨_, h1, rfl⟩ e (fun z => nomatch z) h
  | @frz a ob xs ea =>
    cases (show u = Value.ref a from rx)
    obtain ⟨_, _, _, n, _, h1⟩ := (show ObjOk X.prog X.w H s.heap a (.frz ob (.lst xs)) from I.hok a _ ea)
    exact PySem.W.kia_one PySem.W.kitx_list I.kIn ⟨_, h1, rfl⟩ e (fun z => nomatch z) h
  | @tup a xs ea =>
    cases (show u = Value.ref a from rx)
    obtain ⟨_, _, _, p⟩ := (show ObjOk X.prog X.w H s.heap a (.tup xs) from I.hok a _ ea)
    obtain ⟨o, h1, h2, _⟩ := p
    exact PySem.W.kia_one PySem.W.kitx_tuple I.kIn ⟨o, h1, h2⟩ e (fun z => nomatch z) h
  | @dK a kvs ea =>
    cases (show u = Value.ref a from rx)
    obtain ⟨_, _, vs, _, p⟩ := (show ObjOk X.prog X.w H s.heap a (.dK kvs) from I.hok a _ ea)
    obtain ⟨o, es, ep, h1, h2, _⟩ := p
    exact PySem.W.kia_one PySem.W.kitx_dict I.kIn ⟨o, h1, h2.1⟩ e (fun z => nomatch z) h
  | @dT a kvs ea =>
    cases (show u = Value.ref a from rx)
    obtain ⟨_, _, xs, _, o, es, ep, h1, h2, _⟩ := (show ObjOk X.prog X.w H s.heap a (.dT kvs) from I.hok a _ ea)
    exact PySem.W.kia_one PySem.W.kitx_dict I.kIn ⟨o, h1, h2.1⟩ e (fun z => nomatch z) h
  | @ins a C dx fs ea cl ha hn htk hm =>
    cases (show u = Value.ref a from rx)
    obtain ⟨mA, O, _⟩ := ins_get I.hok ea
    obtain ⟨od, J, _⟩ := O.look
    exact PySem.W.kia_one (PySem.W.kitx_own (cl.get _) cl.hd ha hn htk hm) I.kIn J e (fun z => nomatch z) h
end
end L2
namespace L2
open PySem PySem.Spec PyProof.Rows
structure Room (k : Nat) (A : Around) : Prop where
  hd : A.handled = none
  dp : A.depth + 3 * k + 5 < recursionLimit
  un : A.units + 16 * k + 200 < cLine
theorem Room.mono {j k : Nat} {A : Around} (r : Room k A) (h : j ≤ k) : Room j A := ⟨r.hd, by have := r.dp; omega, by have := r.un; omega⟩
theorem Room.deeper {k : Nat} {A : Around} (r : Room (k + 1) A) (env : Env) : Room k (A.deeper env) :=
  ⟨r.hd, by have := r.dp; show A.depth + 1 + 3 * k + 5 < _; omega, by have := r.un; show A.units + 3 + 16 * k + 200 < _; omega⟩
theorem Room.in1 {k : Nat} {A : Around} (r : Room (k + 1) A) : Room k A.in1 :=
  ⟨r.hd, by have := r.dp; show A.depth + 3 * k + 5 < _; omega, by have := r.un; show A.units + 1 + 16 * k + 200 < _; omega⟩
theorem Room.depth {k : Nat} {A : Around} (r : Room k A) : A.depth < recursionLimit := by have := r.dp; omega
theorem Room.units {k : Nat} {A : Around} (r : Room k A) : A.units + 64 < cLine := by have := r.un; omega
def tNil : TA := fun _ H Q => Q [] H
def tCons (ta : TE) (tr : TA) : TA := fun σ H Q => ta σ H fun x H1 => tr σ H1 fun xs H2 => Q (x :: xs) H2
section
variable {X : Cx} {e : Expr} {es : List Expr} {te : TE} {t : TA} {pos : Pos}
theorem pa_nil : PA X [] tNil := fun _ _ _ _ H Q I h => Calls.spliced_nil ⟨[], H, I, .nil, h⟩
theorem pa_cons (ha : PE X e te) (hr : PA X es t) (hs : starEach (e :: es) X.env = (false, eval e X.env) :: starEach es X.env := by rfl) : PA X (e :: es) (tCons te t) := by
  intro pos pins s σ H Q I h
  rw [hs]
  show wpAny _ _ (spliced ((false, eval e X.env) :: backTo pos (starEach es X.env))) _ _ s
  refine Calls.spliced_cons (thn (ha pins s σ H _ I h) fun u s1 ⟨x, H1, I1, r1, q1⟩ => ?_)
  exact thn (hr pos pins s1 σ H1 _ I1 q1) fun us s2 ⟨xs, H2, I2, r2, q2⟩ => ⟨x :: xs, H2, I2, .cons r1 r2, q2⟩
def tTup (t : TA) : TE := fun σ H Q => t σ H fun xs H1 => xs.length ≤ sizeLine/\∀ p, H1 p = none->Q (.ref p) (upd H1 p (.tup xs))
def tLst (t : TA) : TE := fun σ H Q => t σ H fun xs H1 => xs.length ≤ sizeLine/\∀ p, H1 p = none->Q (.ref p) (upd H1 p (.lst xs))
theorem pe_tup {x1} (h : PA X es t) : PE X (.Tuple es x1 pos) (tTup t) := by
  intro pins s σ H Q I hq
  refine wpAny_Tuple_spliced (thn (h pos pins s σ H _ I hq) fun us s1 ⟨xs, H1, I1, r, z, q⟩ => ⟨by rw [← r.length]; exact z, ?_⟩)
  have hf : H1 s1.heap.objs.size = none := I1.hok.fresh (Nat.le_refl _)
  refine ⟨.ref s1.heap.objs.size, upd H1 s1.heap.objs.size (.tup xs), I1.laid (t' := s1.toks) (fun b u e => Heap.get?_push_of_some _ e) (Nat.le_refl _) ?_, rfl, q _ hf⟩
  exact ⟨z, us, r, ⟨_, Heap.get?_push_size _ rfl, rfl, _, rfl⟩⟩
theorem pe_lst (h : PA X es t) : PE X (.List es pos) (tLst t) := by
  intro pins s σ H Q I hq
  refine wpAny_List_spliced (thn (h pos pins s σ H _ I hq) fun us s1 ⟨xs, H1, I1, r, z, q⟩ => ⟨by rw [← r.length]; exact z, ?_⟩)
  have hf : H1 s1.heap.objs.size = none := I1.hok.fresh (Nat.le_refl _)
  refine ⟨.ref s1.heap.objs.size, upd H1 s1.heap.objs.size (.lst xs), I1.laid (t' := s1.toks) (fun b u e => Heap.get?_push_of_some _ e) (Nat.le_refl _) ?_, rfl, q _ hf⟩
  exact ⟨z, us, 0, r, Heap.get?_push_size _ rfl⟩
end
abbrev Sp := List V->Hp->VK->XK->Prop
abbrev CXT := List Env->Hp->Shared->XK->Value->Shared->Prop
structure Env0 (P : Program) (w : World) (K : PySem.W.Frag) (mg : Str->Option Value) (base : Heap) (A : Around) (outer : List Env) (s : Shared) (H : Hp) : Prop where
  frames : A.frames = some outer
  mod : Mod K mg base
  bs : ∀ b o, base.get? b = some o->s.heap.get? b = some o/\H b = none
  bsz : base.objs.size ≤ s.heap.objs.size
  funs : s.heap.FunFrames base outer
  frf : ∀ b ∈ frs outer, H b = none
  hok : HOk P w H s.heap
  bare : AllBare s.gens
def CE (outer : List Env) (P : Program) (w : World) (H : Hp) (s : Shared) (Q : VK) (u : Value) (s' : Shared) : Prop :=
  ∃ v H', s'.os = s.os/\AllBare s'.gens/\Un (frs outer) [] H H' s.heap s'.heap/\HOk P w H' s'.heap/\RelV v u/\Q v H'
def CR (CX : CXT) (outer : List Env) (P : Program) (w : World) (H : Hp) (s : Shared) (Q : VK) (E : XK) (r : Result) (s' : Shared) : Prop :=
  match r with
  | .ok (.ret u) => CE outer P w H s Q u s'
  | .ok _ => False
  | .error e => CX outer H s E e s'
structure FnOk (P : Program) (w : World) (K : PySem.W.Frag) (mg : Str->Option Value) (base : Heap) (CX : CXT) (k : Nat) (f : Addr) (fd : FuncData) (ps : List Str) (sp : Sp) : Prop where
  len : ∀ vs H Q E, sp vs H Q E->vs.length = ps.length
  run : ∀ (A : Around) (outer : List Env) (s : Shared) (H : Hp) (args : Args) (us : List Value) (vs : List V) (Q : VK) (E : XK), Room k A->Env0 P w K mg base A outer s H->BindsTo s fd args (ps.zip us)->Vals vs us->sp vs H Q E →
    codeAny (model P w) A (.call (.ref f) args) (CR CX outer P w H s Q E) s
theorem Env0.in1 {P : Program} {w : World} {K : PySem.W.Frag} {mg : Str->Option Value} {base : Heap} {A : Around} {outer : List Env} {s : Shared} {H : Hp} (e : Env0 P w K mg base A outer s H) : Env0 P w K mg base A.in1 outer s H := ⟨e.frames, e.mod, e.bs, e.bsz, e.funs, e.frf, e.hok, e.bare⟩
section
variable {X : Cx} {pins : List (Addr × Obj)} {σ : St} {H : Hp} {s s' : Shared}
theorem Inv.env0 (I : Inv X pins σ H s) : Env0 X.prog X.w X.K X.mg X.base X.A X.stack s H :=
  ⟨I.ok.frames, I.ok.mod, I.bs, Nat.le_trans I.ok.bsz I.sz, I.stack, I.stkFree, I.hok, I.bare⟩
theorem Inv.after {Q : VK} {u : Value} (I : Inv X pins σ H s) (h : CE X.stack X.prog X.w H s Q u s') : EP X pins σ Q u s' := by
  obtain ⟨v, H', os, bare, un, hok, r, q⟩ := h
  obtain ⟨hh, g, d, t, os'⟩ := s'
  obtain rfl : os' = s.os := os
  exact ⟨v, H', I.call (h' := hh) (g' := g) (d' := d) (t' := t) (ch := []) un hok bare (fun b z => absurd z (by simp)), r, q⟩
end
def tCall (sp : Sp) (dvs : List V) (E : XK) (t : TA) : TE := fun σ H Q => t σ H fun vs H1 => sp (vs ++ dvs) H1 Q E
def Binds (K : PySem.W.Frag) (fd : FuncData) (ps : List Str) (ds : List Value) : Prop :=
  ∀ (s : Shared) (us : List Value), K.In s.heap->(us ++ ds).length = ps.length->BindsTo s fd ⟨us, []⟩ (ps.zip (us ++ ds))
theorem Binds.all {K : PySem.W.Frag} {fd : FuncData} {ps : List Str} (h : ∀ us : List Value, us.length = ps.length->bindArgs fd ⟨us, []⟩ = pure (ps.zip us)) : Binds K fd ps [] := fun s us _ hl => by
  rw [List.append_nil] at hl ⊢
  exact .of_eq (h us hl)
def Passes (CX : CXT) (X : Cx) (E : XK) : Prop := ∀ (pins : List (Addr × Obj)) (σ : St) (H : Hp) (s : Shared) (e : Value) (s' : Shared), Inv X pins σ H s->CX X.stack H s E e s'->X.xe e s'
section
variable {X : Cx} {CX : CXT} {k : Nat} {f C : Addr} {fd : FuncData} {ps : List Str} {sp : Sp} {dvs : List V} {ds : List Value} {E : XK} {x m : Str} {p pos apos : Pos} {e o : Expr} {es : List Expr} {ta : TE} {t : TA}
theorem run_fn {pins : List (Addr × Obj)} {σ : St} {H : Hp} {s : Shared} {Q : VK} {us : List Value} {vs : List V} (F : FnOk X.prog X.w X.K X.mg X.base CX k f fd ps sp) (hr : Room k X.A) (hb : Binds X.K fd ps ds) (hd : Vals dvs ds) (hx : Passes CX X E) (I : Inv X pins σ H s) (r : Vals vs us) (h : sp (vs ++ dvs) H Q E) : wpAny (model X.prog X.w) X.A (call (.ref f) us) (EP X pins σ Q) X.xe s := by
  have r2 : Vals (vs ++ dvs) (us ++ ds) := r.append hd
  have hl : (us ++ ds).length = ps.length := by rw [← r2.length]; exact F.len _ _ _ _ h
  refine wpAny_call (codeAny_mono (F.run X.A X.stack s H ⟨us, []⟩ (us ++ ds) (vs ++ dvs) Q E hr I.env0 (hb s us I.kIn hl) r2 h) fun r s' hq => ?_)
  cases r with
  | error e => exact hx pins σ H s e s' I hq
  | ok fl =>
    cases fl with
    | ret u => exact I.after hq
    | next => exact False.elim hq
    | brk => exact False.elim hq
    | cont => exact False.elim hq
theorem pe_call (F : FnOk X.prog X.w X.K X.mg X.base CX k f fd ps sp) (hr : Room k X.A) (hg : Gl X x) (hm : X.mg x = some (.ref f)) (hk : PySem.W.keepIn X.K (.ref f) = true) (hb : Binds X.K fd ps ds) (hd : Vals dvs ds) (hx : Passes CX X E) (ha : PA X (e :: es) t) (hdb : (x == ("__debug__" : Str)) = false := by decide) (he : starEach (e :: es) X.env = (false, eval e X.env) :: starEach es X.env := by rfl) (hpl : (backTo pos (starEach es X.env)).any (·.1) = false := by rfl) :
    PE X (.Call (.Name x p) (e :: es) [] pos) (tCall sp dvs E t) := by
  intro pins s σ H Q I h
  refine wpAny_Call_Name_kw (ld_glob I hg hm ?_ hdb)
  refine PySem.W.callWith_K (h₀ := X.base) I.ok.mod.kin hk (thn (ha pos pins s σ H _ I h) fun us s1 ⟨vs, H1, I1, r, q⟩ => ⟨I1.kIn, ?_⟩) he hpl
  exact run_fn F hr hb hd hx I1 r q
end
section
variable {X : Cx} {CX : CXT} {k : Nat} {f C : Addr} {fd : FuncData} {ps ks : List Str} {sp : Sp} {E : XK} {x m : Str} {p pos apos kpos : Pos} {e o : Expr} {es : List Expr} {kws : List Keyword} {te ta : TE} {t tk : TA} {nm : Option Str}
variable {g : List Value->List Value->List Value} {gV : List V->List V->List V}
end
structure FnScope (N P : List Str) (sc : Scope) : Prop where
  kind : sc.kind = .function
  co : sc.isCoroutine = false
  gen : sc.isGenerator = false
  nd : N.Nodup
  pre : N.take P.length = P
  par : ∀ x ∈ P, sc.names.lookup x = some .local ∨ sc.names.lookup x = some .cell
  nofree : ∀ y ∈ sc.names, y.2 ≠ .free
theorem bindL_out {kindOf : Str->Option NameKind} {x : Str} : ∀ {binds : List (Str × Value)} {m : Str->Option Value}, (∀ v, (x, v) ∉ binds)->bindL kindOf binds m x = m x
  | [], _, _ => rfl
  | (n, v) :: r, m, h => by
    unfold bindL
    rw [bindL_out fun w hw => h w (List.mem_cons_of_mem _ hw)]
    split
    · have : x ≠ n := by rintro rfl; exact h v List.mem_cons_self
      simp [this]
    · rfl
theorem bindC_out {kindOf : Str->Option NameKind} {x : Str} : ∀ {binds : List (Str × Value)} {m : Str->Option Value}, (∀ v, (x, v) ∉ binds)->bindC kindOf binds m x = m x
  | [], _, _ => rfl
  | (n, v) :: r, m, h => by
    unfold bindC
    rw [bindC_out fun w hw => h w (List.mem_cons_of_mem _ hw)]
    split
    · rfl
    · have : x ≠ n := by rintro rfl; exact h v List.mem_cons_self
      simp [this]
theorem bindL_get {kindOf : Str->Option NameKind} {x : Str} {v : Value} : ∀ {P : List Str} {vs : List Value} {i : Nat} {m : Str->Option Value}, P.Nodup->P[i]? = some x->vs[i]? = some v->kindOf x = some .local →
    bindL kindOf (P.zip vs) m x = some v
  | [], _, _, _, _, h, _, _ => by simp at h
  | _ :: _, [], _, _, _, _, h, _ => by simp at h
  | p :: P, w :: vs, 0, m, nd, h1, h2, hk => by
    simp at h1 h2; subst h1; subst h2
    show bindL kindOf ((p, w) :: P.zip vs) m p = _
    unfold bindL
    rw [bindL_out fun v hv => (List.nodup_cons.mp nd).1 (List.of_mem_zip hv).1, if_pos hk]
    simp
  | p :: P, w :: vs, i + 1, m, nd, h1, h2, hk => by
    show bindL kindOf ((p, w) :: P.zip vs) m x = _
    unfold bindL
    exact bindL_get (i := i) (List.nodup_cons.mp nd).2 (by simpa using h1) (by simpa using h2) hk
theorem bindC_get {kindOf : Str->Option NameKind} {x : Str} {v : Value} : ∀ {P : List Str} {vs : List Value} {i : Nat} {m : Str->Option Value}, P.Nodup->P[i]? = some x->vs[i]? = some v->kindOf x ≠ some .local →
    bindC kindOf (P.zip vs) m x = some v
  | [], _, _, _, _, h, _, _ => by simp at h
  | _ :: _, [], _, _, _, _, h, _ => by simp at h
  | p :: P, w :: vs, 0, m, nd, h1, h2, hk => by
    simp at h1 h2; subst h1; subst h2
    show bindC kindOf ((p, w) :: P.zip vs) m p = _
    unfold bindC
    rw [bindC_out fun v hv => (List.nodup_cons.mp nd).1 (List.of_mem_zip hv).1, if_neg hk]
    simp
  | p :: P, w :: vs, i + 1, m, nd, h1, h2, hk => by
    show bindC kindOf ((p, w) :: P.zip vs) m x = _
    unfold bindC
    exact bindC_get (i := i) (List.nodup_cons.mp nd).2 (by simpa using h1) (by simpa using h2) hk
def start (N : List Str) (vs : List V) : St := vs.map some ++ List.replicate (N.length - vs.length) none
def cxOf (CX : CXT) (P : Program) (w : World) (K : PySem.W.Frag) (mg : Str->Option Value) (base : Heap) (N : List Str) (qual : Str) (scope : Scope) (f : Addr) (cd : Value) (A : Around) (outer : List Env) (s : Shared) (H : Hp) (E : XK) : Cx where
  prog := P
  w := w
  K := K
  mg := mg
  base := base
  A := A.deeper (envOfC qual scope s.heap.objs.size f cd)
  N := N
  s₀ := s
  H₀ := H
  env := envOfC qual scope s.heap.objs.size f cd
  outer := outer
  stack := envOfC qual scope s.heap.objs.size f cd :: outer
  ex := []
  calm := true
  fn := fun _ => true
  pn := []
  xe := fun e s' => wpAny (model P w) (A.deeper (envOfC qual scope s.heap.objs.size f cd)) (leaving (envOfC qual scope s.heap.objs.size f cd) e) (fun _ s'' => CX outer H s E e s'') (fun e' s'' => CX outer H s E e' s'') s'
theorem cell_has {sc : Scope} {n : Nat} {x : Str} (h : sc.names.lookup x = some .cell) : ∃ c, (cellsFrom n sc.names []).lookup x = some c := by
  have q := PySem.W.cellsFrom_some sc.names n [] (.inl h)
  exact Option.isSome_iff_exists.mp q
theorem inv_start {CX : CXT} {P : Program} {w : World} {K : PySem.W.Frag} {mg : Str->Option Value} {base : Heap} {N ps : List Str} {qual : Str} {scope : Scope} {f : Addr} {cd : Value} {A : Around} {outer : List Env} {s s1 : Shared} {H : Hp} {E : XK} {us : List Value} {vs : List V} (S : FnScope N ps scope) (hd : A.handled = none) (e0 : Env0 P w K mg base A outer s H) (hl : vs.length = ps.length) (r : Vals vs us) (x : InCallC s s.heap.objs.size (bindL (envOfC qual scope s.heap.objs.size f cd).kindOf (ps.zip us) fun _ => none) (cellsFrom (s.heap.objs.size + 1) scope.names []) (bindC (envOfC qual scope s.heap.objs.size f cd).kindOf (ps.zip us) fun _ => none) s1) : Inv (cxOf CX P w K mg base N qual scope f cd A outer s H E) [] (start N vs) H s1 := by
  have hpl : ps.length ≤ N.length := by have := congrArg List.length S.pre; rw [List.length_take] at this; omega
  obtain ⟨h1, tk, rfl, hk⟩ := x.done
  have noA : ∀ b : Addr, b ∉ (cxOf CX P w K mg base N qual scope f cd A outer s H E).ex := fun b z => absurd (show b ∈ ([] : List Addr) from z) (by simp)
  refine ⟨⟨e0.mod, S.kind, rfl, rfl, Nat.le_refl _, fun y z c h1 h2 => ?_, fun y hy => ?_, fun y c _ h => ?_, fun _ => hd, Around.frames_deeper e0.frames, .inr ⟨rfl, rfl⟩, fun b z => absurd z (noA b), e0.bs, e0.bsz, fun b _ _ => noA b, fun b z => absurd z (noA b), e0.funs, e0.frf⟩,
    rfl, e0.bare, Un.kept hk, ⟨_, x.toInCall.ns, fun i y v h1 h2 h3 => ?_⟩, fun y c h => ⟨_, x.cell y c h⟩, e0.hok.fresh (Nat.le_refl _), fun y c h => ?_, fun p hp => absurd (show p ∈ ([] : List (Addr × Obj)) from hp) (by simp), e0.hok.kept hk, ?_⟩
  · exact name_of_addr x.apart (PySem.mem_of_lookup h1) (PySem.mem_of_lookup h2)
  · have hy : scope.names.lookup y = some .cell ∨ scope.names.lookup y = some .free := hy
    rcases hy with hy | hy
    · exact cell_has hy
    · exact absurd rfl (S.nofree _ (PySem.mem_of_lookup hy))
  · exact Nat.le_of_lt (x.above y c (PySem.mem_of_lookup h))
  · have hi : i < vs.length := by
      unfold start at h2
      by_cases hi : i < vs.length
      · exact hi
      · rw [List.getElem?_append_right (by simpa using hi)] at h2
        rw [List.getElem?_replicate] at h2
        split at h2 <;> cases h2
    have ha : vs[i]? = some v := by
      unfold start at h2
      rw [List.getElem?_append_left (by simpa using hi), List.getElem?_map] at h2
      cases e : vs[i]? with
      | none => rw [e] at h2; cases h2
      | some a => rw [e] at h2; cases h2; rfl
    obtain ⟨u, hu, rv⟩ := r.get ha
    have hp : ps[i]? = some y := by
      rw [← S.pre, List.getElem?_take_of_lt (by omega)]; exact h1
    have ndP : ps.Nodup := by rw [← S.pre]; exact S.nd.sublist (List.take_sublist _ _)
    refine ⟨u, rv, ?_⟩
    rcases S.par y (List.mem_of_getElem? hp) with k | k
    · exact .inl ⟨k, bindL_get ndP hp hu k⟩
    · obtain ⟨c, e⟩ := cell_has (n := s.heap.objs.size + 1) k
      refine .inr ⟨.inl k, c, e, ?_⟩
      have q := x.cell y c e
      rw [bindC_get ndP hp hu (by show scope.names.lookup y ≠ _; rw [k]; decide)] at q
      exact q
  · exact e0.hok.fresh (Nat.le_of_lt (x.above y c (PySem.mem_of_lookup h)))
  · unfold start
    show _ = N.length
    rw [List.length_append, List.length_map, List.length_replicate]
    omega
theorem fn_of {CX : CXT} {P : Program} {w : World} {K : PySem.W.Frag} {mg : Str->Option Value} {base : Heap} {k : Nat} {f : Addr} {name qual : Str} {params : Arguments} {body : List Stmt} {scope : Scope} {dV kV doc pm cdv ct oc : Value} {an od : Option Addr} {osl : Array (Option Value)} {N ps : List Str} {sp : Sp} (lk : K.lookup f = some ⟨oc, od, .func (PySem.W.fnOf name qual params body scope dV kV doc pm an cdv ct), osl⟩) (hcd : PySem.W.codeIn K cdv qual = true) (S : FnScope N ps scope) (len : ∀ vs H Q E, sp vs H Q E->vs.length = ps.length) (hbody : ∀ (A : Around) (outer : List Env) (s : Shared) (H : Hp) (vs : List V) (Q : VK) (E : XK), Room k (A.deeper (envOfC qual scope s.heap.objs.size f cdv))->sp vs H Q E->∃ t, PSs (cxOf CX P w K mg base N qual scope f cdv A outer s H E) body t/\t { nx := fun _ H' => Q .non H', rt := Q } (start N vs) H) :
    FnOk P w K mg base CX (k + 1) f (PySem.W.fnOf name qual params body scope dV kV doc pm an cdv ct) ps sp := by
  refine ⟨len, fun A outer s H args us vs Q E hr e0 hb r hsp => ?_⟩
  have hl := len _ _ _ _ hsp
  have KX : K.In s.heap := e0.mod.kin.keeps fun b o e => (e0.bs b o e).1
  have lim : s.heap.NoLimit := e0.mod.nolimit.keeps fun b o e => (e0.bs b o e).1
  have hkind : ∀ y ∈ ps.zip us, scope.names.lookup y.1 = some .local ∨ (scope.names.lookup y.1 = some .cell/\((cellsFrom (s.heap.objs.size + 1) scope.names []).lookup y.1).isSome = true) := fun ⟨n, v⟩ hy => by
    rcases S.par n (List.of_mem_zip hy).1 with q | q
    · exact .inl q
    · exact .inr ⟨q, PySem.W.cellsFrom_some _ _ _ (.inl q)⟩
  refine codeAny_call_function hr.depth (KX _ _ lk) rfl S.co S.gen rfl (PySem.W.codeRec_of KX hcd) (hb _ _ _ _ ?_)
  refine wpAny_newFunctionEnv_cells S.kind hkind fun env he s1 x => ?_
  subst he
  refine ⟨lim.keeps x.toInCall.keep, codeAny_func ?_⟩
  obtain ⟨t, ht, hq⟩ := hbody A outer s H vs Q E (hr.deeper _) hsp
  have I : Inv (cxOf CX P w K mg base N qual scope f cdv A outer s H E) [] (start N vs) H s1 := inv_start S hr.hd e0 hl r x
  refine wpAny_mono (ht [] s1 (start N vs) H _ I hq) (fun fl s' hs => ?_) fun e s' hs => hs
  have fin : ∀ {σ' : St} {H' : Hp} {v : V} {u : Value}, Inv (cxOf CX P w K mg base N qual scope f cdv A outer s H E) [] σ' H' s'->RelV v u->Q v H'->CE outer P w H s Q u s' :=
    fun {σ' H' v u} J rv q => ⟨v, H', J.os, J.bare, J.base, J.hok, rv, q⟩
  cases fl with
  | ret u =>
    obtain ⟨v, σ', H', J, rv, q⟩ := hs
    exact fin J rv q
  | next =>
    obtain ⟨σ', H', J, q⟩ := hs
    exact fin (v := V.non) (u := Value.none) J rfl q
  | brk =>
    obtain ⟨_, _, _, q⟩ := hs
    exact False.elim q
  | cont =>
    obtain ⟨_, _, _, q⟩ := hs
    exact False.elim q
end L2
namespace L2
open PySem PySem.Spec PyProof.Rows
section
variable {X : Cx} {x : Str} {p pos : Pos} {e : Expr} {es : List Expr} {t : TA} {id T : String} {r : List V->Hp->VK->Prop}
def tCB (r : List V->Hp->VK->Prop) (t : TA) : TE := fun σ H Q => t σ H fun vs H1 => r vs H1 Q
theorem pe_callB (hc : CallR X (.builtin id) r) (hg : Gl X x) (hm : X.mg x = none) (hv : bootBuiltins x = some (.builtin id)) (ha : PA X (e :: es) t) (hn : x ≠ "__name__" := by decide) (hdb : (x == ("__debug__" : Str)) = false := by decide)
    (he : starEach (e :: es) X.env = (false, eval e X.env) :: starEach es X.env := by rfl) (hpl : (backTo pos (starEach es X.env)).any (·.1) = false := by rfl) : PE X (.Call (.Name x p) (e :: es) [] pos) (tCB r t) := by
  intro pins s σ H Q I h
  refine wpAny_Call_Name_kw (ld_blt I hg hm hv ?_ hn hdb)
  exact PyProof.Rows.callWith_builtin1 (thn (ha pos pins s σ H _ I h) fun us s1 ⟨vs, H1, I1, r1, q1⟩ => hc pins s1 σ H1 vs us Q I1 r1 q1) he hpl
theorem pe_callTy (hc : CallR X (.type T) r) (hg : Gl X x) (hm : X.mg x = none) (hv : bootBuiltins x = some (.type T)) (ha : PA X (e :: es) t) (hn : x ≠ "__name__" := by decide) (hdb : (x == ("__debug__" : Str)) = false := by decide)
    (he : starEach (e :: es) X.env = (false, eval e X.env) :: starEach es X.env := by rfl) (hpl : (backTo pos (starEach es X.env)).any (·.1) = false := by rfl) : PE X (.Call (.Name x p) (e :: es) [] pos) (tCB r t) := by
  intro pins s σ H Q I h
  refine wpAny_Call_Name_kw (ld_blt I hg hm hv ?_ hn hdb)
  exact PyProof.Rows.callWith_type1 (thn (ha pos pins s σ H _ I h) fun us s1 ⟨vs, H1, I1, r1, q1⟩ => hc pins s1 σ H1 vs us Q I1 r1 q1) he hpl
end
end L2
namespace HT
open PySem PyProof.Rows
section
open PySem.SeqAt
open PySem.AutoSeq1 (wpAny_loadPart')
open PySem.MeetsSeq PySem.MeetsSeq2 PySem.MeetsSeq3
end
section
variable {prog : Program} {w : World} {A : Around} {E : Value->Shared->Prop} {s : Shared}
def sIx (n d : Nat) : Option Int->Nat
  | none => d
  | some v => if v < 0 then (v + (n : Int)).toNat else min v.toNat n
end
end HT
namespace L2
open PySem PySem.Spec PyProof.Rows
abbrev TO := St->Hp->(Option Int->Hp->Prop)->Prop
def PO (X : Cx) (e : Option Expr) (t : TO) : Prop :=
  ∀ (pins : List (Addr × Obj)) (s : Shared) (σ : St) (H : Hp) (Q : Option Int->Hp->Prop), Inv X pins σ H s->t σ H Q →
    wpAny (model X.prog X.w) X.A (evalPart e X.env) (fun u s' => ∃ o H', Inv X pins σ H' s'/\IsPart u o/\Q o H') X.xe s
def tNoPart : TO := fun _ H Q => Q none H
def tPart (t : TE) : TO := fun σ H Q => t σ H fun x H1 => ∃ i, x = .int i/\Q (some i) H1
theorem intsAre_of {ns : List Int} : ∀ {us : List Value}, Vals (ns.map V.int) us->IntsAre us ns := by
  induction ns with
  | nil => intro us r; rw [List.map_nil] at r; cases r; exact .nil
  | cons n ns ih =>
    intro us r
    rw [List.map_cons] at r
    cases r with
    | cons r1 r2 =>
      obtain ⟨t, e⟩ := r1
      subst e
      exact .cons n t (ih r2)
section
variable {X : Cx} {e : Expr} {te : TE} {lo hi : Option Expr} {tl th : TO} {pos p2 : Pos}
theorem po_none : PO X none tNoPart := by
  intro pins s σ H Q I h
  rw [evalPart_none]
  exact wpAny_pure ⟨none, H, I, .none, h⟩
theorem po_some (h : PE X e te) : PO X (some e) (tPart te) := by
  intro pins s σ H Q I hw
  rw [evalPart_some]
  refine thn (h pins s σ H _ I hw) fun u s1 ⟨x, H1, I1, r1, q1⟩ => ?_
  obtain ⟨i, rfl, q⟩ := q1
  obtain ⟨t, rfl⟩ := r1
  exact ⟨some i, H1, I1, .int i t, q⟩
def SlR (X : Cx) (r : V->Option Int->Option Int->Hp->VK->Prop) : Prop :=
  ∀ (pins : List (Addr × Obj)) (s : Shared) (σ : St) (H : Hp) (x : V) (v vl vu : Value) (lo hi : Option Int) (sl : Addr) (Q : VK), Inv X pins σ H s->RelV x v->s.heap.IsSliceOf sl vl vu .none->IsPart vl lo->IsPart vu hi->r x lo hi H Q →
    ∃ T id, typeLookup (.type T) "__getitem__" = pure (some (.builtin id))/\s.TypeIs v T/\wpAny (model X.prog X.w) X.A (getItem v (.ref sl)) (EP X pins σ Q) X.xe s
def tSl (r : V->Option Int->Option Int->Hp->VK->Prop) (te : TE) (tl th : TO) : TE := fun σ H Q => te σ H fun x H1 => tl σ H1 fun l H2 => th σ H2 fun u H3 => r x l u H3 Q
theorem pe_slice {r : V->Option Int->Option Int->Hp->VK->Prop} (hr : SlR X r) (he : PE X e te) (hl : PO X lo tl) (hu : PO X hi th) : PE X (.Subscript e (.Slice lo hi none p2) pos) (tSl r te tl th) := by
  intro pins s σ H Q I h
  refine Subscript_ (thn (he pins s σ H _ I h) fun v s1 ⟨x, H1, I1, r1, q1⟩ => ?_)
  refine wpAny_Slice (thn (hl pins s1 σ H1 _ I1 q1) fun vl s2 ⟨l, H2, I2, pl, q2⟩ => thn (hu pins s2 σ H2 _ I2 q2) fun vu s3 ⟨u, H3, I3, pu, q3⟩ => ?_)
  rw [evalPart_none]
  refine wpAny_pure ?_
  have I4 : Inv X pins σ H3 { s3 with heap := s3.heap.push { cls := .type "slice", data := .fields #[vl, vu, .none] } } := I3.kept (t' := s3.toks) fun b ob q => Heap.get?_push_of_some _ q
  obtain ⟨T, id, hT, ht, hg⟩ := hr pins { s3 with heap := s3.heap.push { cls := .type "slice", data := .fields #[vl, vu, .none] } } σ H3 x v vl vu l u s3.heap.objs.size Q I4 r1 (Heap.IsSliceOf.new ..) pl pu q3
  show wpAny (model X.prog X.w) X.A (subscriptTail e (.Slice lo hi none p2) v (.ref s3.heap.objs.size)) (EP X pins σ Q) X.xe { s3 with heap := s3.heap.push { cls := .type "slice", data := .fields #[vl, vu, .none] } }
  exact tail_any (ops := [.ref s3.heap.objs.size, v]) ht hT hg (by with_unfolding_all rfl)
def cutV (xs : List V) (lo hi : Option Int) : List V := (xs.drop (HT.sIx xs.length 0 lo)).take (HT.sIx xs.length xs.length hi - HT.sIx xs.length 0 lo)
theorem cutV_length (xs : List V) (lo hi : Option Int) : (cutV xs lo hi).length ≤ xs.length := by
  unfold cutV
  rw [List.length_take, List.length_drop]
  omega
end
end L2
namespace L2
open PySem PySem.Spec PyProof.Rows
def ixN (n : Nat) (i : Int) : Option Nat := if 0 ≤ i then (if i < n then some i.toNat else none) else if -(n : Int) ≤ i then some (i + n).toNat else none
def atI {α : Type} (xs : List α) (i : Int) : Option α := (ixN xs.length i).bind fun j => xs[j]?
theorem ixN_seq {n : Nat} {i : Int} {j : Nat} (h : ixN n i = some j) : seqIndex? i n = some j/\j < n/\-(n : Int) ≤ i/\i < n := by
  unfold ixN at h
  by_cases h0 : 0 ≤ i
  · rw [if_pos h0] at h
    by_cases h1 : i < n
    · rw [if_pos h1] at h
      have e : i.toNat = j := Option.some.inj h
      exact ⟨by rw [seqIndex_of h0 h1, e], by omega, by omega, h1⟩
    · rw [if_neg h1] at h; cases h
  · rw [if_neg h0] at h
    by_cases h1 : -(n : Int) ≤ i
    · rw [if_pos h1] at h
      have e : (i + n).toNat = j := Option.some.inj h
      exact ⟨by rw [seqIndex_neg (by omega) h1, e], by omega, h1, by omega⟩
    · rw [if_neg h1] at h; cases h
theorem atI_get {α : Type} {xs : List α} {i : Int} {v : α} (h : atI xs i = some v) : ∃ j, seqIndex? i xs.length = some j/\xs[j]? = some v/\j < xs.length/\-(xs.length : Int) ≤ i/\i < xs.length := by
  unfold atI at h
  cases e : ixN xs.length i with
  | none => rw [e] at h; cases h
  | some j =>
    rw [e] at h
    obtain ⟨h1, h2, h3, h4⟩ := ixN_seq e
    exact ⟨j, h1, h, h2, h3, h4⟩
theorem atI_nat {α : Type} {xs : List α} {j : Nat} {v : α} (h : xs[j]? = some v) : atI xs (j : Int) = some v := by
  have hj : j < xs.length := (List.getElem?_eq_some_iff.mp h).1
  have e : ixN xs.length (j : Int) = some j := by
    unfold ixN
    rw [if_pos (by omega), if_pos (by omega)]; simp
  unfold atI; rw [e]; exact h
def PlainIx (b : Expr) : Prop := ∀ o i, subscripted b false o i = operate [o, i] (getItem o i)
def IxR (X : Cx) (r : R2) : Prop :=
  ∀ (value slice : Expr) (pins : List (Addr × Obj)) (s : Shared) (σ : St) (H : Hp) (x y : V) (v u : Value) (Q : VK), Inv X pins σ H s->RelV x v->RelV y u->r x y H Q →
    subscripted slice false v u = operate [v, u] (getItem v u)->wpAny (model X.prog X.w) X.A (subscriptTail value slice v u) (EP X pins σ Q) X.xe s
def MtR (X : Cx) (id : String) (r : V->List V->Hp->VK->Prop) : Prop :=
  ∀ (pins : List (Addr × Obj)) (s : Shared) (σ : St) (H : Hp) (x : V) (xs : List V) (v : Value) (us : List Value) (Q : VK), Inv X pins σ H s->RelV x v->Vals xs us->r x xs H Q →
    wpAny (model X.prog X.w) X.A (call (.builtin id) (v :: us)) (EP X pins σ Q) X.xe s
section
variable {X : Cx} {a b : Expr} {ta tb : TE} {pos : Pos}
theorem pe_ix {r : R2} (hr : IxR X r) (ha : PE X a ta) (hb : PE X b tb) (hs : PlainIx b) : PE X (.Subscript a b pos) (tOp r ta tb) := by
  intro pins s σ H Q I h
  exact Subscript_ (binT ha hb I h fun v u s2 x y H2 I2 rx ry q => hr a b pins s2 σ H2 x y v u Q I2 rx ry q (hs _ _))
def rIxL (K : PySem.W.Frag) : R2 := fun x y H Q => ∃ p xs i v, x = .ref p/\y = .int i/\SqL K H p xs/\atI xs i = some v/\Q v H
theorem ix_list : IxR X (rIxL X.K) := by
  intro value slice pins s σ H x y v u Q I rx ry h hs
  obtain ⟨p, xs, i, z, rfl, rfl, hq, he, q⟩ := h
  cases rx
  obtain ⟨t, rfl⟩ := ry
  obtain ⟨its, r, pl, hz⟩ := I.list hq
  obtain ⟨j, h1, h2, h3, h4, h5⟩ := atI_get he
  obtain ⟨w, ew, rw'⟩ := r.get h2
  have hl := r.length
  have hn := line63
  have fin : EP X pins σ Q w s := ⟨z, H, I, rw', q⟩
  by_cases h0 : 0 ≤ i
  · have hj : i.toNat = j := by
      rw [seqIndex_of h0 h5] at h1
      exact Option.some.inj h1
    exact item_listR pl.isList h0 (by omega) (by rw [hj]; simpa using ew) fin hs
  · have hj : (i + (its.toArray.size : Int)).toNat = j := by
      rw [seqIndex_neg (by omega) h4] at h1
      rw [List.size_toArray, ← hl]
      exact Option.some.inj h1
    exact subscriptTail_builtinR (x := w) pl.isList.typeIs slot_list_getitem.lookup
      (wpAny_getItem_list_neg (Q := fun r s' => r = w/\EP X pins σ Q r s') pl.isList (by omega) (by rw [List.size_toArray] <;> omega) (by omega) (by rw [hj]; simpa using ew) ⟨rfl, fin⟩) hs
theorem mapSeq_set (its : List Value) (n j : Nat) (u : Value) : Obj.mapSeq (·.setIfInBounds j u) { cls := .type "list", data := .seq its.toArray n } = { cls := .type "list", data := .seq (its.set j u).toArray n } := by
  simp [Obj.mapSeq]
theorem Inv.lst {pins : List (Addr × Obj)} {σ : St} {H : Hp} {s : Shared} {p : Addr} {xs : List V} (I : Inv X pins σ H s) (h : H p = some (.lst xs)) : ∃ (its : List Value) (n : Nat), Vals xs its/\s.heap.get? p = some { cls := .type "list", data := .seq its.toArray n }/\xs.length ≤ sizeLine := by
  obtain ⟨z, its, n, r, e⟩ := I.hok p _ h
  exact ⟨its, n, r, e, z⟩
theorem Inv.lstUpd {pins : List (Addr × Obj)} {σ : St} {H : Hp} {s : Shared} {p : Addr} {xs ys : List V} {its its' : List Value} {n n' : Nat} {f : Obj->Obj} (I : Inv X pins σ H s) (h : H p = some (.lst xs)) (ho : s.heap.get? p = some { cls := .type "list", data := .seq its.toArray n }) (hf : f { cls := .type "list", data := .seq its.toArray n } = { cls := .type "list", data := .seq its'.toArray n' }) (r : Vals ys its') (hz : ys.length ≤ sizeLine) (t : Nat) :
    Inv X pins σ (upd H p (.lst ys)) { s with heap := s.heap.update p f, toks := t } := by
  have e : (s.heap.update p f).get? p = some { cls := .type "list", data := .seq its'.toArray n' } := by
    rw [Heap.get?_update_self f ho (by rw [hf] <;> rfl), hf]
  refine I.write (x := p) (e := p) (by rw [h]; trivial) (.inl rfl) (fun b u hb q => (Heap.get?_update_other _ _ (Ne.symm hb)).trans q) ⟨_, e⟩ ?_
  exact ⟨hz, its', n', r, e⟩
def rSetL : V->V->V->Hp->(Hp->Prop)->Prop := fun o i v H Q => ∃ p xs k j, o = .ref p/\i = .int k/\H p = some (.lst xs)/\ixN xs.length k = some j/\Q (upd H p (.lst (xs.set j v)))
theorem set_list : PSet X rSetL := by
  intro pins s σ H o i v ov iv u Q I ro ri rv h
  obtain ⟨p, xs, k, j, rfl, rfl, hp, hj, q⟩ := h
  cases ro
  obtain ⟨t, rfl⟩ := ri
  obtain ⟨its, n, r, ho, hz⟩ := I.lst hp
  obtain ⟨h1, h2, h3, h4⟩ := ixN_seq hj
  have hl := r.length
  have hn := line63
  have I' : Inv X pins σ (upd H p (.lst (xs.set j v))) { s with heap := s.heap.update p (Obj.mapSeq (·.setIfInBounds j u)) } :=
    I.lstUpd hp ho (mapSeq_set its n j u) (r.set rv j) (by rw [List.length_set]; exact hz) s.toks
  by_cases h0 : 0 ≤ k
  · have hk : k.toNat = j := by
      rw [seqIndex_of h0 h4] at h1
      exact Option.some.inj h1
    exact PySem.W.ki_setAt ho h0 (by omega) (by rw [List.size_toArray, ← hl]; exact h4) (by rw [hk]; exact ⟨_, I', q⟩)
  · have hk : (k + (its.toArray.size : Int)).toNat = j := by
      rw [seqIndex_neg (by omega) h3] at h1
      rw [List.size_toArray, ← hl]
      exact Option.some.inj h1
    exact PySem.W.ki_setBack ho (by omega) (by rw [List.size_toArray, ← hl]; exact h3) (by omega) (by rw [hk]; exact ⟨_, I', q⟩)
theorem slice_bounds (lo hi : Option Int) (n : Nat) : (sliceBounds lo hi none n).1 = ((HT.sIx n 0 lo : Nat) : Int)/\(sliceBounds lo hi none n).2.1 = ((HT.sIx n n hi : Nat) : Int)/\(sliceBounds lo hi none n).2.2 = 1 := by
  refine ⟨?_, ?_, rfl⟩
  · cases lo with
    | none => simp [sliceBounds, HT.sIx]
    | some i =>
      simp only [sliceBounds, HT.sIx, Option.getD_none, show (1 : Int) > 0 by decide, if_true]
      by_cases h : i < 0
      · simp only [h, if_true] <;> omega
      · simp only [h, if_false] <;> omega
  · cases hi with
    | none => simp [sliceBounds, HT.sIx]
    | some i =>
      simp only [sliceBounds, HT.sIx, Option.getD_none, show (1 : Int) > 0 by decide, if_true]
      by_cases h : i < 0
      · simp only [h, if_true] <;> omega
      · simp only [h, if_false] <;> omega
theorem slicePick_cut (its : List Value) (lo hi : Option Int) : slicePick its.toArray lo hi none = ((its.drop (HT.sIx its.length 0 lo)).take (HT.sIx its.length its.length hi - HT.sIx its.length 0 lo)).toArray := by
  obtain ⟨h1, h2, h3⟩ := slice_bounds lo hi its.toArray.size
  unfold slicePick
  rw [h1, h2, h3]
  simp only [sliceRange_one, pick_run, List.size_toArray] <;> rfl
def rSlL (K : PySem.W.Frag) : V->Option Int->Option Int->Hp->VK->Prop := fun x lo hi H Q => ∃ a xs, x = .ref a/\SqL K H a xs/\∀ p, H p = none->Q (.ref p) (upd H p (.lst (cutV xs lo hi)))
theorem sl_list : SlR X (rSlL X.K) := by
  intro pins s σ H x v vl vu lo hi sl Q I rx hs pl pu h
  obtain ⟨a, xs, rfl, hx, q⟩ := h
  cases rx
  obtain ⟨its, r, ht, hz⟩ := I.list hx
  have hlen := r.length
  refine ⟨"list", _, slot_list_getitem.lookup, ht.isList.typeIs, ?_⟩
  refine wpAny_getItem_list_slice ht.isList hs pl pu .none (by simp) ?_ (by rw [List.size_toArray] <;> omega)
  rw [slicePick_cut, ← hlen]
  refine ⟨.ref s.heap.objs.size, _, I.laid (t' := s.toks) (o := .lst (cutV xs lo hi)) (fun b ob q => Heap.get?_push_of_some _ q) (Nat.le_refl _) ?_, rfl, q _ (I.hok.fresh (Nat.le_refl _))⟩
  exact ⟨Nat.le_trans (cutV_length xs lo hi) hz, _, 0, (r.drop (HT.sIx xs.length 0 lo)).take (HT.sIx xs.length xs.length hi - HT.sIx xs.length 0 lo), Heap.get?_push_size _ rfl⟩
def flatV : V->Bool
  | .non => true
  | .bl _ => true
  | .int _ => true
  | .str _ => true
  | _ => false
def eqV : V->V->Bool
  | .non, .non => true
  | .bl a, .bl b => a == b
  | .bl a, .int b => (if a then 1 else 0) == b
  | .int a, .bl b => a == (if b then 1 else 0)
  | .int a, .int b => a == b
  | .str a, .str b => a == b
  | _, _ => false
theorem eqAt_V {A : Around} {s : Shared} {y x : V} {u v : Value} (ry : RelV y u) (rx : RelV x v) (fy : flatV y = true) (fx : flatV x = true) : SeqAt.EqAt A s u v (eqV y x) := by
  cases y with
  | non =>
    cases ry
    cases x with
    | non => cases rx; exact SeqAt.EqAt.same _
    | bl b => cases rx; exact SeqAt.EqAt.none_bool b
    | int b => obtain ⟨t, rfl⟩ := rx; exact SeqAt.EqAt.none_int b t
    | str b => obtain ⟨t, rfl⟩ := rx; exact SeqAt.EqAt.none_str b t
    | _ => exact absurd (show false = true from fx) Bool.false_ne_true
  | bl a =>
    cases ry
    cases x with
    | non => cases rx; exact SeqAt.EqAt.bool_none a
    | bl b => cases rx; exact SeqAt.EqAt.bool_bool a b
    | int b => obtain ⟨t, rfl⟩ := rx; exact SeqAt.EqAt.bool_int a b t
    | str b => obtain ⟨t, rfl⟩ := rx; exact SeqAt.EqAt.bool_str a b t
    | _ => exact absurd (show false = true from fx) Bool.false_ne_true
  | int a =>
    obtain ⟨t', rfl⟩ := ry
    cases x with
    | non => cases rx; exact SeqAt.EqAt.int_none a t'
    | bl b => cases rx; exact SeqAt.EqAt.int_bool a t' b
    | int b => obtain ⟨t, rfl⟩ := rx; exact SeqAt.EqAt.int_int a t' b t
    | str b => obtain ⟨t, rfl⟩ := rx; exact SeqAt.EqAt.int_str a t' b t
    | _ => exact absurd (show false = true from fx) Bool.false_ne_true
  | str a =>
    obtain ⟨t', rfl⟩ := ry
    cases x with
    | non => cases rx; exact SeqAt.EqAt.str_none a t'
    | bl b => cases rx; exact SeqAt.EqAt.str_bool a t' b
    | int b => obtain ⟨t, rfl⟩ := rx; exact SeqAt.EqAt.str_int a t' b t
    | str b => obtain ⟨t, rfl⟩ := rx; exact SeqAt.EqAt.str_str a t' b t
    | _ => exact absurd (show false = true from fx) Bool.false_ne_true
  | _ => exact absurd (show false = true from fy) Bool.false_ne_true
def eqU (x : V) (u : Value) : Bool := match u with
  | .none => eqV .non x
  | .bool b => eqV (.bl b) x
  | .int i _ => eqV (.int i) x
  | .str z _ => eqV (.str z) x
  | _ => false
theorem eqU_of {x y : V} {u : Value} (r : RelV y u) (f : flatV y = true) : eqU x u = eqV y x := by
  cases y with
  | non => cases r; rfl
  | bl b => cases r; rfl
  | int i => obtain ⟨t, rfl⟩ := r; rfl
  | str z => obtain ⟨t, rfl⟩ := r; rfl
  | _ => exact absurd (show false = true from f) Bool.false_ne_true
theorem any_eqU {x : V} : ∀ {xs : List V} {us : List Value}, Vals xs us->xs.all flatV = true->us.any (eqU x) = xs.any fun y => eqV y x
  | _, _, .nil, _ => rfl
  | y :: xs, u :: us, .cons r t, f => by
    rw [List.all_cons, Bool.and_eq_true] at f
    rw [List.any_cons, List.any_cons, eqU_of r f.1, any_eqU t f.2]
theorem mem_eqAt {A : Around} {s : Shared} {x : V} {v : Value} (rx : RelV x v) (fx : flatV x = true) : ∀ {xs : List V} {us : List Value}, Vals xs us->xs.all flatV = true->∀ u ∈ us, SeqAt.EqAt A s u v (eqU x u)
  | _, _, .nil, _ => fun u hu => by cases hu
  | y :: xs, u :: us, .cons r t, f => fun u' hu => by
    rw [List.all_cons, Bool.and_eq_true] at f
    rcases List.mem_cons.mp hu with rfl | hu
    · rw [eqU_of r f.1]; exact eqAt_V r rx f.1 fx
    · exact mem_eqAt rx fx t f.2 u' hu
def inV (x : V) (xs : List V) : Bool := xs.any fun y => eqV y x
def rIn (K : PySem.W.Frag) (neg : Bool) : R2 := fun x y H Q => ∃ p xs, y = .ref p/\(SqL K H p xs ∨ SqT K H p xs)/\flatV x = true/\xs.all flatV = true/\Q (.bl (if neg then !inV x xs else inV x xs)) H
theorem op_in_seq : OpR X (compareOp .In) (rIn X.K false) := by
  intro pins s σ H x y v u Q I rx ry h
  obtain ⟨p, xs, rfl, hq, fx, fs, q⟩ := h
  cases ry
  rcases hq with hq | hq
  · obtain ⟨its, r, pl, hz⟩ := I.list hq
    refine SeqAt.in_listAt (eqU x) pl.isList (fun w hw => mem_eqAt rx fx r fs w (by simpa using hw)) ⟨.bl _, H, I, rfl, ?_⟩
    rw [show its.toArray.any (eqU x) = its.any (eqU x) by simp, any_eqU r fs]
    exact q
  · obtain ⟨its, r, pl, hz⟩ := I.tuple hq
    refine SeqAt.in_tupleAt (eqU x) pl (fun w hw => mem_eqAt rx fx r fs w (by simpa using hw)) ⟨.bl _, H, I, rfl, ?_⟩
    rw [show its.toArray.any (eqU x) = its.any (eqU x) by simp, any_eqU r fs]
    exact q
theorem call_len_seq : CallR X (.builtin "len") (fun xs H Q => ∃ p ys, xs = [.ref p]/\(SqL X.K H p ys ∨ SqT X.K H p ys)/\Q (.int ys.length) H) := by
  intro pins s σ H xs us Q I r h
  obtain ⟨p, ys, rfl, hq, q⟩ := h
  obtain ⟨u, rfl, rx⟩ := vals1 r
  cases rx
  have hn := line63
  rcases hq with hq | hq
  · obtain ⟨its, r', pl, hz⟩ := I.list hq
    have hlen := r'.length
    exact Calls.call_len_list pl.isList (by simp only [List.size_toArray] <;> omega) ⟨.int ys.length, H, I.tok _, ⟨s.toks + 1, by rw [List.size_toArray, hlen]⟩, q⟩
  · obtain ⟨its, r', pl, hz⟩ := I.tuple hq
    have hlen := r'.length
    exact len_tuple pl (by simp only [List.size_toArray] <;> omega) ⟨.int ys.length, H, I.tok _, ⟨s.toks + 1, by rw [List.size_toArray, hlen]⟩, q⟩
theorem call_list_of : CallR X (.type "list") (fun xs H Q => ∃ p ys, xs = [.ref p]/\(SqL X.K H p ys ∨ SqT X.K H p ys)/\∀ l, H l = none->Q (.ref l) (upd H l (.lst ys))) := by
  intro pins s σ H xs us Q I r h
  obtain ⟨p, ys, rfl, hq, q⟩ := h
  obtain ⟨u, rfl, rx⟩ := vals1 r
  cases rx
  have fin : ∀ (its : List Value), Vals ys its->ys.length ≤ sizeLine->∀ (h' : Heap) (c' : Nat), (∀ b o', s.heap.get? b = some o'->h'.get? b = some o') →
      h'.get? s.heap.objs.size = some { cls := .type "list", dict := none, data := .seq its.toArray c', slots := #[] }->EP X pins σ Q (.ref s.heap.objs.size) { s with heap := h' } := fun its r' hz h' c' kp e =>
    ⟨.ref s.heap.objs.size, _, I.laid (t' := s.toks) kp (Nat.le_refl _) (show ObjOk X.prog X.w _ h' _ (.lst ys) from ⟨hz, its, c', r', e⟩), rfl, q _ (I.hok.fresh (Nat.le_refl _))⟩
  rcases hq with hq | hq
  · obtain ⟨its, r', pl, hz⟩ := I.list hq
    have hlen := r'.length
    obtain ⟨o, ho, hc, n, hd⟩ := pl.isList
    exact call_list_seq p (.inl rfl) ho hc hd (fun h' c' kp e => fin its r' hz h' c' kp e) (by simp only [List.size_toArray] <;> omega)
  · obtain ⟨its, r', pl, hz⟩ := I.tuple hq
    have hlen := r'.length
    obtain ⟨o, ho, hc, n, hd⟩ := pl
    exact call_list_seq p (.inr rfl) ho hc hd (fun h' c' kp e => fin its r' hz h' c' kp e) (by simp only [List.size_toArray] <;> omega)
def tyV (K : PySem.W.Frag) (T : String) (x : V) (H : Hp) : Prop := match x with
  | .str _ => T = "str"
  | .int _ => T = "int"
  | .ref p => (T = "list"/\∃ xs, SqL K H p xs) ∨ (T = "tuple"/\∃ o, K.lookup p = some o/\o.cls = .type "tuple"/\o.dict = none) ∨
      (T = "dict"/\((∃ kvs, H p = some (.dK kvs)) ∨ ∃ kvs, H p = some (.dT kvs))) ∨ (T = "set"/\∃ S n, H p = some (.set S n))
  | _ => False
theorem tyV_is {pins : List (Addr × Obj)} {σ : St} {H : Hp} {s : Shared} {T : String} {x : V} {v : Value} (I : Inv X pins σ H s) (r : RelV x v) (ty : tyV X.K T x H) : s.TypeIs v T/\∀ a, v = .ref a->∃ ob, s.heap.get? a = some ob/\ob.dict = none := by
  cases x with
  | str z =>
    obtain ⟨t, rfl⟩ := r
    cases (show T = "str" from ty)
    exact ⟨typeIs_str s z t, fun _ e => nomatch e⟩
  | int i =>
    obtain ⟨t, rfl⟩ := r
    cases (show T = "int" from ty)
    exact ⟨typeIs_int s i t, fun _ e => nomatch e⟩
  | ref p =>
    cases r
    rcases ty with ⟨rfl, xs, hq⟩ | ⟨rfl, o, hk, hc, hd⟩ | ⟨rfl, hk⟩ | ⟨rfl, S, n, hk⟩
    · obtain ⟨its, _, pl, _⟩ := I.list hq
      refine ⟨pl.isList.typeIs, fun a e => ?_⟩
      cases e
      obtain ⟨o, n, e, c, hd, _⟩ := pl
      exact ⟨o, e, hd⟩
    · refine ⟨⟨o, I.kIn p o hk, hc⟩, fun a e => ?_⟩
      cases e
      exact ⟨o, I.kIn _ o hk, hd⟩
    · have z : ∃ o, s.heap.get? p = some o/\o.ExactDict := by
        rcases hk with ⟨kvs, hk⟩ | ⟨kvs, hk⟩
        · obtain ⟨_, _, _, _, o, _, _, e, ex, _⟩ := I.hok p _ hk
          exact ⟨o, e, ex⟩
        · obtain ⟨_, _, _, _, o, _, _, e, ex, _⟩ := I.hok p _ hk
          exact ⟨o, e, ex⟩
      obtain ⟨o, e, ex⟩ := z
      refine ⟨⟨o, e, ex.1⟩, fun a e2 => ?_⟩
      cases e2
      exact ⟨o, e, ex.2.1⟩
    · obtain ⟨o, _, _, _, e, ex, _⟩ := I.hok p _ hk
      refine ⟨⟨o, e, ex.1⟩, fun a e2 => ?_⟩
      cases e2
      exact ⟨o, e, ex.2.1⟩
  | _ => exact False.elim ty
def tBM (K : PySem.W.Frag) (T : String) (r : V->List V->Hp->VK->Prop) (to : TE) (t : TA) : TE := fun σ H Q => to σ H fun x H1 => tyV K T x H1/\t σ H1 fun xs H2 => r x xs H2 Q
variable {o e : Expr} {es : List Expr} {to : TE} {t : TA} {name : Str} {apos cpos : Pos} {T id : String} {r : V->List V->Hp->VK->Prop}
theorem pe_bm (pa : PlainAttrs T) (slot : Slot T name id) (hty : typeOf (.builtin id) = pure (.type "method_descriptor")) (hm : MtR X id r) (ho : PE X o to) (ha : PA X (e :: es) t) (hbase : attributeBase o name X.env (eval o X.env) = eval o X.env := by rfl)
    (hfew : ((backTo cpos (starEach (e :: es) X.env)).all (fun x => !x.1) && (backToKw cpos (keywordEach [] X.env)).all (fun x => x.1.isSome)
      && decide ((e :: es).length + ([] : List Keyword).length + (if ([] : List Keyword).isEmpty then 0 else 1) < 30)) = true := by rfl)
    (hline : (apos.endLine == cpos.line) = true := by rfl) (hs : starEach (e :: es) X.env = (false, eval e X.env) :: starEach es X.env := by rfl) (hplain : (backTo cpos (starEach es X.env)).any (·.1) = false := by rfl) :
    PE X (.Call (.Attribute o name apos) (e :: es) [] cpos) (tBM X.K T r to t) := by
  intro pins s σ H Q I h
  refine wpAny_Call_method_late hbase hfew hline rfl (thn (ho pins s σ H _ I h) fun v s1 ⟨x, H1, I1, r1, ty, q1⟩ => ?_)
  obtain ⟨h1, h2⟩ := tyV_is I1 r1 ty
  refine ⟨T, id, pa, slot, hty, h1, h2, ?_⟩
  have hA := ha cpos pins s1 σ H1 _ I1 q1
  rw [hs] at hA ⊢
  refine Calls.callWith_builtin (by show (false || (backTo cpos (starEach es X.env)).any (·.1)) = false; rw [hplain] <;> rfl) (Calls.evalArgs_plain ?_)
  exact thn hA fun us s2 ⟨vs, H2, I2, r2, q2⟩ => hm pins s2 σ H2 x vs v us Q I2 r1 r2 q2
end
end L2
namespace L2
open PySem PySem.Spec PyProof.Rows
def MtM (X : Cx) (id : String) (r : V->List V->Hp->VK->Prop) : Prop :=
  ∀ (pins : List (Addr × Obj)) (s : Shared) (σ : St) (H : Hp) (x : V) (xs : List V) (v : Value) (us : List Value) (Q : VK), Inv X pins σ H s->RelV x v->Vals xs us->r x xs H Q →
    wpAny (model X.prog X.w) X.A (call (.builtin id) (v :: us)) (EP X pins σ Q) X.xe s
theorem Vals.one : ∀ {x : V} {us : List Value}, Vals [x] us->∃ u, us = [u]/\RelV x u
  | _, _, .cons r .nil => ⟨_, rfl, r⟩
theorem Vals.two : ∀ {x y : V} {us : List Value}, Vals [x, y] us->∃ u v, us = [u, v]/\RelV x u/\RelV y v
  | _, _, _, .cons r (.cons q .nil) => ⟨_, _, rfl, r, q⟩
section
variable {X : Cx} {pins : List (Addr × Obj)} {σ : St} {H : Hp} {s : Shared} {l b : Addr} {xs ys zs : List V}
theorem Inv.lset {its its' : List Value} {n : Nat} {f : Array Value->Array Value} {t' : Nat} (I : Inv X pins σ H s) (hH : H l = some (.lst xs)) (e : s.heap.get? l = some { cls := .type "list", data := .seq its.toArray n }) (hf : f its.toArray = its'.toArray) (hv : Vals ys its') (hz : ys.length ≤ sizeLine) :
    Inv X pins σ (upd H l (.lst ys)) { s with heap := s.heap.update l (Obj.mapSeq f), toks := t' } := by
  have q := PySem.IsL.update e f
  rw [hf] at q
  refine I.write (x := l) (e := l) (by rw [hH]; exact trivial) (.inl rfl) (fun b' u hb hu => (Heap.get?_update_other s.heap (Obj.mapSeq f) (Ne.symm hb)).trans hu) ⟨_, q⟩ ?_
  exact ⟨hz, its', _, hv, q⟩
theorem Inv.lnew {its : List Value} {t' : Nat} (I : Inv X pins σ H s) (hv : Vals ys its) (hz : ys.length ≤ sizeLine) : Inv X pins σ (upd H s.heap.objs.size (.lst ys)) { s with heap := s.heap.push { cls := .type "list", data := .seq its.toArray }, toks := t' } :=
  I.laid (fun _ _ q => Heap.get?_push_of_some _ q) (Nat.le_refl _) ⟨hz, its, 0, hv, Heap.get?_push_size _ rfl⟩
theorem Inv.fresh (I : Inv X pins σ H s) : H s.heap.objs.size = none := I.hok.fresh (Nat.le_refl _)
theorem Inv.lstM (I : Inv X pins σ H s) (hH : H l = some (.lst xs)) : xs.length ≤ sizeLine/\∃ (its : List Value) (n : Nat), Vals xs its/\xs.length = its.length/\s.heap.get? l = some { cls := .type "list", data := .seq its.toArray n } := by
  obtain ⟨z, its, n, r, e⟩ := I.hok l _ hH
  exact ⟨z, its, n, r, r.length, e⟩
end
section
variable {X : Cx}
def rAppend : V->List V->Hp->VK->Prop := fun x vs H Q => ∃ l xs y, x = .ref l/\vs = [y]/\H l = some (.lst xs)/\xs.length < sizeLine/\Q .non (upd H l (.lst (xs ++ [y])))
theorem mt_append : MtM X "list.append" rAppend := by
  intro pins s σ H x vs v us Q I rx rv h
  obtain ⟨l, xs, y, rfl, rfl, hH, hz, q⟩ := h
  cases rx
  obtain ⟨u, rfl, ru⟩ := rv.one
  obtain ⟨z, its, n, r, hl, e⟩ := I.lstM hH
  refine call_meets F.slot_list_append ⟨_, e, rfl⟩ F.entry_list_append (F.args_list_append_2 _ _) (PySem.list_append l its.toArray n u (by rw [List.size_toArray]; omega)) ⟨e, ?_⟩
  refine ⟨.non, _, I.lset (its' := its ++ [u]) hH e (by simp) (r.append (.cons ru .nil)) ?_, rfl, q⟩
  rw [List.length_append, List.length_singleton]
  omega
def rCat : R2 := fun x y H Q => ∃ l b xs zs, x = .ref l/\y = .ref b/\H l = some (.lst xs)/\H b = some (.lst zs)/\xs.length + zs.length ≤ sizeLine/\∀ p, H p = none->Q (.ref p) (upd H p (.lst (xs ++ zs)))
theorem op_cat : OpR X (binaryOp .Add) rCat := by
  intro pins s σ H x y v u Q I rx ry h
  obtain ⟨l, b, xs, zs, rfl, rfl, hH, hB, hz, q⟩ := h
  cases rx
  cases ry
  obtain ⟨z, its, n, r, hl, e⟩ := I.lstM hH
  obtain ⟨z2, its2, n2, r2, hl2, e2⟩ := I.lstM hB
  refine PySem.P.add_list e e2 ?_ (by rw [List.size_toArray, List.size_toArray]; omega)
  have ea : its.toArray ++ its2.toArray = (its ++ its2).toArray := by simp
  rw [ea]
  exact ⟨.ref _, _, I.lnew (t' := s.toks) (r.append r2) (by rw [List.length_append]; omega), rfl, q _ I.fresh⟩
end
section
variable {prog : Program} {w : World} {A : Around} {E : Value->Shared->Prop} {s : Shared}
end
section
variable {X : Cx}
end
end L2
namespace L2
open PySem PySem.Spec PyProof.Rows
section
variable {κ : Type} [DecidableEq κ]
def valV (kvs : List (κ × V)) (k : κ) : Option V := (kvs.find? fun kv => decide (kv.1 = k)).map (·.2)
def putK (kvs : List (κ × V)) (k : κ) (v : V) : List (κ × V) :=
  if (kvs.any fun kv => decide (kv.1 = k)) = true then kvs.map (fun kv => if kv.1 = k then (kv.1, v) else kv) else kvs ++ [(k, v)]
theorem valV_pos {p : κ × V} {r : List (κ × V)} {k : κ} (e : p.1 = k) : valV (p :: r) k = some p.2 := by simp [valV, List.find?_cons, e]
theorem valV_neg {p : κ × V} {r : List (κ × V)} {k : κ} (e : ¬ p.1 = k) : valV (p :: r) k = valV r k := by simp [valV, List.find?_cons, e]
theorem valV_any (k : κ) : ∀ kvs : List (κ × V), (kvs.any fun kv => decide (kv.1 = k)) = (valV kvs k).isSome
  | [] => rfl
  | p :: r => by
    rw [List.any_cons]
    by_cases e : p.1 = k
    · simp only [valV_pos e, decide_eq_true e, Bool.true_or, Option.isSome_some]
    · rw [valV_neg e, decide_eq_false e, Bool.false_or]; exact valV_any k r
theorem length_putK (kvs : List (κ × V)) (k : κ) (v : V) : (putK kvs k v).length ≤ kvs.length + 1 := by
  unfold putK
  split
  · rw [List.length_map]; omega
  · rw [List.length_append, List.length_cons, List.length_nil]; omega
theorem RelO.isSome_eq {o : Option V} {u : Option Value} (r : RelO o u) : o.isSome = u.isSome := by
  cases o with
  | none => cases u with
    | none => rfl
    | some _ => exact (show False from r).elim
  | some _ => cases u with
    | none => exact (show False from r).elim
    | some _ => rfl
theorem KV.val {kvs : List (κ × V)} {vs : List (κ × Value)} (r : KV kvs vs) (k : κ) : RelO (valV kvs k) (valueAt vs k) := by
  unfold KV at r
  induction r with
  | nil => exact True.intro
  | @cons p q ps qs h t ih =>
    obtain ⟨h1, h2⟩ := h
    by_cases e : p.1 = k
    · have e' : q.1 = k := h1.symm.trans e
      have b : valueAt (q :: qs) k = some q.2 := by simp [valueAt, List.find?_cons, e']
      rw [valV_pos e, b]; exact h2
    · have e' : ¬ q.1 = k := fun z => e (h1.trans z)
      have b : valueAt (q :: qs) k = valueAt qs k := by simp [valueAt, List.find?_cons, e']
      rw [valV_neg e, b]; exact ih
theorem KV.any {kvs : List (κ × V)} {vs : List (κ × Value)} (r : KV kvs vs) (k : κ) : (kvs.any fun kv => decide (kv.1 = k)) = vs.any fun kv => decide (kv.1 = k) := by
  unfold KV at r
  induction r with
  | nil => rfl
  | cons h t ih => rw [List.any_cons, List.any_cons, ih, h.1]
theorem KV.repl {kvs : List (κ × V)} {vs : List (κ × Value)} (r : KV kvs vs) (k : κ) {y : V} {u : Value} (ry : RelV y u) : KV (kvs.map fun kv => if kv.1 = k then (kv.1, y) else kv) (vs.map fun kv => if kv.1 = k then (kv.1, u) else kv) := by
  unfold KV at r ⊢
  induction r with
  | nil => exact .nil
  | @cons p q ps qs h t ih =>
    rw [List.map_cons, List.map_cons]
    refine .cons ?_ ih
    obtain ⟨h1, h2⟩ := h
    by_cases e : p.1 = k
    · rw [if_pos e, if_pos (h1.symm.trans e)]; exact ⟨h1, ry⟩
    · rw [if_neg e, if_neg (fun z => e (h1.trans z))]; exact ⟨h1, h2⟩
theorem KV.put {kvs : List (κ × V)} {vs : List (κ × Value)} (r : KV kvs vs) (k : κ) {y : V} {u : Value} (ry : RelV y u) : KV (putK kvs k y) (stored vs k u) := by
  unfold putK stored
  rw [r.any k]
  by_cases e : (vs.any fun kv => decide (kv.1 = k)) = true
  · rw [if_pos e, if_pos e]; exact r.repl k ry
  · rw [if_neg e, if_neg e]; exact Paired.snoc r ⟨rfl, ry⟩
theorem KV.length {kvs : List (κ × V)} {vs : List (κ × Value)} (r : KV kvs vs) : kvs.length = vs.length := Paired.length r
end
theorem kV_is {P : Program} {w : World} {k : Key} {u : Value} (r : RelV (kV k) u) : (mixKind P w).is k u = true := by
  cases k with
  | inl i => obtain ⟨t, e⟩ := (show ∃ t, u = Value.int i t from r); subst e; exact mixKind_int P w i t
  | inr x => obtain ⟨t, e⟩ := (show ∃ t, u = Value.str x t from r); subst e; exact mixKind_str P w x t
theorem items_are {P : Program} {w : World} : ∀ {ks : List Key} {us : List Value}, Vals (ks.map kV) us->ItemsAre (mixKind P w) ks us
  | [], _, r => by rw [List.map_nil] at r; cases r; exact .nil
  | k :: ks, _, r => by
    rw [List.map_cons] at r
    cases r with
    | cons h t => exact .cons (kV_is h) (items_are t)
abbrev KT (H : Hp) : List (List Key × V)->List (List Key × Addr × Value)->Prop := Paired fun p q => p.1 = q.1/\H q.2.1 = some (.tup (p.1.map kV))/\RelV p.2 q.2.2
theorem KT.val {H : Hp} {kvs : List (List Key × V)} {xs : List (List Key × Addr × Value)} (r : KT H kvs xs) (k : List Key) : RelO (valV kvs k) ((atKey xs k).map (·.2)) := by
  induction r with
  | nil => exact True.intro
  | @cons p q ps qs h t ih =>
    obtain ⟨h1, _, h2⟩ := h
    by_cases e : p.1 = k
    · have e' : q.1 = k := h1.symm.trans e
      have b : atKey (q :: qs) k = some q.2 := by simp [atKey, List.find?_cons, e']
      rw [valV_pos e, b]; exact h2
    · have e' : ¬ q.1 = k := fun z => e (h1.trans z)
      have b : atKey (q :: qs) k = atKey qs k := by simp [atKey, List.find?_cons, e']
      rw [valV_neg e, b]; exact ih
theorem KT.repl {H : Hp} {kvs : List (List Key × V)} {xs : List (List Key × Addr × Value)} (r : KT H kvs xs) (k : List Key) {y : V} {u : Value} (ry : RelV y u) : KT H (kvs.map fun kv => if kv.1 = k then (kv.1, y) else kv) (xs.map (putAt k u)) := by
  induction r with
  | nil => exact .nil
  | @cons p q ps qs h t ih =>
    rw [List.map_cons, List.map_cons]
    refine .cons ?_ ih
    obtain ⟨h1, h2, h3⟩ := h
    unfold putAt
    by_cases e : p.1 = k
    · rw [if_pos e, if_pos (h1.symm.trans e)]; exact ⟨h1, h2, ry⟩
    · rw [if_neg e, if_neg (fun z => e (h1.trans z))]; exact ⟨h1, h2, h3⟩
theorem KT.put {H : Hp} {kvs : List (List Key × V)} {xs : List (List Key × Addr × Value)} (r : KT H kvs xs) (k : List Key) {b : Addr} {y : V} {u : Value} (hb : H b = some (.tup (k.map kV))) (ry : RelV y u) : KT H (putK kvs k y) (storedH xs k b u) := by
  have e : (kvs.any fun kv => decide (kv.1 = k)) = (atKey xs k).isSome := by
    rw [valV_any, (r.val k).isSome_eq, Option.isSome_map]
  unfold putK storedH
  rw [e]
  by_cases q : (atKey xs k).isSome = true
  · rw [if_pos q, if_pos q]; exact r.repl k ry
  · rw [if_neg q, if_neg q]; exact Paired.snoc r ⟨rfl, hb, ry⟩
theorem KT.keeps {H H' : Hp} {kvs : List (List Key × V)} {xs : List (List Key × Addr × Value)} (r : KT H kvs xs) (ht : ∀ b ys, H b = some (.tup ys)->H' b = some (.tup ys)) : KT H' kvs xs :=
  Paired.mapP r fun _ _ z => ⟨z.1, ht _ _ z.2.1, z.2.2⟩
section
variable {P : Program} {w : World} {H : Hp} {h : Heap} {a : Addr}
theorem rd_of {u : HO} (ok : HOk P w H h) (e : Rd H a u) : ObjOk P w H h a u := e.ok ok
theorem dk_rd {kvs : List (Key × V)} (ok : HOk P w H h) (e : Rd H a (.dK kvs)) : kvs.length ≤ sizeLine/\(a == sysModules) = false/\∃ vs, KV kvs vs/\h.DictOf (mixKind P w) a vs :=
  show ObjOk P w H h a (.dK kvs) from rd_of ok e
theorem dk_of {kvs : List (Key × V)} (ok : HOk P w H h) (e : H a = some (.dK kvs)) : kvs.length ≤ sizeLine/\(a == sysModules) = false/\∃ vs, KV kvs vs/\h.DictOf (mixKind P w) a vs := dk_rd ok (.inl e)
theorem key_of {ks : List Key} (ok : HOk P w H h) (e : H a = some (.tup (ks.map kV))) : (tupleKind (mixKind P w)).is h ks a := by
  obtain ⟨_, its, r, o, h1, h2, n, h3⟩ := (show ObjOk P w H h a (.tup (ks.map kV)) from ok a _ e)
  exact ⟨o, its.toArray, n, h1, h2, h3, by simpa using items_are r⟩
theorem dt_rd {kvs : List (List Key × V)} (ok : HOk P w H h) (e : Rd H a (.dT kvs)) : kvs.length ≤ sizeLine/\(a == sysModules) = false/\∃ xs, KT H kvs xs/\h.DictOfH (tupleKind (mixKind P w)) a xs := by
  obtain ⟨z, y, xs, r, o, es, ep, h1, h2, h3, h4, h5⟩ := (show ObjOk P w H h a (.dT kvs) from rd_of ok e)
  refine ⟨z, y, xs, r, o, es, ep, h1, h2, h3, h4, fun x hx => ?_, h5⟩
  have all : ∀ {l : List (List Key × V)} {m : List (List Key × Addr × Value)}, KT H l m->∀ x ∈ m, (tupleKind (mixKind P w)).is h x.1 x.2.1 := by
    intro l m q
    induction q with
    | nil => intro x hx; exact nomatch hx
    | @cons p q ps qs hq t ih =>
      intro x hx
      rcases List.mem_cons.mp hx with e | hx
      · subst e
        exact key_of ok (by rw [← hq.1]; exact hq.2.1)
      · exact ih x hx
  exact all r x hx
theorem dt_of {kvs : List (List Key × V)} (ok : HOk P w H h) (e : H a = some (.dT kvs)) : kvs.length ≤ sizeLine/\(a == sysModules) = false/\∃ xs, KT H kvs xs/\h.DictOfH (tupleKind (mixKind P w)) a xs := dt_rd ok (.inl e)
end
def DGet (H : Hp) (a : Addr) (y : V) (r : Option V) : Prop :=
  (∃ kvs k, Rd H a (.dK kvs)/\y = kV k/\r = valV kvs k) ∨ ∃ kvs k b, Rd H a (.dT kvs)/\y = .ref b/\H b = some (.tup (k.map kV))/\r = valV kvs k
def DPut (H : Hp) (a : Addr) (y v : V) (H' : Hp) : Prop :=
  (∃ kvs k, H a = some (.dK kvs)/\y = kV k/\kvs.length < sizeLine/\H' = upd H a (.dK (putK kvs k v))) ∨
  ∃ kvs k b, H a = some (.dT kvs)/\y = .ref b/\H b = some (.tup (k.map kV))/\kvs.length < sizeLine/\H' = upd H a (.dT (putK kvs k v))
theorem DGet.k {H : Hp} {a : Addr} {kvs : List (Key × V)} {k : Key} (e : H a = some (.dK kvs)) : DGet H a (kV k) (valV kvs k) := .inl ⟨kvs, k, .inl e, rfl, rfl⟩
theorem DPut.k {H : Hp} {a : Addr} {kvs : List (Key × V)} {k : Key} {v : V} (e : H a = some (.dK kvs)) (hl : kvs.length < sizeLine) : DPut H a (kV k) v (upd H a (.dK (putK kvs k v))) := .inl ⟨kvs, k, e, rfl, hl, rfl⟩
section
variable {X : Cx} {pins : List (Addr × Obj)} {σ : St} {H : Hp} {s : Shared} {a : Addr} {y v : V} {u r : Value} {o : Option V} {A : Around} {E : Value->Shared->Prop}
theorem Inv.big (I : Inv X pins σ H s) : sysModules < s.heap.objs.size := by
  have h : mainGlobals < s.heap.objs.size := (I.mod.glob.keeps I.bk).lt
  exact Nat.lt_trans (by decide) h
theorem d_getItem {Q : Value->Shared->Prop} (hu : A.units + 1 < cLine) (I : Inv X pins σ H s) (g : DGet H a y (some v)) (ry : RelV y u) (h : ∀ w' s', Inv X pins σ H s'->RelV v w'->Q w' s') : wpAny (model X.prog X.w) A (getItem (.ref a) u) Q E s := by
  rcases g with ⟨kvs, k, e, ey, l⟩ | ⟨kvs, k, b, e, ey, eb, l⟩
  · subst ey
    obtain ⟨z, hd, vs, rel, dd⟩ := dk_rd I.hok e
    obtain ⟨w', hw, rw'⟩ := RelO.some_of (v := v) (o := valueAt vs k) (by rw [l]; exact rel.val k)
    exact wpAny_getItem_of (kV_is ry) dd.mapOf hw (h w' _ (I.tok _) rw')
  · subst ey
    cases (show u = Value.ref b from ry)
    obtain ⟨z, hd, xs, rel, dd⟩ := dt_rd I.hok e
    obtain ⟨w', hw, rw'⟩ := RelO.some_of (v := v) (o := (atKey xs k).map (·.2)) (by rw [l]; exact rel.val k)
    obtain ⟨p, hp, hp2⟩ := Option.map_eq_some_iff.mp hw
    refine wpAny_getItem_heap (tupleKind_room_in1 hu) (key_of I.hok eb) dd hp ?_
    rw [hp2]
    exact h w' _ (I.tok _) rw'
theorem d_notIn {Q : Value->Shared->Prop} (hu : A.units + 1 < cLine) (I : Inv X pins σ H s) (g : DGet H a y o) (ry : RelV y u) (h : ∀ s', Inv X pins σ H s'->Q (.bool (!o.isSome)) s') : wpAny (model X.prog X.w) A (compareOp .NotIn u (.ref a)) Q E s := by
  rcases g with ⟨kvs, k, e, ey, l⟩ | ⟨kvs, k, b, e, ey, eb, l⟩
  · subst ey
    obtain ⟨z, hd, vs, rel, dd⟩ := dk_rd I.hok e
    refine wpAny_notIn_of (kV_is ry) hd dd.mapOf ?_
    rw [← (rel.val k).isSome_eq, ← l]
    exact h _ (I.tok _)
  · subst ey
    cases (show u = Value.ref b from ry)
    obtain ⟨z, hd, xs, rel, dd⟩ := dt_rd I.hok e
    refine wpAny_notIn_heap (tupleKind_room_in1 hu) (key_of I.hok eb) hd dd ?_
    have q := (rel.val k).isSome_eq
    rw [Option.isSome_map] at q
    rw [← q, ← l]
    exact h _ (I.tok _)
theorem d_write {h' : Heap} {t' : Nat} {ob : HO} (I : Inv X pins σ H s) (mu : Mut (H a)) (hs : Heap.SameBut a s.heap h') (he : ∃ q, h'.get? a = some q) (new : ObjOk X.prog X.w (upd H a ob) h' a ob) : Inv X pins σ (upd H a ob) { s with heap := h', toks := t' } :=
  I.write (x := a) (e := a) mu (.inl rfl) (fun b q hb z => (hs.2 b hb).trans z) he new
theorem dk_new {P : Program} {w : World} {H' : Hp} {h' : Heap} {kvs : List (Key × V)} {vs : List (Key × Value)} (z : kvs.length ≤ sizeLine) (hd : (a == sysModules) = false) (rel : KV kvs vs) (dd : h'.DictOf (mixKind P w) a vs) : ObjOk P w H' h' a (.dK kvs) := ⟨z, hd, vs, rel, dd⟩
theorem d_setItem {H' : Hp} {Q : Unit->Shared->Prop} (hu : A.units + 1 < cLine) (I : Inv X pins σ H s) (g : DPut H a y v H') (ry : RelV y u) (rv : RelV v r) (h : ∀ s', Inv X pins σ H' s'->Q () s') : wpAny (model X.prog X.w) A (setItem (.ref a) u r) Q E s := by
  rcases g with ⟨kvs, k, e, ey, l, eH⟩ | ⟨kvs, k, b, e, ey, eb, l, eH⟩
  · subst ey eH
    obtain ⟨z, hd, vs, rel, dd⟩ := dk_of I.hok e
    have hz : vs.length ≤ sizeLine := by rw [← rel.length]; exact z
    have hl : (putK kvs k v).length ≤ sizeLine := by have := length_putK kvs k v; omega
    refine wpAny_setItem_pairs (hsz := hz) (kV_is ry) dd fun h' dd' hs => h _ ?_
    have he : ∃ q, h'.get? a = some q := let ⟨q, _, _, hq, _⟩ := dd'; ⟨q, hq⟩
    exact d_write I (by rw [e]; exact True.intro) hs he (dk_new hl hd (rel.put k rv) dd')
  · subst ey eH
    cases (show u = Value.ref b from ry)
    obtain ⟨z, hd, xs, rel, dd⟩ := dt_of I.hok e
    have hz : xs.length ≤ sizeLine := by rw [← Paired.length rel]; exact z
    have hl : (putK kvs k v).length ≤ sizeLine := by have := length_putK kvs k v; omega
    refine wpAny_setItem_heap (hsz := hz) (tupleKind_room_in1 hu) (key_of I.hok eb) dd fun h' dd' hs => h _ ?_
    obtain ⟨q, es, ep, hq, h2, h3, h4, _, h5⟩ := dd'
    refine d_write I (by rw [e]; exact True.intro) hs ⟨q, hq⟩ ⟨hl, hd, _, (rel.put k eb rv).keeps fun c ys ec => ?_, q, es, ep, hq, h2, h3, h4, h5⟩
    rw [upd_ne (ne_of ec e (fun z => nomatch z))]
    exact ec
end
section
variable {X : Cx} {pins : List (Addr × Obj)} {σ : St} {H : Hp} {s : Shared} {a : Addr} {kvs : List (Key × V)} {k : Key} {u : Value} {A : Around} {E : Value->Shared->Prop}
theorem d_len {Q : Value->Shared->Prop} (I : Inv X pins σ H s) (e : Rd H a (.dK kvs)) (h : ∀ t s', Inv X pins σ H s'->Q (.int kvs.length t) s') : wpAny (model X.prog X.w) A (call (.builtin "len") [.ref a]) Q E s := by
  obtain ⟨z, hd, vs, rel, dd⟩ := dk_rd I.hok e
  refine call_len_dict hd dd (by rw [← rel.length]; rw [sizeLine_eq] at z; omega) ?_
  rw [← rel.length]
  exact h _ _ (I.tok _)
end
def NoSl (i : Expr) : Prop := ∀ ov iv, subscripted i false ov iv = operate [ov, iv] (getItem ov iv)
theorem subD_of {prog : Program} {w : World} {A : Around} {E : Value->Shared->Prop} {s : Shared} {env : Env} {value slice : Expr} {pos : Pos} {T id : String} {Q : Value->Shared->Prop} (hl : typeLookup (.type T) "__getitem__" = pure (some (.builtin id))) (hs : NoSl slice) (h : wpAny (model prog w) A (eval value env) (fun o s₁ => wpAny (model prog w) A (eval slice env) (fun i s₂ => s₂.TypeIs o T/\wpAny (model prog w) A (getItem o i) Q E s₂) E s₁) E s) : wpAny (model prog w) A (eval (.Subscript value slice pos) env) Q E s := by
  refine Subscript_ (wpAny_mono h (fun o s₁ h₁ => wpAny_mono h₁ (fun i s₂ h₂ => ?_) fun _ _ x => x) fun _ _ x => x)
  obtain ⟨hT, h₂⟩ := h₂
  unfold subscriptTail
  refine wpAny_bind ?_
  rw [getitemInPython_of_ne hT.not_modules]
  refine wpAny_bind (wpAny_specialOf hT hl ?_)
  have fin : wpAny (model prog w) A (subscripted slice false o i) (fun r s₃ => wpAny (model prog w) A (letTemporaryGo value o r >>= fun _ => pure r) Q E s₃) E s₂ := by
    rw [hs o i]
    exact wpAny_operating (wpAny_mono h₂ (fun r s₃ h₃ => wpAny_bind (wpAny_letTemporaryGo (wpAny_pure h₃))) fun _ _ x => x)
  first
    | exact wpAny_pure (wpAny_bind fin)
    | exact wpAny_bind (wpAny_pure (wpAny_bind fin))
    | exact wpAny_bind fin
theorem dict_typeIs {X : Cx} {pins : List (Addr × Obj)} {σ : St} {H : Hp} {s : Shared} {a : Addr} {y : V} {o : Option V} (I : Inv X pins σ H s) (g : DGet H a y o) : s.TypeIs (.ref a) "dict" := by
  rcases g with ⟨kvs, k, e, _, _⟩ | ⟨kvs, k, b, e, _, _, _⟩
  · obtain ⟨_, _, vs, _, dd⟩ := dk_rd I.hok e
    exact dd.typeIs
  · obtain ⟨_, _, xs, _, dd⟩ := dt_rd I.hok e
    exact dd.typeIs
def tDGet (td ty : TE) : TE := fun σ H Q => td σ H fun x H1 => ty σ H1 fun y H2 => ∃ a v, x = .ref a/\DGet H2 a y (some v)/\Q v H2
def tDNotIn (ty td : TE) : TE := fun σ H Q => ty σ H fun y H1 => td σ H1 fun x H2 => ∃ a o, x = .ref a/\DGet H2 a y o/\Q (.bl (!o.isSome)) H2
def sDPut (td ty tv : TE) : TS := fun D σ H => tv σ H fun v H1 => td σ H1 fun x H2 => ty σ H2 fun y H3 => ∃ a H4, x = .ref a/\DPut H3 a y v H4/\D.nx σ H4
section
variable {X : Cx} {o i e value : Expr} {pos pos' tpos : Pos} {td ty tv : TE}
theorem pe_dget (hu : X.A.units + 1 < cLine) (ho : PE X o td) (hi : PE X i ty) (hs : NoSl i) : PE X (.Subscript o i pos) (tDGet td ty) := by
  intro pins s σ H Q I h
  refine subD_of PySem.F.slot_dict_getitem.lookup hs (thn (ho pins s σ H _ I h) fun u s1 ⟨x, H1, I1, rx, q1⟩ => thn (hi pins s1 σ H1 _ I1 q1) fun iv s2 ⟨y, H2, I2, ry, a, v, ex, g, q2⟩ => ?_)
  subst ex
  obtain rfl : u = Value.ref a := rx
  exact ⟨dict_typeIs I2 g, d_getItem hu I2 g ry fun w' s3 I3 rw' => ⟨v, H2, I3, rw', q2⟩⟩
theorem pc_dnotin (hu : X.A.units + 1 < cLine) (hi : PE X i ty) (ho : PE X o td) : PC X .NotIn i o (tDNotIn ty td) := by
  intro pins s σ H Q I h
  refine thn (hi pins s σ H _ I h) fun iv s1 ⟨y, H1, I1, ry, q1⟩ => thn (ho pins s1 σ H1 _ I1 q1) fun u s2 ⟨x, H2, I2, rx, a, ov, ex, g, q2⟩ => ?_
  subst ex
  obtain rfl : u = Value.ref a := rx
  exact d_notIn hu I2 g ry fun s3 I3 => ⟨.bl (!ov.isSome), H2, I3, rfl, q2⟩
theorem ps_dput (hu : X.A.units + 1 < cLine) (ho : PE X o td) (hi : PE X i ty) (hv : PE X value tv) (hs : swapsWith value (some (.Subscript o i pos')) pos.line X.env = pure false) : PS X (.Assign [.Subscript o i pos'] value pos) (sDPut td ty tv) := by
  intro pins s σ H D I h
  refine wpAny_Assign_Subscript (thn (hv pins s σ H _ I h) fun r s1 ⟨v, H1, I1, rv, q1⟩ => thn (ho pins s1 σ H1 _ I1 q1) fun u s2 ⟨x, H2, I2, rx, q2⟩ => thn (hi pins s2 σ H2 _ I2 q2) fun iv s3 ⟨y, H3, I3, ry, a, H4, ex, g, q3⟩ => ?_) hs
  subst ex
  obtain rfl : u = Value.ref a := rx
  exact d_setItem hu I3 g ry rv fun s4 I4 => ⟨σ, H4, I4, q3⟩
end
theorem dk_empty {P : Program} {w : World} {H : Hp} (h : Heap) (hb : sysModules < h.objs.size) : ObjOk P w H (h.push { cls := .type "dict", data := .dict #[] }) h.objs.size (.dK []) :=
  ⟨Nat.zero_le _, beq_eq_false_iff_ne.mpr (Ne.symm (Nat.ne_of_lt hb)), [], .nil, Heap.DictOf.new h⟩
def tDNewK : TE := fun _ H Q => ∀ p, H p = none->Q (.ref p) (upd H p (.dK []))
section
variable {X : Cx} {pos : Pos}
theorem pe_dnewK : PE X (.Dict [] [] pos) tDNewK := fun pins s σ H Q I h =>
  wpAny_Dict_empty ⟨.ref s.heap.objs.size, _, I.laid (a := s.heap.objs.size) (o := .dK []) (t' := s.toks) (fun _ _ q => Heap.get?_push_of_some _ q) (Nat.le_refl _) (dk_empty s.heap I.big), rfl, h _ (I.hok.fresh (Nat.le_refl _))⟩
end
def tPairs : List (TE × TE)->St->Hp->(List (V × V)->Hp->Prop)->Prop
  | [], _, H, Q => Q [] H
  | (tk, tv) :: r, σ, H, Q => tk σ H fun x H1 => tv σ H1 fun y H2 => tPairs r σ H2 fun ps H3 => Q ((x, y) :: ps) H3
abbrev VV : List (V × V)->List (Value × Value)->Prop := Paired fun p q => RelV p.1 q.1/\RelV p.2 q.2
def PPs (X : Cx) (pos : Pos) (keys : List (Option Expr)) (values : List Expr) (trs : List (TE × TE)) : Prop :=
  ∀ (pins : List (Addr × Obj)) (s : Shared) (σ : St) (H : Hp) (Q : List (V × V)->Hp->Prop), Inv X pins σ H s->tPairs trs σ H Q →
    wpAny (model X.prog X.w) X.A (evalPairs (pairTrees keys values X.env pos)) (fun vs s' => ∃ ps H', Inv X pins σ H' s'/\VV ps vs/\Q ps H') X.xe s
theorem pps_nil {X : Cx} {pos : Pos} : PPs X pos [] [] [] := fun pins s σ H Q I h => pairTrees_nil_walk ⟨[], H, I, .nil, h⟩
theorem pps_cons {X : Cx} {pos : Pos} {k v : Expr} {ks : List (Option Expr)} {vs : List Expr} {tk tv : TE} {trs : List (TE × TE)} (hk : PE X k tk) (hv : PE X v tv) (hr : PPs X pos ks vs trs) : PPs X pos (some k :: ks) (v :: vs) ((tk, tv) :: trs) := fun pins s σ H Q I h =>
  pairTrees_cons_walk (thn (hk pins s σ H _ I h) fun u s1 ⟨x, H1, I1, rx, q1⟩ => thn (hv pins s1 σ H1 _ I1 q1) fun w2 s2 ⟨y, H2, I2, ry, q2⟩ =>
    thn (hr pins s2 σ H2 _ I2 q2) fun ws s3 ⟨ps, H3, I3, rel, q3⟩ => ⟨(x, y) :: ps, H3, I3, .cons ⟨rx, ry⟩ rel, q3⟩)
def mergeK (kvs more : List (Key × V)) : List (Key × V) := more.foldl (fun acc kv => putK acc kv.1 kv.2) kvs
theorem KV.merge : ∀ {more : List (Key × V)} {rs : List (Key × Value)} {kvs : List (Key × V)} {vs : List (Key × Value)}, KV more rs->KV kvs vs->KV (mergeK kvs more) (merged vs rs) := by
  intro more rs kvs vs r
  unfold KV at r
  induction r generalizing kvs vs with
  | nil => intro q; exact q
  | @cons p q ps qs h t ih =>
    intro r0
    have e : KV (putK kvs p.1 p.2) (stored vs q.1 q.2) := by
      have := r0.put p.1 h.2
      rw [← h.1]; exact this
    exact ih e
theorem length_mergeK : ∀ (more kvs : List (Key × V)), (mergeK kvs more).length ≤ kvs.length + more.length
  | [], kvs => by show kvs.length ≤ kvs.length + 0; omega
  | p :: r, kvs => by
    have h1 := length_mergeK r (putK kvs p.1 p.2)
    have h2 := length_putK kvs p.1 p.2
    show (mergeK (putK kvs p.1 p.2) r).length ≤ _
    rw [List.length_cons]; omega
theorem carries_of {P : Program} {w : World} : ∀ {kvs : List (Key × V)} {ws : List (Value × Value)}, VV (kvs.map fun kv => (kV kv.1, kv.2)) ws->∃ rs, Carries (mixKind P w) ws rs/\KV kvs rs
  | [], _, r => by rw [List.map_nil] at r; cases r; exact ⟨[], True.intro, .nil⟩
  | p :: kvs, _, r => by
    rw [List.map_cons] at r
    cases r with
    | @cons a b as bs h t =>
      obtain ⟨rs, c, q⟩ := carries_of (P := P) (w := w) t
      obtain ⟨b1, b2⟩ := b
      exact ⟨(p.1, b2) :: rs, ⟨kV_is h.1, rfl, c⟩, .cons ⟨rfl, h.2⟩ q⟩
def tDisp (trs : List (TE × TE)) : TE := fun σ H Q => ∀ p, H p = none->tPairs trs σ (upd H p (.dK [])) fun ps H2 => H2 p = some (.dK [])/\∃ kvs : List (Key × V), ps = kvs.map (fun kv => (kV kv.1, kv.2))/\kvs.length ≤ 15/\Q (.ref p) (upd H2 p (.dK (mergeK [] kvs)))
theorem pe_disp {X : Cx} {pos : Pos} {keys : List (Option Expr)} {values : List Expr} {trs : List (TE × TE)} (h : PPs X pos keys values trs) (hall : keys.all (·.isSome) = true) (hl : keys.length = values.length) (h0 : keys ≠ []) (h15 : keys.length ≤ 15) : PE X (.Dict keys values pos) (tDisp trs) := by
  intro pins s σ H Q I q
  have hn := I.hok.fresh (Nat.le_refl s.heap.objs.size)
  have I1 := I.laid (a := s.heap.objs.size) (o := .dK []) (h' := s.heap.push { cls := .type "dict", data := .dict #[] }) (t' := s.toks) (fun _ _ q => Heap.get?_push_of_some _ q) (Nat.le_refl _) (dk_empty s.heap I.big)
  refine wpAny_Dict_walk (knd := mixKind X.prog X.w) hall hl h0 h15 (thn (h pins _ σ _ _ I1 (q _ hn)) fun ws s2 ⟨ps, H2, I2, rel, e, kvs, ep, lk, q2⟩ => ?_)
  subst ep
  obtain ⟨rs, c, rk⟩ := carries_of (P := X.prog) (w := X.w) rel
  obtain ⟨z, hd, vs0, r0, dd⟩ := dk_of I2.hok e
  cases r0
  refine ⟨rs, c, dd, fun h' dd' hs => ⟨.ref s.heap.objs.size, _, ?_, rfl, q2⟩⟩
  have hz : (mergeK [] kvs).length ≤ sizeLine := by
    have h1 := length_mergeK kvs []
    rw [List.length_nil] at h1
    rw [sizeLine_eq]; omega
  have he : ∃ q, h'.get? s.heap.objs.size = some q := let ⟨q, _, _, hq, _⟩ := dd'; ⟨q, hq⟩
  exact d_write I2 (by rw [e]; exact True.intro) hs he (dk_new hz hd (rk.merge .nil) dd')
section
variable {X : Cx} {pins : List (Addr × Obj)} {σ : St} {H : Hp} {s : Shared} {a : Addr} {y d : V} {u r : Value} {o : Option V} {A : Around} {E : Value->Shared->Prop}
end
section
variable {X : Cx} {o e f : Expr} {apos cpos : Pos} {td ty tx : TE}
end
section
variable {X : Cx} {pins : List (Addr × Obj)} {σ : St} {H : Hp} {s : Shared} {a : Addr} {kvs : List (Key × V)} {A : Around} {E : Value->Shared->Prop}
end
section
variable {X : Cx} {pins : List (Addr × Obj)} {σ : St} {H : Hp} {s : Shared} {a : Addr} {y : V} {u : Value} {A : Around} {E : Value->Shared->Prop}
end
end L2
namespace Att
open PySem PySem.W PySem.Calls PyProof.Rows
theorem ints_of_wellAll {P : Params} {h : Heap} : ∀ (ns : List Int) (vs : List Value), WellAll P h vs (ns.map WData.int)->IntsAre vs ns := by
  intro ns
  induction ns with
  | nil =>
    intro vs w
    rw [List.map_nil] at w
    cases w
    exact .nil
  | cons n ns ih =>
    intro vs w
    rw [List.map_cons] at w
    cases w with
    | cons a b =>
      cases a
      exact .cons _ _ (ih _ b)
theorem script_of {l : OpenLaw} {n : Nat} (hn : l.most = some n) {P : Params} {h : Heap} {args : List WData} {vals : List Value} (hpre : l.row.toRowW.claim.pre args = true) (hwl : WellAll P h vals args) : ∃ a vs ns, vals = [Value.ref a]/\args = [WData.list (ns.map WData.int)]/\h.get? a = some { cls := .type "list", data := .seq vs.toArray }/\IntsAre vs ns/\ns.length ≤ n := by
  have hsh : WShape.hasAll [] args [.list .int] = true := (pre_splitW hpre).1
  have hc : l.pre.holds [] { args := args } = true := (pre_splitW hpre).2
  obtain ⟨d, r, rfl, h1, h2⟩ := hasAllW_cons hsh
  obtain rfl := hasAllW_nil h2
  obtain ⟨xs, rfl, h3⟩ := hasW_list h1
  obtain ⟨ns, rfl⟩ := items_int h3
  have hlen : ns.length ≤ n := by
    unfold OpenLaw.pre at hc
    have h4 : (WTm.not (.lt (.lit (.int (n : Int))) (.len (.arg 0)))).holds [] { args := [.list (ns.map .int)] } = true := by
      have h4 := (holds_andW hc).1
      rw [hn] at h4
      exact h4
    have h5 := condW_of h4 (w_not (w_lt w_lit (w_len_list (w_arg rfl))))
    rw [List.length_map] at h5
    refine Nat.le_of_not_lt fun q => ?_
    have q' : (n : Int) < ((ns.length : Nat) : Int) := by omega
    first
      | (rw [decide_eq_true q'] at h5; exact absurd h5 (by decide))
      | (simp at h5; omega)
  cases hwl with
  | cons w1 w2 =>
    cases w2
    cases w1 with
    | list ho hall => exact ⟨_, _, ns, rfl, rfl, ho, ints_of_wellAll ns _ hall, hlen⟩
theorem post_true (l : OpenLaw) (args : List WData) : l.row.toRowW.claim.post args (.bool true) args = true :=
  postW_of (r := l.row.toRowW) (X := (true == true))
    (show WShape.has [] (.bool true) .bool = true by first | rfl | decide | simp [WShape.has, WShape.arms, WShape.armsAll])
    (show (WTm.eq .res (.lit (.bool true))).value [] { args := args, res := some (.bool true), after := args } = some (.bool (true == true)) from w_eq_bool (w_res rfl) w_lit) rfl
section
variable {prog : Program} {w : World} {A : Around} {E : Value->Shared->Prop} {s : Shared} {K : Frag}
end
end Att
namespace L2
open PySem PySem.Spec PyProof.Rows
theorem vals_ints : ∀ {vs : List Value} {ns : List Int}, IntsAre vs ns->Vals (ns.map V.int) vs
  | _, _, .nil => .nil
  | _, _, .cons n t h => .cons ⟨t, rfl⟩ (vals_ints h)
end L2
namespace L2
open PySem PySem.Spec PyProof.Rows
end L2
namespace L2
open PySem PySem.Spec PyProof.Rows
def defArgs (s : Stmt) : Arguments := match s with
  | .FunctionDef _ a _ _ _ _ _ _ _ _ => a
  | _ => { posonlyargs := [], args := [], vararg := none, kwonlyargs := [], kw_defaults := [], kwarg := none, defaults := [] }
def defBody (s : Stmt) : List Stmt := match s with
  | .FunctionDef _ _ b _ _ _ _ _ _ _ => b
  | _ => []
def defScope (s : Stmt) : Scope := match s with
  | .FunctionDef _ _ _ _ _ _ sc _ _ _ => sc
  | _ => { kind := .function, names := [], isGenerator := false, isCoroutine := false }
abbrev CX0 : CXT := fun _ _ _ _ _ _ => False
abbrev E0 : XK := fun _ _ _ => False
theorem pass0 {X : Cx} : Passes CX0 X E0 := fun _ _ _ _ _ _ _ h => h.elim
structure Fun (K : PySem.W.Frag) (x qual : Str) (st : Stmt) (f : Addr) (fd : FuncData) : Prop where
  ex : ∃ (oc : Value) (od : Option Addr) (kV doc pm : Value) (an : Option Addr) (cdv ct : Value) (osl : Array (Option Value)),
    fd = PySem.W.fnOf x qual (defArgs st) (defBody st) (defScope st) .none kV doc pm an cdv ct/\K.lookup f = some ⟨oc, od, .func fd, osl⟩/\PySem.W.codeIn K cdv qual = true
  kp : PySem.W.keepIn K (.ref f) = true
section
variable {P : Program} {w : World} {K : PySem.W.Frag} {mg : Str->Option Value} {base : Heap}
theorem Fun.ok {x qual : Str} {st : Stmt} {f : Addr} {fd : FuncData} {N ps : List Str} {k : Nat} {sp : Sp} (F : Fun K x qual st f fd) (S : FnScope N ps (defScope st)) (len : ∀ vs H Q E, sp vs H Q E->vs.length = ps.length) (hbody : ∀ (cdv : Value) (A : Around) (outer : List Env) (s : Shared) (H : Hp) (vs : List V) (Q : VK) (E : XK), Room k (A.deeper (envOfC qual (defScope st) s.heap.objs.size f cdv))->sp vs H Q E->∃ t, PSs (cxOf CX0 P w K mg base N qual (defScope st) f cdv A outer s H E).nox (defBody st) t/\t { nx := fun _ H' => Q .non H', rt := Q } (start N vs) H) : FnOk P w K mg base CX0 (k + 1) f fd ps sp := by
  obtain ⟨oc, od, kV, doc, pm, an, cdv, ct, osl, rfl, lk, hcd⟩ := F.ex
  refine fn_of lk hcd S len fun A outer s H vs Q E hr hsp => ?_
  obtain ⟨t, h, q⟩ := hbody cdv A outer s H vs Q E hr hsp
  exact ⟨t, h.nox, q⟩
theorem Fun.binds {x qual : Str} {st : Stmt} {f : Addr} {fd : FuncData} {ps : List Str} (F : Fun K x qual st f fd) (h : ∀ (kV doc pm : Value) (an : Option Addr) (cdv ct : Value) (us : List Value), us.length = ps.length->bindArgs (PySem.W.fnOf x qual (defArgs st) (defBody st) (defScope st) .none kV doc pm an cdv ct) ⟨us, []⟩ = pure (ps.zip us)) : Binds K fd ps [] := by
  obtain ⟨oc, od, kV, doc, pm, an, cdv, ct, osl, rfl, lk, hcd⟩ := F.ex
  exact .all (h kV doc pm an cdv ct)
theorem fun_mk {x qual : Str} {st : Stmt} {f : Addr} {oc : Value} {od an : Option Addr} {osl : Array (Option Value)} {kV doc pm cdv ct : Value} (l : K.lookup f = some ⟨oc, od, .func (PySem.W.fnOf x qual (defArgs st) (defBody st) (defScope st) .none kV doc pm an cdv ct), osl⟩) (c : PySem.W.codeIn K cdv qual = true) (k : PySem.W.keepIn K (.ref f) = true) : Fun K x qual st f (PySem.W.fnOf x qual (defArgs st) (defBody st) (defScope st) .none kV doc pm an cdv ct) := ⟨⟨oc, od, kV, doc, pm, an, cdv, ct, osl, rfl, l, c⟩, k⟩
end
theorem hu_of {A : Around} {k : Nat} (hr : Room k A) : A.units + 1 < cLine := Nat.lt_of_le_of_lt (Nat.add_le_add_left (by decide : 1 ≤ 64) _) hr.units
theorem small1000 {n : Nat} (h : n ≤ 1000) : n < sizeLine := Nat.lt_of_le_of_lt h (by decide)
section
variable {X : Cx}
theorem pv (i : Nat) {x : Str} {pos : Pos} (hN : X.N[i]? = some x := by rfl) (hv : Vis X.env.scope x := by first | exact Or.inl rfl | exact Or.inr (Or.inl rfl) | exact Or.inr (Or.inr rfl)) (hd : (x == ("__debug__" : Str)) = false := by decide)
    (hcd : (x == ("__classdict__" : Str)) = false := by decide) : PE X (.Name x pos) (tVar i) := pe_var hN hv hd hcd
theorem call_lenD : CallR X (.builtin "len") (fun xs H Q => ∃ a kvs, xs = [V.ref a]/\H a = some (.dK kvs)/\Q (.int kvs.length) H) := by
  intro pins s σ H xs us Q I r h
  obtain ⟨a, kvs, rfl, ha, q⟩ := h
  obtain ⟨u, rfl, ru⟩ := vals1 r
  cases ru
  exact d_len I (.inl ha) fun t s' I' => ⟨.int kvs.length, H, I', ⟨t, rfl⟩, q⟩
end
theorem iteF {A B : Prop} (h : B) : if false = true then A else B := by
  rw [if_neg Bool.false_ne_true]
  exact h
theorem iteT {A B : Prop} (h : A) : if true = true then A else B := by
  rw [if_pos rfl]
  exact h
def Same (H H' : Hp) : Prop := ∀ b o, H b = some o->H' b = some o
theorem Same.refl (H : Hp) : Same H H := fun _ _ h => h
theorem Same.trans {H H1 H2 : Hp} (a : Same H H1) (b : Same H1 H2) : Same H H2 := fun c o h => b c o (a c o h)
theorem Same.free {H H' : Hp} (e : Same H H') {l : Addr} (h : H' l = Option.none) : H l = Option.none := by
  cases q : H l with
  | none => rfl
  | some o =>
    rw [e l o q] at h
    cases h
theorem Same.seq {K : PySem.W.Frag} {H H' : Hp} {a : Addr} {xs : List V} (e : Same H H') (h : SqL K H a xs) : SqL K H' a xs := by
  rcases h with (h | ⟨o, h⟩) | h
  · exact .inl (.inl (e _ _ h))
  · exact .inl (.inr ⟨o, e _ _ h⟩)
  · exact .inr h
section
variable {κ : Type} [DecidableEq κ]
end
end L2
namespace L2
open PySem PySem.Spec PyProof.Rows
def oldB (N M : List Str) (sc : Scope) : Bool := (List.range N.length).all fun i => match M[i]? with
  | some y => (sc.names.lookup y != some .local) && (sc.names.lookup y != some .cell) && ((sc.names.lookup y != some .free) || (N[i]? == some y))
  | none => true
structure CompS (scN : List (Str × NameKind)) (N M : List Str) (x : Str) (sc : Scope) : Prop where
  kind : sc.kind = .function
  keys : (sc.names.map (·.1)).Nodup
  fr : ∀ p ∈ sc.names, p.2 = .free->scN.lookup p.1 = some .cell ∨ scN.lookup p.1 = some .free
  nd : M.Nodup
  len : M.length = N.length + 1
  last : M[N.length]? = some x
  own : sc.names.lookup x = some .local ∨ sc.names.lookup x = some .cell
  old : oldB N M sc = true
theorem oldB_at {N M : List Str} {sc : Scope} (h : oldB N M sc = true) {i : Nat} {y : Str} (hi : i < N.length) (e : M[i]? = some y) : sc.names.lookup y ≠ some .local/\sc.names.lookup y ≠ some .cell/\(sc.names.lookup y = some .free->N[i]? = some y) := by
  have q := List.all_eq_true.mp h i (List.mem_range.mpr hi)
  rw [e] at q
  simp only [Bool.and_eq_true, Bool.or_eq_true, bne_iff_ne, beq_iff_eq, ne_eq] at q
  obtain ⟨⟨q1, q2⟩, q3⟩ := q
  exact ⟨q1, q2, fun z => q3.elim (fun w => absurd z w) id⟩
theorem lookup_of_mem {l : List (Str × NameKind)} (nd : (l.map (·.1)).Nodup) {p : Str × NameKind} (h : p ∈ l) : l.lookup p.1 = some p.2 := by
  induction l with
  | nil => cases h
  | cons q r ih =>
    obtain ⟨h1, h2⟩ := List.nodup_cons.mp (show (q.1 :: r.map (·.1)).Nodup from nd)
    rw [List.lookup_cons]
    rcases List.mem_cons.mp h with e | h
    · subst e; rw [beq_self_eq_true]
    · have ne : (p.1 == q.1) = false := by
        rw [beq_eq_false_iff_ne]
        intro e
        exact h1 (e ▸ List.mem_map.mpr ⟨p, h, rfl⟩)
      rw [ne]; exact ih h2 h
theorem closure_ok {scope : Scope} {env : Env} (h : ∀ p ∈ scope.names, p.2 = .free->∃ c, env.cells.lookup p.1 = some c) : ∃ cl, closureFor scope env = pure cl/\(∀ y c, (y, c) ∈ cl->env.cells.lookup y = some c/\(y, NameKind.free) ∈ scope.names)/\∀ p ∈ scope.names, p.2 = .free->∃ c, cl.lookup p.1 = some c := by
  have gen : ∀ (l : List (Str × NameKind)) (acc : List (Str × Addr)), (∀ p ∈ l, p.2 = .free->∃ c, env.cells.lookup p.1 = some c) →
      ∃ cl, (forIn l acc fun (p : Str × NameKind) (cs : List (Str × Addr)) => if p.2 == .free then (do let a ← cellOf env p.1; pure (ForInStep.yield ((p.1, a) :: cs))) else (pure (ForInStep.yield cs) : Sem (ForInStep (List (Str × Addr))))) = pure cl ∧
        (∀ y c, (y, c) ∈ cl->(y, c) ∈ acc ∨ (env.cells.lookup y = some c/\(y, NameKind.free) ∈ l))/\(∀ y c, acc.lookup y = some c->∃ c', cl.lookup y = some c')/\∀ p ∈ l, p.2 = .free->∃ c, cl.lookup p.1 = some c := by
    intro l
    induction l with
    | nil => intro acc _; exact ⟨acc, rfl, fun y c e => .inl e, fun y c e => ⟨c, e⟩, fun p hp => nomatch hp⟩
    | cons q r ih =>
      intro acc hq
      obtain ⟨n, k⟩ := q
      rw [List.forIn_cons]
      by_cases hk : k = .free
      · subst hk
        obtain ⟨c, hc⟩ := hq (n, .free) List.mem_cons_self rfl
        have hc' : env.cells.lookup n = some c := hc
        have e1 : cellOf env n = pure c := by unfold cellOf; rw [hc']
        obtain ⟨cl, e, h1, h2, h3⟩ := ih ((n, c) :: acc) fun p hp => hq p (List.mem_cons_of_mem _ hp)
        refine ⟨cl, ?_, ?_, ?_, ?_⟩
        · simp only [beq_self_eq_true, if_true, e1, pure_bind]
          exact e
        · intro y d hy
          rcases h1 y d hy with z | ⟨z1, z2⟩
          · rcases List.mem_cons.mp z with z | z
            · cases z; exact .inr ⟨hc', List.mem_cons_self⟩
            · exact .inl z
          · exact .inr ⟨z1, List.mem_cons_of_mem _ z2⟩
        · intro y d hy
          by_cases e' : y = n
          · subst e'; exact h2 y c (by rw [List.lookup_cons, beq_self_eq_true])
          · exact h2 y d (by rw [List.lookup_cons, beq_eq_false_iff_ne.mpr e']; exact hy)
        · intro p hp hf
          rcases List.mem_cons.mp hp with z | z
          · subst z; exact h2 n c (by rw [List.lookup_cons, beq_self_eq_true])
          · exact h3 p z hf
      · have hkb : (k == NameKind.free) = false := beq_eq_false_iff_ne.mpr hk
        obtain ⟨cl, e, h1, h2, h3⟩ := ih acc fun p hp => hq p (List.mem_cons_of_mem _ hp)
        refine ⟨cl, ?_, ?_, h2, ?_⟩
        · simp only [hkb, Bool.false_eq_true, if_false, pure_bind]
          exact e
        · intro y d hy
          rcases h1 y d hy with z | ⟨z1, z2⟩
          · exact .inl z
          · exact .inr ⟨z1, List.mem_cons_of_mem _ z2⟩
        · intro p hp hf
          rcases List.mem_cons.mp hp with z | z
          · subst z; exact absurd hf hk
          · exact h3 p z hf
  obtain ⟨cl, e, h1, _, h3⟩ := gen scope.names [] h
  refine ⟨cl, ?_, fun y c hy => (h1 y c hy).elim (fun z => nomatch z) id, h3⟩
  unfold closureFor
  have e' : (forIn scope.names ([] : List (Str × Addr)) fun (p : Str × NameKind) (cs : List (Str × Addr)) => if p.2 == .free then (do let a ← cellOf env p.1; pure (ForInStep.yield ((p.1, a) :: cs))) else (pure (ForInStep.yield cs) : Sem (ForInStep (List (Str × Addr))))) = pure cl := e
  first
    | (simp only [bind_pure_comp, Functor.map_map] at e' ⊢; simpa using e')
    | (show (forIn scope.names ([] : List (Str × Addr)) _ >>= fun cs => pure cs) = pure cl
       rw [bind_pure]
       exact e')
theorem cellsFrom_acc : ∀ (names : List (Str × NameKind)) (n : Nat) (acc : List (Str × Addr)) {y : Str}, (∀ p ∈ names, p.2 = .cell->p.1 ≠ y)->(cellsFrom n names acc).lookup y = acc.lookup y
  | [], _, _, _, _ => rfl
  | (m, k) :: r, n, acc, y, h => by
    unfold cellsFrom
    split
    · rename_i hk
      have hk' : k = .cell := by simpa using hk
      rw [cellsFrom_acc r (n + 1) _ fun p hp => h p (List.mem_cons_of_mem _ hp), List.lookup_cons]
      have : (y == m) = false := by rw [beq_eq_false_iff_ne]; exact fun e => h (m, k) List.mem_cons_self hk' e.symm
      rw [this]
    · exact cellsFrom_acc r n acc fun p hp => h p (List.mem_cons_of_mem _ hp)
theorem cellsFrom_acc_some : ∀ (names : List (Str × NameKind)) (n : Nat) (acc : List (Str × Addr)) {y : Str} {c : Addr}, acc.lookup y = some c->∃ d, (cellsFrom n names acc).lookup y = some d
  | [], _, _, _, c, h => ⟨c, h⟩
  | (m, k) :: r, n, acc, y, c, h => by
    unfold cellsFrom
    split
    · by_cases e : y = m
      · exact cellsFrom_acc_some r (n + 1) _ (c := n) (by rw [List.lookup_cons, beq_iff_eq.mpr e])
      · exact cellsFrom_acc_some r (n + 1) _ (c := c) (by rw [List.lookup_cons, beq_eq_false_iff_ne.mpr e]; exact h)
    · exact cellsFrom_acc_some r n acc h
theorem cellsFrom_own : ∀ (names : List (Str × NameKind)) (n : Nat) (acc : List (Str × Addr)) {y : Str}, (y, NameKind.cell) ∈ names->∃ c, (cellsFrom n names acc).lookup y = some c
  | (m, k) :: r, n, acc, y, h => by
    unfold cellsFrom
    rcases List.mem_cons.mp h with e | h
    · cases e
      rw [if_pos (show (NameKind.cell == NameKind.cell) = true from rfl)]
      exact cellsFrom_acc_some r (n + 1) _ (c := n) (by rw [List.lookup_cons, beq_self_eq_true])
    · split
      · exact cellsFrom_own r _ _ h
      · exact cellsFrom_own r _ _ h
theorem pushCells_own : ∀ (names : List (Str × NameKind)) (h : Heap) (acc : List (Str × Addr)) {y : Str} {c : Addr}, (y, c) ∈ cellsFrom h.objs.size names acc->(y, c) ∈ acc ∨ (h.objs.size ≤ c/\(y, NameKind.cell) ∈ names/\(pushCells h names).IsCell c none)
  | [], _, _, _, _, e => .inl e
  | (m, k) :: r, h, acc, y, c, e => by
    unfold cellsFrom at e
    unfold pushCells
    split at e
    · rename_i hk
      have hk' : k = .cell := by simpa using hk
      rw [if_pos hk]
      have sz : (h.push { cls := .type "cell", data := .cell none }).objs.size = h.objs.size + 1 := Heap.size_push ..
      have e' : (y, c) ∈ cellsFrom (h.push { cls := .type "cell", data := .cell none }).objs.size r ((m, h.objs.size) :: acc) := by rw [sz]; exact e
      rcases pushCells_own r _ _ e' with z | ⟨z1, z2, z3⟩
      · rcases List.mem_cons.mp z with z | z
        · cases z
          exact .inr ⟨Nat.le_refl _, by rw [hk']; exact List.mem_cons_self, ⟨_, pushCells_keeps r _ _ _ (Heap.get?_push_size _ rfl), rfl⟩⟩
        · exact .inl z
      · exact .inr ⟨by rw [sz] at z1; omega, List.mem_cons_of_mem _ z2, z3⟩
    · rename_i hk
      rw [if_neg hk]
      rcases pushCells_own r h acc e with z | ⟨z1, z2, z3⟩
      · exact .inl z
      · exact .inr ⟨z1, List.mem_cons_of_mem _ z2, z3⟩
theorem cellsFrom_inj : ∀ (names : List (Str × NameKind)) (n : Nat) (acc : List (Str × Addr)), (∀ y c, (y, c) ∈ acc->c < n)->(∀ y z c, (y, c) ∈ acc->(z, c) ∈ acc->y = z) →
    ∀ y z c, (y, c) ∈ cellsFrom n names acc->(z, c) ∈ cellsFrom n names acc->y = z
  | [], _, _, _, h2, y, z, c, e1, e2 => h2 y z c e1 e2
  | (m, k) :: r, n, acc, h1, h2, y, z, c, e1, e2 => by
    unfold cellsFrom at e1 e2
    split at e1
    · rename_i hk
      rw [if_pos hk] at e2
      refine cellsFrom_inj r (n + 1) ((m, n) :: acc) ?_ ?_ y z c e1 e2
      · intro y c h
        rcases List.mem_cons.mp h with h | h
        · cases h; exact Nat.lt_succ_self _
        · exact Nat.lt_succ_of_lt (h1 y c h)
      · intro y z c hy hz
        rcases List.mem_cons.mp hy with a | a <;> rcases List.mem_cons.mp hz with b | b
        · cases a; cases b; rfl
        · cases a; exact absurd (h1 z n b) (Nat.lt_irrefl _)
        · cases b; exact absurd (h1 y n a) (Nat.lt_irrefl _)
        · exact h2 y z c a b
    · rename_i hk
      rw [if_neg hk] at e2
      exact cellsFrom_inj r n acc h1 h2 y z c e1 e2
theorem newEnv_comp {M : Model} {A : Around} {E : Value->Shared->Prop} {s : Shared} {scope : Scope} {cl : List (Str × Addr)} {env : Env} {Q : Env->Shared->Prop} (hQ : ∀ h4 : Heap, h4.Ns s.heap.objs.size (fun _ => none)->(∀ b o, s.heap.get? b = some o->h4.get? b = some o)->(∀ y c, (y, c) ∈ cellsFrom (s.heap.objs.size + 1) scope.names cl->(y, c) ∈ cl ∨ (s.heap.objs.size + 1 ≤ c/\(y, NameKind.cell) ∈ scope.names/\h4.IsCell c none))->∀ cenv : Env, { cenv with scope := relabel scope env } = compEnvC scope (cellsFrom (s.heap.objs.size + 1) scope.names cl) s.heap.objs.size env->cenv.locals = s.heap.objs.size->Q cenv { s with heap := h4 }) :
    wpAny M A (newFunctionEnv scope env.globals cl [] env.qual none .none (some env)) Q E s := by
  simp only [newFunctionEnv, Option.isSome_some, if_true]
  refine wpAny_bind (wpAny_alloc ?_)
  refine wpAny_bind (wpAny_layCells _ (fun name kind cells => by cases hkc : kind == NameKind.cell <;> simp [hkc]) _ _ _ _ ?_)
  have sz : (s.heap.push { cls := .type "dict", data := .dict #[] }).objs.size = s.heap.objs.size + 1 := Heap.size_push ..
  rw [show ({ s with heap := s.heap.push { cls := .type "dict", data := .dict #[] } } : Shared).heap.objs.size = s.heap.objs.size + 1 from Heap.size_push ..]
  rw [List.forIn_nil]
  refine wpAny_bind (wpAny_pure (wpAny_pure ?_))
  refine hQ _ ((Heap.Ns.new s.heap (.type "dict")).keeps (pushCells_keeps _ _)) (fun b o e => pushCells_keeps _ _ b o (Heap.get?_push_of_some _ e)) (fun y c h => ?_) _ rfl rfl
  rw [← sz] at h ⊢
  exact pushCells_own _ _ _ h
theorem compLoop_any {prog : Program} {w : World} {A : Around} {R : Result->Shared->Prop} {s : Shared} {elt target iter : Expr} {ifs : List Expr} {scope : Scope} {pos : Pos} {it acc : Value} {env : Env} (I : Nat->Shared->Prop)
    (turn : ∀ n s, I n s->wpAny (model prog w) A (pyNext it) (fun r s₁ => match r with
      | none => R (.ok .next) s₁
      | some v => wpAny (model prog w) A (letOwnedTupleGo target it v) (fun _ s₀ => wpAny (model prog w) A (assign target env v) (fun _ s₂ =>
          wpAny (model prog w) A (forIn ifs true fun c r => if r = true then do let ok ← isTrue c env (eval c env); pure (ForInStep.yield ok) else pure (ForInStep.yield r)) (fun ok s₃ =>
            if ok = true then wpAny (model prog w) A (eval elt env) (fun x s₄ =>
              wpAny (model prog w) A (call (.builtin "list.append") [acc, x]) (fun _ s₅ => ∃ m, m < n/\I m s₅) (fun _ _ => False) s₄) (fun _ _ => False) s₃
            else ∃ m, m < n/\I m s₃) (fun _ _ => False) s₂) (fun _ _ => False) s₀) (fun _ _ => False) s₁) (fun _ _ => False) s)
    (n : Nat) (h : I n s) :
    codeAny (model prog w) A (.compLoop (.ListComp elt [⟨target, iter, ifs, 0⟩] scope pos) 0 it acc env) R s := by
  refine codeAny_loop rfl I (fun n s hI => ?_) n h
  show wpAny _ A ((compTurn (.ListComp elt [⟨target, iter, ifs, 0⟩] scope pos) 0 it acc env).onRaise (fun x => do noteFrame x env; theTreesLotGoes x)) _ _ s
  refine wpAny_noted ?_
  rw [compTurn_list]
  refine wpAny_bind (wpAny_standAt (wpAny_bind (wpAny_mono (turn n s hI) (fun r s₁ h₁ => ?_) fun _ _ h' => h'.elim)))
  cases r with
  | none => exact wpAny_pure h₁
  | some v =>
    refine wpAny_bind (wpAny_mono h₁ (fun _ s₀ h₀ => ?_) fun _ _ h' => h'.elim)
    refine wpAny_bind (wpAny_mono h₀ (fun _ s₂ h₂ => wpAny_bind (wpAny_mono h₂ (fun ok s₃ h₃ => ?_) fun _ _ h' => h'.elim)) fun _ _ h' => h'.elim)
    cases ok with
    | false => exact wpAny_pure ⟨rfl, h₃⟩
    | true =>
      exact wpAny_bind (wpAny_bind (wpAny_mono h₃ (fun x s₄ h₄ => wpAny_bind (wpAny_mono h₄ (fun _ s₅ h₅ => wpAny_pure (wpAny_pure ⟨rfl, h₅⟩)) fun _ _ h' => h'.elim)) fun _ _ h' => h'.elim))
end L2
namespace L2
open PySem PySem.Spec PyProof.Rows
def compOf (X : Cx) (scope : Scope) (cl : List (Str × Addr)) (M : List Str) (s : Shared) (H : Hp) (fp : List Addr) : Cx where
  prog := X.prog
  w := X.w
  K := X.K
  mg := X.mg
  base := X.base
  A := X.A
  N := M
  s₀ := s
  H₀ := H
  env := compEnvC scope (cellsFrom (s.heap.objs.size + 1) scope.names cl) s.heap.objs.size X.env
  outer := X.stack
  stack := X.stack
  ex := fp
  fn := fun y => scope.names.lookup y == some .cell
  calm := X.calm
  pn := X.pn
  xe := fun _ _ => False
theorem lookup_relabel {env : Env} : ∀ {names : List (Str × NameKind)} {x : Str} {k : NameKind}, (names.map fun (n, k) => if (k == NameKind.free && env.scope.kind == .function && env.kindOf n == some .cell) then (n, NameKind.cell) else (n, k)).lookup x = some k →
    names.lookup x = some k ∨ (names.lookup x = some .free/\k = .cell)
  | [], _, _, h => by simp at h
  | (n, j) :: r, x, k, h => by
    have ih := @lookup_relabel env r x k
    rw [List.map_cons] at h
    dsimp only at h
    by_cases hc : (j == NameKind.free && env.scope.kind == .function && env.kindOf n == some .cell) = true
    · rw [if_pos hc, List.lookup_cons] at h
      rw [List.lookup_cons]
      cases hx : x == n with
      | true =>
        rw [hx] at h
        have hj : j = .free := by
          simp only [Bool.and_eq_true] at hc
          simpa using hc.1.1
        exact .inr ⟨by rw [hj], (Option.some.inj h).symm⟩
      | false => rw [hx] at h; exact ih h
    · rw [if_neg hc, List.lookup_cons] at h
      rw [List.lookup_cons]
      cases hx : x == n with
      | true => rw [hx] at h; exact .inl h
      | false => rw [hx] at h; exact ih h
theorem lookup_relabel_of {env : Env} : ∀ {names : List (Str × NameKind)} {x : Str}, names.lookup x = some .free →
    (names.map fun (n, k) => if (k == NameKind.free && env.scope.kind == .function && env.kindOf n == some .cell) then (n, NameKind.cell) else (n, k)).lookup x = some .cell ∨
    (names.map fun (n, k) => if (k == NameKind.free && env.scope.kind == .function && env.kindOf n == some .cell) then (n, NameKind.cell) else (n, k)).lookup x = some .free
  | [], _, h => by simp at h
  | (n, j) :: r, x, h => by
    have ih := @lookup_relabel_of env r x
    rw [List.map_cons]
    dsimp only
    rw [List.lookup_cons] at h
    by_cases hc : (j == NameKind.free && env.scope.kind == .function && env.kindOf n == some .cell) = true
    · rw [if_pos hc, List.lookup_cons]
      cases hx : x == n with
      | true => exact .inl rfl
      | false => rw [hx] at h; exact ih h
    · rw [if_neg hc, List.lookup_cons]
      cases hx : x == n with
      | true => rw [hx] at h; exact .inr h
      | false => rw [hx] at h; exact ih h
theorem lookup_relabel_cell {env : Env} : ∀ {names : List (Str × NameKind)} {x : Str}, names.lookup x = some .cell →
    (names.map fun (n, k) => if (k == NameKind.free && env.scope.kind == .function && env.kindOf n == some .cell) then (n, NameKind.cell) else (n, k)).lookup x = some .cell
  | [], _, h => by simp at h
  | (n, j) :: r, x, h => by
    have ih := @lookup_relabel_cell env r x
    rw [List.map_cons]
    dsimp only
    rw [List.lookup_cons] at h
    by_cases hc : (j == NameKind.free && env.scope.kind == .function && env.kindOf n == some .cell) = true
    · rw [if_pos hc, List.lookup_cons]
      cases hx : x == n with
      | true => rfl
      | false => rw [hx] at h; exact ih h
    · rw [if_neg hc, List.lookup_cons]
      cases hx : x == n with
      | true => rw [hx] at h; exact h
      | false => rw [hx] at h; exact ih h
section
variable {X : Cx} {pins : List (Addr × Obj)} {σ : St} {H : Hp} {s : Shared} {scope : Scope} {cl : List (Str × Addr)} {M : List Str} {x : Str} {fp : List Addr} {scN : List (Str × NameKind)}
theorem comp_start {h4 : Heap} (I : Inv X pins σ H s) (S : CompS scN X.N M x scope) (hsc : X.env.scope.names = scN) (hcl1 : ∀ y c, (y, c) ∈ cl->X.env.cells.lookup y = some c/\(y, NameKind.free) ∈ scope.names) (hcl2 : ∀ p ∈ scope.names, p.2 = .free->∃ c, cl.lookup p.1 = some c) (hfp : ∀ b ∈ fp, FpOk X pins H b) (hlt : ∀ b ∈ fp, b < s.heap.objs.size) {m : Str->Option Value} (hns : h4.Ns s.heap.objs.size m) (hk : ∀ b o, s.heap.get? b = some o->h4.get? b = some o) (hcell : ∀ y c, (y, c) ∈ cellsFrom (s.heap.objs.size + 1) scope.names cl->(y, c) ∈ cl ∨ (s.heap.objs.size + 1 ≤ c/\(y, NameKind.cell) ∈ scope.names/\h4.IsCell c none)) : Inv (compOf X scope cl M s H fp) pins (σ ++ [none]) H { s with heap := h4 } := by
  have clt : ∀ y c, (y, c) ∈ cl->c < s.heap.objs.size := fun y c h => let ⟨v, z⟩ := I.cell y c (hcl1 y c h).1; z.lt
  have kin : ∀ y : Str, (compOf X scope cl M s H fp).env.kindOf y = (scope.names.map fun (n, k) => if (k == NameKind.free && X.env.scope.kind == .function && X.env.kindOf n == some .cell) then (n, NameKind.cell) else (n, k)).lookup y := fun y => rfl
  have frcell : ∀ y, scope.names.lookup y = some .free->(∀ p ∈ scope.names, p.2 = .cell->p.1 ≠ y) := fun y hy p hp hc e => by
    have q := lookup_of_mem S.keys hp
    rw [e, hy, hc] at q; cases q
  refine ⟨⟨I.ok.mod, S.kind, I.ok.glob, I.ok.blt, Nat.le_refl _, fun y z c h1 h2 => ?_, fun y hy => ?_, fun y c h1 h2 => ?_, I.ok.hd, I.ok.frames, .inl rfl, fun b hb => ⟨Nat.ne_of_lt (hlt b hb), fun y c hc e => ?_⟩, I.bs, Nat.le_trans I.ok.bsz I.sz, fun b o e hb => ?_, fun b hb hf => ?_, I.stack, I.stkFree⟩,
    rfl, I.bare, Un.kept hk, ⟨m, hns, fun i y v h1 h2 h3 => ?_⟩, fun y c h => ?_, I.hok.fresh (Nat.le_refl _), fun y c h => ?_, fun p hp => ?_, I.hok.kept hk, ?_⟩
  · exact cellsFrom_inj scope.names _ cl (fun y c h => Nat.lt_succ_of_lt (clt y c h)) (fun y z c a b => I.ok.inj y z c (hcl1 y c a).1 (hcl1 z c b).1) y z c (PySem.mem_of_lookup h1) (PySem.mem_of_lookup h2)
  · rw [kin y] at hy
    have key : scope.names.lookup y = some .cell ∨ scope.names.lookup y = some .free := by
      rcases hy with hy | hy
      · rcases lookup_relabel hy with z | ⟨z, _⟩
        · exact .inl z
        · exact .inr z
      · rcases lookup_relabel hy with z | ⟨z, _⟩
        · exact .inr z
        · exact .inr z
    rcases key with z | z
    · exact cellsFrom_own scope.names _ cl (PySem.mem_of_lookup z)
    · obtain ⟨c, hc⟩ := hcl2 (y, .free) (PySem.mem_of_lookup z) rfl
      exact cellsFrom_acc_some scope.names _ cl hc
  · have hy : scope.names.lookup y = some .cell := by
      have : (scope.names.lookup y == some NameKind.cell) = true := h1
      simpa using this
    rcases hcell y c (PySem.mem_of_lookup h2) with z | ⟨z, _⟩
    · have q := lookup_of_mem S.keys (hcl1 y c z).2
      rw [hy] at q; cases q
    · exact Nat.le_of_succ_le z
  · subst e
    rcases hcell y c (PySem.mem_of_lookup hc) with z | ⟨z, _⟩
    · exact (hfp c hb).2.2.2.2.1 y c (hcl1 y c z).1 rfl
    · exact absurd (Nat.lt_of_lt_of_le (hlt c hb) (Nat.le_of_succ_le z)) (Nat.lt_irrefl _)
  · rcases (hfp b hb).2.2.2.1 with z | z
    · exact I.ok.noex b o e z
    · exact absurd (Nat.lt_of_lt_of_le (Heap.lt_size e) (Nat.le_trans I.ok.bsz z)) (Nat.lt_irrefl _)
  · obtain ⟨_, f1, f2, _⟩ := hfp b hb
    rcases List.mem_cons.mp (I.stkSub b hf) with z | z
    · exact f1 z
    · exact f2 z
  · have hMi : i < M.length := (List.getElem?_eq_some_iff.mp h1).1
    by_cases hi : i < X.N.length
    · obtain ⟨o1, o2, o3⟩ := oldB_at S.old hi h1
      have hσ : σ[i]? = some (some v) := by
        rw [List.getElem?_append_left (by rw [I.len]; exact hi)] at h2; exact h2
      have hfr : scope.names.lookup y = some .free := by
        have h3' : (compOf X scope cl M s H fp).env.kindOf y = some .local ∨ (compOf X scope cl M s H fp).env.kindOf y = some .cell ∨ (compOf X scope cl M s H fp).env.kindOf y = some .free := h3
        rw [kin y] at h3'
        rcases h3' with z | z | z
        · rcases lookup_relabel z with q | ⟨q, _⟩
          · exact absurd q o1
          · exact q
        · rcases lookup_relabel z with q | ⟨q, _⟩
          · exact absurd q o2
          · exact q
        · rcases lookup_relabel z with q | ⟨q, _⟩
          · exact q
          · exact q
      have hNi := o3 hfr
      have hout := S.fr (y, .free) (PySem.mem_of_lookup hfr) rfl
      rw [← hsc] at hout
      obtain ⟨m0, _, hl⟩ := I.loc
      obtain ⟨u, r, l⟩ := hl i y v hNi hσ (.inr hout)
      refine ⟨u, r, .inr ⟨?_, ?_⟩⟩
      · rw [kin y]; exact lookup_relabel_of hfr
      · obtain ⟨c, hc⟩ := hcl2 (y, .free) (PySem.mem_of_lookup hfr) rfl
        have hXc := (hcl1 y c (PySem.mem_of_lookup hc)).1
        refine ⟨c, (cellsFrom_acc scope.names _ cl (frcell y hfr)).trans hc, ?_⟩
        rcases l with ⟨kl, _⟩ | ⟨_, c', hc', z⟩
        · have kl' : X.env.scope.names.lookup y = some .local := kl
          rw [kl'] at hout
          rcases hout with q | q <;> cases q
        · rw [hXc] at hc'; cases hc'
          exact z.keeps hk
    · have e : i = X.N.length := by have := S.len; omega
      subst e
      rw [List.getElem?_append_right (by rw [I.len]; exact Nat.le_refl _), I.len, Nat.sub_self] at h2
      cases h2
  · rcases hcell y c (PySem.mem_of_lookup h) with z | ⟨_, _, z⟩
    · obtain ⟨v, q⟩ := I.cell y c (hcl1 y c z).1
      exact ⟨v, q.keeps hk⟩
    · exact ⟨_, z⟩
  · rcases hcell y c (PySem.mem_of_lookup h) with z | ⟨z, _, _⟩
    · exact I.freeC y c (hcl1 y c z).1
    · exact I.hok.fresh (Nat.le_of_succ_le z)
  · obtain ⟨e, n, ne, nf, d⟩ := I.pin p hp
    refine ⟨hk _ _ e, n, Nat.ne_of_lt (Heap.lt_size e), fun hf => ?_, d⟩
    rcases List.mem_cons.mp (I.stkSub p.1 hf) with z | z
    · exact ne z
    · exact nf z
  · rw [List.length_append, I.len]; exact S.len.symm
theorem comp_back {H' : Hp} {s' : Shared} {pl : List (Addr × Obj)} {τ : St} (I : Inv X pins σ H s) (hfp : ∀ b ∈ fp, FpOk X pins H b) (J : Inv (compOf X scope cl M s H fp) pl τ H' s') : Inv X pins σ H' s' :=
  I.call' (ch := fp) J.os J.base J.hok J.bare fun b hb => let ⟨_, f1, _, f3, f4, f5⟩ := hfp b hb; ⟨f3, f1, f4, f5⟩
theorem comp_gone {H' : Hp} {s' : Shared} {h' : Heap} {τ : St} (I : Inv X pins σ H s) (J : Inv X pins τ H' s') (hC : H' s.heap.objs.size = none) (hs : Heap.SameBut s.heap.objs.size s'.heap h') : Inv X pins τ H' { s' with heap := h' } := by
  refine J.turned (it := s.heap.objs.size) (t' := s'.toks) (fun b o hb e => (hs.2 b hb).trans e) hC (Nat.ne_of_gt I.lt) (.inr I.sz) (fun y c e z => ?_) (fun p hp z => ?_)
  · obtain ⟨v, q⟩ := I.cell y c e
    exact absurd q.lt (by rw [z]; exact Nat.lt_irrefl _)
  · exact absurd (Heap.lt_size (I.pin p hp).1) (by rw [z]; exact Nat.lt_irrefl _)
end
def PF (X : Cx) (ifs : List Expr) (t : TT) : Prop :=
  ∀ (pins : List (Addr × Obj)) (s : Shared) (σ : St) (H : Hp) (Q : Bool->Hp->Prop), Inv X pins σ H s->t σ H Q →
    wpAny (model X.prog X.w) X.A (forIn ifs true fun c r => if r = true then do let ok ← isTrue c X.env (eval c X.env); pure (ForInStep.yield ok) else pure (ForInStep.yield r)) (TP X pins σ Q) X.xe s
def tYes : TT := fun _ H Q => Q true H
theorem pf_nil {X : Cx} : PF X [] tYes := fun pins s σ H Q I h => wpAny_tests_nil ⟨H, I, h⟩
theorem pf_one {X : Cx} {c : Expr} {t : TT} (hc : PT X c t) : PF X [c] t := fun pins s σ H Q I h => wpAny_tests_one (hc pins s σ H Q I h)
def tComp (wi : TI) (tf : TT) (te : TE) : TE := fun σ H Q => wi σ H fun J H1 => ∀ D, H1 D = none->∃ W : Nat->Nat->List V->Hp->Prop, (∃ m, W 0 m [] (upd H1 D (.lst [])))/\∀ i m ys H2, W i m ys H2 →
  H2 D = some (.lst ys)/\((J.stop i H2/\Q (.ref D) H2) ∨ (J.go i H2/\∃ N : List V->Hp->Prop, (∀ ys' H', N ys' H'->∃ m', m' < m/\W (i + 1) m' ys' H')/\∀ y H3, J.yld i H2 y H3 →
    tf (σ ++ [some y]) H3 fun c H4 => if c = true then te (σ ++ [some y]) H4 fun z H5 => H5 D = some (.lst ys)/\ys.length < sizeLine/\N (ys ++ [z]) (upd H5 D (.lst (ys ++ [z]))) else N ys H4))
section
variable {X : Cx} {elt iter : Expr} {ifs : List Expr} {scope : Scope} {pos px : Pos} {x : Str} {wi : TI} {tf : TT} {te : TE}
theorem comp_turns {Y : Cx} {pins : List (Addr × Obj)} {σ : St} {H2 : Hp} {s : Shared} {it D : Addr} {fp : List Addr} {tn : Nat->Heap->Prop} {J : It} {R : Result->Shared->Prop} {Q : Hp->Prop} {n : Nat} (hc : Y.calm = true) (hxe : Y.xe = fun _ _ => False) (hN : Y.N.Nodup) (hσ : σ.length = n) (hx : Y.N[n]? = some x) (hl : Loc Y.env.scope x) (hf : Y.fn x = true ∨ Y.env.scope.names.lookup x = some .local) (T : Turn Y.prog Y.w Y.K (.Name x px) J fp it tn) (f2 : ∀ b ∈ fp, FpOk Y pins H2 b) (st2 : tn 0 s.heap) (I2 : Inv Y pins (σ ++ [none]) H2 s) (hif : PF Y ifs tf) (hel : PE Y elt te) (W : Nat->Nat->List V->Hp->Prop) (w0 : ∃ m, W 0 m [] H2) (turn : ∀ i m ys H2, W i m ys H2->H2 D = some (.lst ys)/\((J.stop i H2/\Q H2) ∨ (J.go i H2/\∃ N : List V->Hp->Prop, (∀ ys' H', N ys' H'->∃ m', m' < m/\W (i + 1) m' ys' H')/\∀ y H3, J.yld i H2 y H3->tf (σ ++ [some y]) H3 fun c H4 => if c = true then te (σ ++ [some y]) H4 fun z H5 => H5 D = some (.lst ys)/\ys.length < sizeLine/\N (ys ++ [z]) (upd H5 D (.lst (ys ++ [z]))) else N ys H4))) (hR : ∀ H' s', Inv Y pins (σ ++ [none]) H' s'->Q H'->R (.ok .next) s') : codeAny (model Y.prog Y.w) Y.A (.compLoop (.ListComp elt [⟨.Name x px, iter, ifs, 0⟩] scope pos) 0 (.ref it) (.ref D) Y.env) R s := by
  have stat : ∀ {H' : Hp}, (∀ b ∈ fp, H' b = none)->∀ b ∈ fp, FpOk Y pins H' b := fun hn b hb => ⟨hn b hb, (f2 b hb).2⟩
  obtain ⟨m0, w0⟩ := w0
  refine compLoop_any (fun k s' => ∃ i ys H', Inv Y pins (σ ++ [none]) H' s'/\tn i s'.heap/\(∀ b ∈ fp, H' b = none)/\W i k ys H') ?_ m0 ⟨0, [], H2, I2, st2, fun b hb => (f2 b hb).1, w0⟩
  rintro k s3 ⟨i, ys, H3, I3, st3, fr3, w3⟩
  obtain ⟨hD, hcase⟩ := turn i k ys H3 w3
  rcases hcase with ⟨stop, q⟩ | ⟨go, N, hN', step⟩
  · refine thn (T.done Y rfl rfl rfl hc i pins s3 _ H3 _ I3 (stat fr3) st3 stop) fun r s4 ⟨hr, I4⟩ => ?_
    subst hr
    exact hR H3 s4 I4 q
  · refine thn (T.item Y rfl rfl rfl hc i pins s3 _ H3 _ I3 (stat fr3) st3 go) fun r s4 ⟨u, hr, h4⟩ => ?_
    subst hr
    refine thn h4 fun _ s5 ⟨y, H5, I5, r5, y5, st5, fr5⟩ => ?_
    have I5' := I5.pinned (stat fr5) (T.obj _ _ st5)
    have hset : (σ ++ [none]).set n (some y) = σ ++ [some y] := by
      rw [List.set_append_right _ _ (by omega)]
      rw [hσ, Nat.sub_self]; rfl
    refine wpAny_assign_Name (store_ok I5' hN hx hl r5 (fun s6 I6 => ?_) hf)
    rw [hset] at I6
    have noX : ∀ (e : Value) (s : Shared), Y.xe e s->False := fun e s h => by rw [hxe] at h; exact h
    refine wpAny_mono (hif _ s6 _ H5 _ I6 (step y H5 y5)) (fun c s7 ⟨H7, I7, q7⟩ => ?_) fun e s h => noX e s h
    have back : ∀ {s' : Shared} {ys' : List V} {H' : Hp}, Inv Y (pins ++ pinsAt fp s5.heap) (σ ++ [some y]) H' s'->N ys' H'->∃ m, m < k/\∃ i ys H', Inv Y pins (σ ++ [none]) H' s'/\tn i s'.heap/\(∀ b ∈ fp, H' b = none)/\W i m ys H' := fun {s' ys' H'} I' n' => by
      obtain ⟨m', hm, w'⟩ := hN' ys' H' n'
      refine ⟨m', hm, i + 1, ys', H', I'.unpinned.weak (by simp) (fun j v e => ?_), T.keep _ _ _ st5 fun b hb o e => (I'.pin (b, o) (List.mem_append_right _ (List.mem_append_right _ (mem_pinsAt hb e)))).1, fun b hb => ?_, w'⟩
      · by_cases hj : j < σ.length
        · rw [List.getElem?_append_left hj] at e ⊢; exact e
        · rw [List.getElem?_append_right (by omega)] at e
          cases hjj : j - σ.length with
          | zero => rw [hjj] at e; cases e
          | succ t => rw [hjj] at e; simp at e
      · obtain ⟨o, e, d⟩ := T.obj _ _ st5 b hb
        exact (I'.pin (b, o) (List.mem_append_right _ (List.mem_append_right _ (mem_pinsAt hb e)))).2.1
    cases c with
    | false =>
      rw [if_neg Bool.false_ne_true] at q7 ⊢
      exact back I7 q7
    | true =>
      rw [if_pos rfl] at q7 ⊢
      refine wpAny_mono (hel _ s7 _ H7 _ I7 q7) (fun v s8 ⟨z, H8, I8, r8, hD8, hl8, n8⟩ => ?_) fun e s h => noX e s h
      have mt : MtM Y "list.append" rAppend := mt_append
      refine wpAny_mono (mt _ s8 _ H8 (.ref D) [z] (.ref D) [v] (fun _ H' => N (ys ++ [z]) H') I8 rfl (.cons r8 .nil) ⟨D, ys, z, rfl, rfl, hD8, hl8, n8⟩) (fun _ s9 ⟨_, H9, I9, _, n9⟩ => back I9 n9) fun e s h => noX e s h
theorem comp_core {M : List Str} {scN : List (Str × NameKind)} {pins : List (Addr × Obj)} {s : Shared} {σ : St} {H : Hp} {use : Option (Value->Sem Unit)} {Z : Value->Shared->Prop} {G : VK} {pos2 : Pos} (S : CompS scN X.N M x scope) (hsc : X.env.scope.names = scN) (hc : X.calm = true) (hi : PI X (.Name x px) iter wi) (hif : ∀ cl s H fp, PF (compOf X scope cl M s H fp) ifs tf) (hel : ∀ cl s H fp, PE (compOf X scope cl M s H fp) elt te) (hs : ∀ v, foldedSetIterable iter X.env v = pure v) (I : Inv X pins σ H s) (h : tComp wi tf te σ H G) (fin : ∀ (s3 : Shared) (H3 : Hp) (fp : List Addr) (cl : List (Str × Addr)) (D : Addr) (H' : Hp) (s' : Shared), Inv X pins σ H3 s3->(∀ b ∈ fp, FpOk X pins H3 b)->Inv (compOf X scope cl M s3 H3 fp) pins (σ ++ [none]) H' s'->G (.ref D) H'->compPost (model X.prog X.w) X.A X.xe use Z (.ref D) s3.heap.objs.size (.ok .next) s') : wpAny (model X.prog X.w) X.A (comprehension (.ListComp elt [⟨.Name x px, iter, ifs, 0⟩] scope pos) scope X.env pos2 (newList []) false (eval iter X.env) use) Z X.xe s := by
  obtain ⟨cl, hclo, hcl1, hcl2⟩ := closure_ok (scope := scope) (env := X.env) fun p hp hf => I.ok.has p.1 (by have q := S.fr p hp hf; rw [← hsc] at q; exact q)
  refine wpAny_comprehension_free rfl hs hclo S.kind (fun y hy hl => by rw [lookup_of_mem S.keys hy, hl]) (thn (hi pins s σ H _ I h) fun v s1 h1 => thn h1 fun itv s2 h2 => ?_)
  obtain ⟨it, fp, tn, J, H2, e, I2, T, st2, f2, q⟩ := h2
  subst e
  refine wpAny_newObj_type ?_
  have fr : H2 s2.heap.objs.size = none := I2.hok.fresh (Nat.le_refl _)
  have I3 : Inv X pins σ (upd H2 s2.heap.objs.size (.lst [])) { s2 with heap := s2.heap.push { cls := .type "list", dict := none, data := .seq ([] : List Value).toArray } } :=
    I2.laid (t' := s2.toks) (fun b u e => Heap.get?_push_of_some _ e) (Nat.le_refl _) ⟨Nat.zero_le _, [], 0, .nil, Heap.get?_push_size _ rfl⟩
  obtain ⟨W, w0, turn⟩ := q s2.heap.objs.size fr
  have hlt2 : ∀ b ∈ fp, b < s2.heap.objs.size := fun b hb => let ⟨o, e, _⟩ := T.obj 0 _ st2 b hb; Heap.lt_size e
  have f3 : ∀ b ∈ fp, FpOk X pins (upd H2 s2.heap.objs.size (.lst [])) b := fun b hb => ⟨by rw [upd_ne (Nat.ne_of_lt (hlt2 b hb))]; exact (f2 b hb).1, (f2 b hb).2⟩
  refine newEnv_comp fun h4 hns hk hcell cenv hcenv hloc => ?_
  rw [hcenv, hloc]
  have hlt3 : ∀ b ∈ fp, b < ({ s2 with heap := s2.heap.push { cls := .type "list", dict := none, data := .seq ([] : List Value).toArray } } : Shared).heap.objs.size := fun b hb => by
    show b < (s2.heap.push _).objs.size
    rw [Heap.size_push]; exact Nat.lt_succ_of_lt (hlt2 b hb)
  have J4 := comp_start I3 S hsc hcl1 hcl2 f3 hlt3 hns hk hcell
  have st4 : tn 0 h4 := T.keep 0 _ _ st2 fun b hb o e => hk b o (Heap.get?_push_of_some _ e)
  have f4 : ∀ b ∈ fp, FpOk (compOf X scope cl M { s2 with heap := s2.heap.push { cls := .type "list", dict := none, data := .seq ([] : List Value).toArray } } (upd H2 s2.heap.objs.size (.lst [])) fp) pins (upd H2 s2.heap.objs.size (.lst [])) b := fun b hb =>
    ⟨(f3 b hb).1, (J4.ok.exf b hb).1, J4.ok.exfs b hb, .inl hb, (J4.ok.exf b hb).2, (f3 b hb).2.2.2.2.2⟩
  have loc : Loc (relabel scope X.env) x/\((compOf X scope cl M { s2 with heap := s2.heap.push { cls := .type "list", dict := none, data := .seq ([] : List Value).toArray } } (upd H2 s2.heap.objs.size (.lst [])) fp).fn x = true ∨ (relabel scope X.env).names.lookup x = some .local) := by
    rcases S.own with z | z
    · have q := lookup_relabel_local (env := X.env) z
      exact ⟨.inl q, .inr q⟩
    · refine ⟨.inr ?_, .inl ?_⟩
      · exact lookup_relabel_cell z
      · show (scope.names.lookup x == some NameKind.cell) = true
        rw [z]; rfl
  have loop : ∀ s5 : Shared, s5 = { ({ s2 with heap := s2.heap.push { cls := .type "list", dict := none, data := .seq ([] : List Value).toArray } } : Shared) with heap := h4 } →
      codeAny (model X.prog X.w) X.A (.compLoop (.ListComp elt [⟨.Name x px, iter, ifs, 0⟩] scope pos) 0 (.ref it) (.ref s2.heap.objs.size) (compEnvC scope (cellsFrom (({ s2 with heap := s2.heap.push { cls := .type "list", dict := none, data := .seq ([] : List Value).toArray } } : Shared).heap.objs.size + 1) scope.names cl) ({ s2 with heap := s2.heap.push { cls := .type "list", dict := none, data := .seq ([] : List Value).toArray } } : Shared).heap.objs.size X.env))
        (compPost (model X.prog X.w) X.A X.xe use Z (.ref s2.heap.objs.size) ({ s2 with heap := s2.heap.push { cls := .type "list", dict := none, data := .seq ([] : List Value).toArray } } : Shared).heap.objs.size) s5 := by
    rintro s5 rfl
    exact comp_turns (Y := compOf X scope cl M { s2 with heap := s2.heap.push { cls := .type "list", dict := none, data := .seq ([] : List Value).toArray } } (upd H2 s2.heap.objs.size (.lst [])) fp)
      (Q := fun H' => G (.ref s2.heap.objs.size) H') hc rfl S.nd I.len S.last loc.1 loc.2 T f4 st4 J4 (hif _ _ _ _) (hel _ _ _ _) W w0 turn fun H' s' J' g => fin _ _ fp cl _ H' s' I3 f3 J' g
  exact codeAny_compStart_list (loop _ rfl) (T.self _ 0 _ _ _ st4 (loop _ rfl))
theorem pe_comp (scN : List (Str × NameKind)) (N M : List Str) (hi : PI X (.Name x px) iter wi) (hif : ∀ cl s H fp, PF (compOf X scope cl M s H fp) ifs tf) (hel : ∀ cl s H fp, PE (compOf X scope cl M s H fp) elt te) (S : CompS scN N M x scope := by first | exact ⟨rfl, by decide +kernel, by decide +kernel, by decide +kernel, rfl, rfl, .inl rfl, by decide +kernel⟩ | exact ⟨rfl, by decide +kernel, by decide +kernel, by decide +kernel, rfl, rfl, .inr rfl, by decide +kernel⟩)
    (hN : X.N = N := by rfl) (hsc : X.env.scope.names = scN := by rfl) (hc : X.calm = true := by rfl) (hs : ∀ v, foldedSetIterable iter X.env v = pure v := by intro _; rfl) : PE X (.ListComp elt [⟨.Name x px, iter, ifs, 0⟩] scope pos) (tComp wi tf te) := by
  intro pins s σ H Q I h
  subst hN
  rw [eval_ListComp]
  refine comp_core (use := none) S hsc hc hi hif hel hs I h fun s3 H3 fp cl D H' s' I3 f3 J' g => ?_
  obtain ⟨m, hn, _⟩ := J'.loc
  exact ⟨m, hn, fun h' hs' => ⟨.ref D, H', comp_gone I3 (comp_back I3 f3 J') J'.free hs', rfl, g⟩⟩
def tSetC (j : Nat) (te : TE) : TS := fun D σ H => te σ H fun v H' => D.nx (σ.set j (some v)) H'
theorem ps_setC (scN : List (Str × NameKind)) (N M : List Str) (j : Nat) {y : Str} {py spos : Pos} (hn : X.N.Nodup) (hj : X.N[j]? = some y) (hy : Loc X.env.scope y) (hi : PI X (.Name x px) iter wi) (hif : ∀ cl s H fp, PF (compOf X scope cl M s H fp) ifs tf) (hel : ∀ cl s H fp, PE (compOf X scope cl M s H fp) elt te) (S : CompS scN N M x scope := by first | exact ⟨rfl, by decide +kernel, by decide +kernel, by decide +kernel, rfl, rfl, .inl rfl, by decide +kernel⟩ | exact ⟨rfl, by decide +kernel, by decide +kernel, by decide +kernel, rfl, rfl, .inr rfl, by decide +kernel⟩)
    (hN : X.N = N := by rfl) (hsc : X.env.scope.names = scN := by rfl) (hc : X.calm = true := by rfl)
    (hsw : swapsWith (.ListComp elt [⟨.Name x px, iter, ifs, 0⟩] scope pos) (some (.Name y py)) spos.line X.env = pure true := by rfl) (hs : ∀ v, foldedSetIterable iter X.env v = pure v := by intro _; rfl)
    (hf : X.fn y = true ∨ X.env.scope.names.lookup y = some .local := by first | exact .inl rfl | exact .inr rfl | assumption) :
    PS X (.Assign [.Name y py] (.ListComp elt [⟨.Name x px, iter, ifs, 0⟩] scope pos) spos) (tSetC j (tComp wi tf te)) := by
  intro pins s σ H D I h
  subst hN
  rw [exec_Assign_Name_used _ _ _ _ hsw]
  refine wpAny_bind (wpAny_standAt (wpAny_bind ?_))
  show wpAny _ _ (do let _ ← comprehension (.ListComp elt [⟨.Name x px, iter, ifs, 0⟩] scope pos) scope X.env _ (newList []) false (eval iter X.env) (some (assign (.Name y py) X.env))) _ _ s
  refine wpAny_bind (wpAny_mono (comp_core (use := some (assign (.Name y py) X.env)) (Z := fun _ s' => SP X pins D .next s') S hsc hc hi hif hel hs I h fun s3 H3 fp cl A H' s' I3 f3 J' g => ?_) (fun _ s' hq => wpAny_pure (wpAny_pure hq)) fun _ _ e => e)
  obtain ⟨m, hns, _⟩ := J'.loc
  show wpAny _ _ (assign (.Name y py) X.env (.ref A)) _ _ _
  refine wpAny_assign_Name (store_ok2 (comp_back I3 f3 J') hn hj hy (v := .ref A) rfl (fun s'' J'' hch => ?_) hf)
  obtain ⟨a, sb, ha⟩ := hch
  have hne : s3.heap.objs.size ≠ a := by
    rcases ha with z | z
    · rw [z]; exact Nat.ne_of_gt I3.lt
    · obtain ⟨v, q⟩ := I3.cell y a z
      exact Nat.ne_of_gt q.lt
  exact ⟨m, hns.sameBut sb hne, fun h' hs' => ⟨_, H', comp_gone I3 J'' J'.free hs', g⟩⟩
end
end L2
namespace L2
open PySem PySem.Spec PyProof.Rows
section
variable {X : Cx} {pins : List (Addr × Obj)} {σ : St} {H : Hp} {s : Shared} {scope : Scope} {cl : List (Str × Addr)} {M : List Str} {kn : Nat} {fp : List Addr} {scN : List (Str × NameKind)}
end
section
variable {X : Cx} {elt iter : Expr} {ifs : List Expr} {scope : Scope} {pos : Pos} {tg : Expr} {kn : Nat} {g : TG} {wi : TI} {tf : TT} {te : TE}
end
end L2
namespace L2
open PySem PySem.Spec PyProof.Rows
section
variable {X : Cx} {pins : List (Addr × Obj)} {σ : St} {H : Hp} {s : Shared} {a : Addr} {kvs : List (Key × V)} {o : Obj}
theorem Inv.freeze (I : Inv X pins σ H s) (e : H a = some (.dK kvs)) (ho : s.heap.get? a = some o) : Inv X pins σ (upd H a (.frz o (.dK kvs))) s := by
  have nn : ∀ b, H b = none->b ≠ a := fun b n z => by rw [z, e] at n; cases n
  have nk : ∀ b u, H b = some u->u ≠ .dK kvs->b ≠ a := fun b u q d z => by rw [z, e] at q; exact d (Option.some.inj q).symm
  have un : Un X.fs [] H (upd H a (.frz o (.dK kvs))) s.heap s.heap :=
    ⟨fun b ob q _ _ _ => q, fun b ob q _ _ _ => ⟨ob.slots, q⟩, fun b ob _ n _ => by rw [upd_ne (nn b n)]; exact n, fun b ob q _ => ⟨ob, q⟩,
      fun b xs q => by rw [upd_ne (nk b _ q (fun z => nomatch z))]; exact q, fun b ob u q => by rw [upd_ne (nk b _ q (fun z => nomatch z))]; exact q, fun b ps q => ⟨#[], by rw [upd_ne (nk b _ q (fun z => nomatch z)), q]; simp⟩⟩
  have ok : HOk X.prog X.w (upd H a (.frz o (.dK kvs))) s.heap := fun b u q => by
    have stay : ∀ {v : HO}, ObjOk X.prog X.w H s.heap b v->ObjOk X.prog X.w (upd H a (.frz o (.dK kvs))) s.heap b v := fun {v} x =>
      x.stay (fun _ _ _ z => z) (fun c z => by rw [upd_ne (nk c _ z (fun z => nomatch z))]; exact z) fun c u pu z => by rw [upd_ne (nk c _ z (fun e => by rw [e] at pu; exact pu))]; exact z
    by_cases hb : b = a
    · subst hb
      rw [upd_same] at q
      cases q
      exact ⟨ho, stay (I.hok b _ e)⟩
    · rw [upd_ne hb] at q
      exact stay (I.hok b u q)
  exact I.un (h' := s.heap) (t' := s.toks) un ok
theorem Inv.thaw {u : HO} (I : Inv X pins σ H s) (e : H a = some (.frz o u)) (hu : (∀ xs, u ≠ .tup xs)/\(∀ ps, u ≠ .tbl ps)) (h0 : ∀ o' u', X.H₀ a ≠ some (.frz o' u')) : Inv X pins σ (upd H a u) s := by
  have nn : ∀ b, H b = none->b ≠ a := fun b n z => by rw [z, e] at n; cases n
  have nk : ∀ b v, H b = some v->v ≠ .frz o u->b ≠ a := fun b v q d z => by rw [z, e] at q; exact d (Option.some.inj q).symm
  have ok : HOk X.prog X.w (upd H a u) s.heap := fun b v q => by
    have stay : ∀ {v : HO}, ObjOk X.prog X.w H s.heap b v->ObjOk X.prog X.w (upd H a u) s.heap b v := fun {v} x =>
      x.stay (fun _ _ _ z => z) (fun c z => by rw [upd_ne (nk c _ z (fun z => nomatch z))]; exact z) fun c u pu z => by rw [upd_ne (nk c _ z (fun e => by rw [e] at pu; exact pu))]; exact z
    by_cases hb : b = a
    · subst hb
      rw [upd_same] at q
      cases q
      exact stay (show ObjOk X.prog X.w H s.heap b (.frz o u) from I.hok b _ e).2
    · rw [upd_ne hb] at q
      exact stay (I.hok b v q)
  refine ⟨I.ok, I.os, I.bare, ⟨I.base.keep, I.base.slot, fun b ob q n hx => ?_, I.base.there, fun b xs q => ?_, fun b ob v q => ?_, fun b ps q => ?_⟩, I.loc, I.cell, ?_, fun y c h => ?_, fun p hp => ?_, ok, I.len⟩
  · have z := I.base.free b ob q n hx
    rw [upd_ne (nn b z)]; exact z
  · have z := I.base.tups b xs q
    rw [upd_ne (nk b _ z (fun z => nomatch z))]; exact z
  · have z := I.base.frzs b ob v q
    have hb : b ≠ a := fun hb => h0 ob v (hb ▸ q)
    rw [upd_ne hb]; exact z
  · obtain ⟨more, z⟩ := I.base.tbls b ps q
    exact ⟨more, by rw [upd_ne (nk b _ z (fun z => nomatch z))]; exact z⟩
  · rw [upd_ne (nn _ I.free)]; exact I.free
  · rw [upd_ne (nn _ (I.freeC y c h))]; exact I.freeC y c h
  · obtain ⟨h1, h2, h3⟩ := I.pin p hp
    exact ⟨h1, by rw [upd_ne (nn _ h2)]; exact h2, h3⟩
end
def Itd (a : Addr) (o : Obj) (kvs : List (Key × V)) : It :=
  ⟨fun i H => H a = some (.frz o (.dK kvs))/\i < kvs.length, fun i H x H' => H' = H/\∃ kv, kvs[i]? = some kv/\x = kV kv.1, fun i H => H a = some (.frz o (.dK kvs))/\kvs.length ≤ i⟩
theorem relV_key {P : Program} {w : World} {k : Key} {u : Value} (h : (mixKind P w).is k u = true) : RelV (kV k) u := by
  rcases keyIs_shape (show keyIs k u = true from h) with ⟨i, t, rfl, rfl⟩ | ⟨x, t, rfl, rfl⟩
  · exact ⟨t, rfl⟩
  · exact ⟨t, rfl⟩
theorem KV.len {kvs : List (Key × V)} {vs : List (Key × Value)} (r : KV kvs vs) : kvs.length = vs.length := Paired.length r
theorem KV.at {kvs : List (Key × V)} {vs : List (Key × Value)} (r : KV kvs vs) : ∀ {i : Nat} {p : Key × V}, kvs[i]? = some p->∃ q, vs[i]? = some q/\p.1 = q.1 := by
  induction r with
  | nil => intro i p e; simp at e
  | cons h t ih =>
    intro i p e
    cases i with
    | zero => simp at e; subst e; exact ⟨_, rfl, h.1⟩
    | succ i => exact ih (by simpa using e)
theorem turn_dict {P : Program} {w : World} {K : PySem.W.Frag} {tg : Expr} (a it : Addr) (o : Obj) (kvs : List (Key × V)) (ep : Nat) (es : Array DictEntry) (hd : o.data = .dict es ep) :
    Turn P w K tg (Itd a o kvs) [it] it (fun i h => h.IsKeyIter it a i kvs.length ep) where
  mem := by simp
  obj := fun i h st b hb => by
    have e : b = it := by simpa using hb
    subst e
    obtain ⟨o, e, c, d⟩ := st
    exact ⟨o, e, fun v z => by rw [d] at z; cases z⟩
  keep := fun i h h' st k => st.at fun o e => k it (by simp) o e
  item := by
    intro X hP hw hK hc i pins s σ H E I hf st hg
    subst hP hw hK
    obtain ⟨ha, hi⟩ := hg
    obtain ⟨ho, hz, _, vs, rel, o', es', ep', h1, h2, h3, h4⟩ := (show ObjOk X.prog X.w H s.heap a (.frz o (.dK kvs)) from I.hok a _ ha)
    rw [ho] at h1; cases h1
    rw [hd] at h3; cases h3
    have da : s.heap.DictAt (mixKind X.prog X.w) a vs ep := ⟨o, es, ho, h2, hd, h4⟩
    obtain ⟨f0, f1, f2, f3, f4, f5⟩ := hf it (by simp)
    obtain ⟨kv, hkv⟩ : ∃ kv, kvs[i]? = some kv := ⟨kvs[i], by simp [hi]⟩
    obtain ⟨q, hq, ek⟩ := rel.at hkv
    obtain ⟨qk, qv⟩ := q
    rw [rel.len] at st
    refine wpAny_pyNext_dict_item st da hq fun key h' hkey st' sb => ?_
    have I1 : Inv X pins σ H { s with heap := h' } := I.turned (t' := s.toks) (fun b o hb e => (sb.2 b hb).trans e) f0 f1 f3 f4 f5
    obtain ⟨oi, e, c, d⟩ := id st'
    refine ⟨key, rfl, go_of (s := { s with heap := h' }) e c d (by decide) ⟨kV kv.1, H, I1, relV_key (P := X.prog) (w := X.w) (by rw [ek]; exact hkey), ⟨rfl, kv, hkv, rfl⟩, by rw [rel.len]; exact st', fun b hb => (hf b hb).1⟩⟩
  done := by
    intro X hP hw hK hc i pins s σ H E I hf st hg
    subst hP hw hK
    obtain ⟨ha, hi⟩ := hg
    obtain ⟨ho, hz, _, vs, rel, o', es', ep', h1, h2, h3, h4⟩ := (show ObjOk X.prog X.w H s.heap a (.frz o (.dK kvs)) from I.hok a _ ha)
    rw [ho] at h1; cases h1
    rw [hd] at h3; cases h3
    have da : s.heap.DictAt (mixKind X.prog X.w) a vs ep := ⟨o, es, ho, h2, hd, h4⟩
    obtain ⟨f0, f1, f2, f3, f4, f5⟩ := hf it (by simp)
    have hl := rel.len
    rw [rel.len] at st
    exact wpAny_pyNext_dict_end (I.ok.hd hc) st da (by simp; omega) fun h' eb => ⟨rfl, I.turned (t' := s.toks) (fun b o hb e => eb b o hb e) f0 f1 f3 f4 f5⟩
  self := fun _ _ _ _ _ st h => wpAny_pyIter_keyiter st h
section
variable {X : Cx} {tg : Expr}
def iDict (td : TE) : TI := fun σ H R => td σ H fun x H1 => ∃ a kvs, x = .ref a/\H1 a = some (.dK kvs)/\∀ o, R (Itd a o kvs) (upd H1 a (.frz o (.dK kvs)))
theorem pi_dict {l : Expr} {td : TE} (hl : PE X l td) : PI X tg l (iDict td) := by
  intro pins s σ H R I h
  refine thn (hl pins s σ H _ I h) fun v s1 ⟨x, H1, I1, r1, q1⟩ => ?_
  obtain ⟨a, kvs, e, ha, q⟩ := q1
  subst e
  cases r1
  obtain ⟨hz, hm, vs, rel, o, es, ep, h1, h2, h3, h4⟩ := (show ObjOk X.prog X.w H1 s1.heap a (.dK kvs) from I1.hok a _ ha)
  refine wpAny_pyIter_dict (knd := mixKind X.prog X.w) hm ⟨o, es, h1, h2, h3, h4⟩ ?_
  have I2 := I1.freeze ha h1
  refine ⟨s1.heap.objs.size, [s1.heap.objs.size], _, _, _, rfl, I2.kept (t' := s1.toks) fun b o e => Heap.get?_push_of_some _ e, turn_dict a _ o kvs ep es h3, ⟨_, Heap.get?_push_size _ rfl, rfl, by rw [rel.len]; rfl⟩, fun b hb => ?_, q o⟩
  have e : b = s1.heap.objs.size := by simpa using hb
  subst e
  exact I2.fpOk (Nat.le_refl _) (I2.hok.fresh (Nat.le_refl _))
end
def tThaw (t : TS) : TS := fun D σ H => t { nx := fun σ' H' => ∃ a o kvs, H' a = some (.frz o (.dK kvs))/\(∀ o' u', H a ≠ some (.frz o' u'))/\D.nx σ' (upd H' a (.dK kvs)), rt := fun _ _ => False } σ H
theorem ps_thaw {X : Cx} {st : Stmt} {t : TS} (h : PS X st t) : PS X st (tThaw t) := by
  intro pins s σ H D I q
  refine thn (h pins s σ H _ I q) fun f s' z => ?_
  cases f with
  | next =>
    obtain ⟨σ', H', I', a, o, kvs, ha, hn, n⟩ := z
    exact ⟨σ', _, I'.thaw ha ⟨(fun _ z => nomatch z), (fun _ z => nomatch z)⟩ (fun o' u' e => hn o' u' (I.base.frzs a o' u' e)), n⟩
  | brk => obtain ⟨_, _, _, z⟩ := z; exact z.elim
  | cont => obtain ⟨_, _, _, z⟩ := z; exact z.elim
  | ret v => obtain ⟨_, _, _, _, _, z⟩ := z; exact z.elim
theorem for_dict {a : Addr} {o : Obj} {kvs : List (Key × V)} {g : TG} {tb : TS} {D : Ends} {σ : St} {H : Hp} (Pv : Nat->St->Hp->Prop) (h0 : Pv 0 σ H) (hl : ∀ i σ H, i ≤ kvs.length->Pv i σ H->H a = some (.frz o (.dK kvs))) (hs : ∀ i kv σ H, kvs[i]? = some kv->Pv i σ H->g (kV kv.1) σ H fun σ2 H2 => tb { D with nx := Pv (i + 1), ct := Pv (i + 1), bk := D.nx } σ2 H2) (hd : ∀ σ H, Pv kvs.length σ H->D.nx σ H) :
    ∃ W : Nat->Nat->St->Hp->Prop, (∃ m, W 0 m σ H)/\∀ i m σ H, W i m σ H →
      ((Itd a o kvs).stop i H/\D.nx σ H) ∨ ((Itd a o kvs).go i H/\∃ N : St->Hp->Prop, (∀ σ' H', N σ' H'->∃ m', m' < m/\W (i + 1) m' σ' H')/\∀ x H', (Itd a o kvs).yld i H x H'->g x σ H' fun σ2 H2 => tb { D with nx := N, ct := N, bk := D.nx } σ2 H2) := by
  refine ⟨fun i m σ H => m = kvs.length - i/\i ≤ kvs.length/\Pv i σ H, ⟨kvs.length, by simp, Nat.zero_le _, h0⟩, ?_⟩
  rintro i m σ H ⟨rfl, hi, p⟩
  have q := hl i σ H hi p
  by_cases hlt : i < kvs.length
  · refine .inr ⟨⟨q, hlt⟩, Pv (i + 1), fun σ' H' p' => ⟨kvs.length - (i + 1), by omega, rfl, hlt, p'⟩, fun x H' y => ?_⟩
    obtain ⟨e, kv, hkv, ex⟩ := y
    subst e ex
    exact hs i kv σ _ hkv p
  · have e : i = kvs.length := by omega
    subst e
    exact .inl ⟨⟨q, Nat.le_refl _⟩, hd σ H p⟩
end L2
namespace L2
open PySem PySem.Spec PyProof.Rows
section
variable {X : Cx}
theorem keptIter {s : Shared} {h' : Heap} {o : Obj} (hk : ∀ b x, b ∉ [s.heap.objs.size]->(s.heap.push o).get? b = some x->h'.get? b = some x) : ∀ b x, s.heap.get? b = some x->h'.get? b = some x :=
  fun b x e => hk b x (fun hm => by rw [List.mem_singleton.mp hm] at e; exact Nat.lt_irrefl _ (Heap.lt_size e)) (Heap.get?_push_of_some _ e)
theorem range_all (bs : List Bool) : ((List.range bs.length).all fun i => (bs[i]?).getD true) = bs.all id := by
  rw [Bool.eq_iff_iff, List.all_eq_true, List.all_eq_true]
  constructor
  · intro h b hb
    obtain ⟨i, hi, rfl⟩ := List.getElem_of_mem hb
    have q := h i (List.mem_range.mpr hi)
    simpa [List.getElem?_eq_getElem hi] using q
  · intro h i hi
    have hi' := List.mem_range.mp hi
    simp only [List.getElem?_eq_getElem hi', Option.getD_some]
    exact h _ (List.getElem_mem hi')
theorem call_all (hc : X.calm = true) : CallR X (.builtin "all") (fun xs H Q => ∃ (p : Addr) (bs : List Bool), xs = [.ref p]/\SqL X.K H p (bs.map V.bl)/\Q (.bl (bs.all id)) H) := by
  intro pins s σ H xs us Q I r h
  obtain ⟨p, bs, rfl, hp, q⟩ := h
  obtain ⟨u, rfl, ru⟩ := vals1 r
  cases ru
  obtain ⟨its, rv, pl, hz⟩ := I.list hp
  have hl : s.heap.IsList p its.toArray := pl.isList
  have hlt : p < s.heap.objs.size := by obtain ⟨_, e, _⟩ := hl; exact Heap.lt_size e
  have len : its.length = bs.length := by have := rv.length; rw [List.length_map] at this; exact this.symm
  refine call_all_walk (wpAny_pyIter_list hl ?_)
  refine ⟨s.heap.objs.size, [s.heap.objs.size, p], [s.heap.objs.size], its.toArray.size, _, _, fun i => (bs[i]?).getD true, rfl, Walks.list (A := X.A.in1) (I.ok.hd hc) _ p (Nat.ne_of_lt hlt) its.toArray,
    ⟨⟨_, Heap.get?_push_size _ rfl, rfl, rfl⟩, hl.push _⟩, fun i v s' Q' E' hP hQ => ?_, fun h' tk hk => ?_⟩
  · have hv : its[i]? = some v := by simpa using hP
    have hi : i < bs.length := by rw [← len]; exact (List.getElem?_eq_some_iff.mp hv).1
    obtain ⟨u, hu, ru⟩ := rv.get (i := i) (x := V.bl bs[i]) (by simp [hi])
    rw [hv] at hu; cases hu
    cases ru
    simp only [List.getElem?_eq_getElem hi, Option.getD_some] at hQ
    exact wpAny_truthy_bool hQ
  · have e : ((List.range its.toArray.size).all fun i => (bs[i]?).getD true) = bs.all id := by rw [List.size_toArray, len]; exact range_all bs
    rw [e]
    exact ⟨.bl _, H, I.kept (keptIter hk), rfl, q⟩
theorem call_isinst : CallR X (.builtin "isinstance") (fun xs H Q => ∃ x t n b, xs = [x, .ty n]/\TyOf X.K H x t/\PySem.W.kitOne X.K t (.type n) = some b/\Q (.bl b) H) := by
  intro pins s σ H xs us Q I r h
  obtain ⟨x, t, n, b, rfl, ty, e, q⟩ := h
  obtain ⟨u, w', rfl, ru, rw'⟩ := vals2 r
  cases rw'
  exact isinst_ok I ru ty e fun tk => ⟨.bl b, H, I.tok tk, rfl, q⟩
theorem Vals.ins {xs : List V} {us : List Value} {y : V} {u : Value} (r : Vals xs us) (ry : RelV y u) (k : Nat) : Vals (xs.take k ++ y :: xs.drop k) (us.take k ++ u :: us.drop k) := (r.take k).append (.cons ry (r.drop k))
def rInsert : V->List V->Hp->VK->Prop := fun x vs H Q => ∃ l xs k y, x = .ref l/\vs = [.int ((k : Nat) : Int), y]/\H l = some (.lst xs)/\k ≤ xs.length/\xs.length < sizeLine/\Q .non (upd H l (.lst (xs.take k ++ y :: xs.drop k)))
theorem mt_insert : MtM X "list.insert" rInsert := by
  intro pins s σ H x vs v us Q I rx rv h
  obtain ⟨l, xs, k, y, rfl, rfl, hH, hk, hz, q⟩ := h
  cases rx
  obtain ⟨u, w', rfl, ru, ry⟩ := rv.two
  obtain ⟨t, rfl⟩ := ru
  obtain ⟨z, its, n, r, hl, e⟩ := I.lstM hH
  have sl : (sizeLine : Nat) < 2 ^ 63 := line63
  have hf : Builtin.List.listFitsIndex ((k : Nat) : Int) = true := by
    unfold Builtin.List.listFitsIndex
    simp only [Bool.and_eq_true, decide_eq_true_eq]
    constructor <;> omega
  have hsz : its.toArray.size ≤ sizeLine := by rw [List.size_toArray, ← hl]; exact z
  have hnf : ¬ (!Builtin.List.listFitsIndex ((k : Nat) : Int)) = true := by rw [hf]; decide
  have hneg : ¬ (((k : Nat) : Int) < 0) := by omega
  have hmin : min ((k : Nat) : Int).toNat its.toArray.size = k := by rw [List.size_toArray]; omega
  clear hf
  revert hnf hneg hmin
  generalize ((k : Nat) : Int) = x
  intro hnf hneg hmin
  refine call_meets F.slot_list_insert ⟨_, e, rfl⟩ F.entry_list_insert (F.args_list_insert_3 _ _ _) (PySem.AutoSeq1.list_insert_list_int_val_1 l its.toArray n x t w' hnf hsz) ⟨e, ?_⟩
  refine ⟨.non, _, I.lset (its' := its.take k ++ w' :: its.drop k) hH e ?_ (r.ins ry k) ?_, rfl, q⟩
  · first
      | (simp only [hneg, if_false, hmin]; exact PySem.W.kl_ins_eq its k w')
      | (simp only [if_neg hneg, hmin]; exact PySem.W.kl_ins_eq its k w')
  · rw [List.length_append, List.length_cons, List.length_take, List.length_drop]
    omega
def eqVs (xs ys : List V) : Bool := xs.length == ys.length && (List.range xs.length).all fun j => eqV (xs.getD j .non) (ys.getD j .non)
theorem rc_flat {A : Around} {pins : List (Addr × Obj)} {s : Shared} {σ : St} {H : Hp} {a b : Addr} {xs ys : List V} (I : Inv X pins σ H s) (ha : SqL X.K H a xs) (hb : SqL X.K H b ys) (fx : xs.all flatV = true) (fy : ys.all flatV = true) (hu : A.units < cLine) : SeqAt.RcAt A s (.ref a) (.ref b) (eqVs xs ys)/\SeqAt.RcNeAt A s (.ref a) (.ref b) (!eqVs xs ys) := by
  obtain ⟨us, ru, pu, _⟩ := I.list ha
  obtain ⟨vs, rv, pv, _⟩ := I.list hb
  have l1 := ru.length
  have l2 := rv.length
  by_cases hl : xs.length = ys.length
  · have he : ∀ j (h1 : j < us.toArray.size) (h2 : j < vs.toArray.size), SeqAt.EqAt A.in1 s us.toArray[j] vs.toArray[j] (eqV (xs.getD j .non) (ys.getD j .non)) := fun j h1 h2 => by
      rw [List.size_toArray] at h1 h2
      have hj1 : j < xs.length := by omega
      have hj2 : j < ys.length := by omega
      obtain ⟨u, hu, ru'⟩ := ru.get (i := j) (x := xs[j]) (by simp [hj1])
      obtain ⟨v, hv, rv'⟩ := rv.get (i := j) (x := ys[j]) (by simp [hj2])
      have e1 : us.toArray[j] = u := by
        have := List.getElem?_eq_some_iff.mp hu
        obtain ⟨_, q⟩ := this
        simpa using q
      have e2 : vs.toArray[j] = v := by
        obtain ⟨_, q⟩ := List.getElem?_eq_some_iff.mp hv
        simpa using q
      have g1 : xs.getD j .non = xs[j] := by simp [List.getD_eq_getElem?_getD, hj1]
      have g2 : ys.getD j .non = ys[j] := by simp [List.getD_eq_getElem?_getD, hj2]
      rw [e1, e2, g1, g2]
      exact eqAt_V ru' rv' (List.all_eq_true.mp fx _ (List.getElem_mem hj1)) (List.all_eq_true.mp fy _ (List.getElem_mem hj2))
    have hsz : us.toArray.size = vs.toArray.size := by rw [List.size_toArray, List.size_toArray]; omega
    have e : eqVs xs ys = (List.range us.toArray.size).all fun j => eqV (xs.getD j .non) (ys.getD j .non) := by
      unfold eqVs
      rw [beq_iff_eq.mpr hl, Bool.true_and, List.size_toArray, ← l1]
    rw [e]
    exact ⟨SeqAt.RcAt.lists pu.isList pv.isList hsz hu he, SeqAt.RcNeAt.lists pu.isList pv.isList hsz hu he⟩
  · have hsz : (us.toArray.size != vs.toArray.size) = true := by
      rw [bne_iff_ne, List.size_toArray, List.size_toArray]; omega
    have e : eqVs xs ys = false := by
      unfold eqVs
      rw [beq_eq_false_iff_ne.mpr hl, Bool.false_and]
    rw [e]
    exact ⟨SeqAt.RcAt.lists_lengths pu.isList pv.isList hsz hu, SeqAt.RcNeAt.lists_lengths pu.isList pv.isList hsz hu⟩
def rEqL (K : PySem.W.Frag) (neg : Bool) : R2 := fun x y H Q => ∃ a b xs ys, x = .ref a/\y = .ref b/\SqL K H a xs/\SqL K H b ys/\xs.all flatV = true/\ys.all flatV = true/\Q (.bl (if neg then !eqVs xs ys else eqVs xs ys)) H
theorem op_eqL (hu : X.A.units < cLine) : OpR X (compareOp .Eq) (rEqL X.K false) := by
  intro pins s σ H x y v u Q I rx ry h
  obtain ⟨a, b, xs, ys, rfl, rfl, ha, hb, fx, fy, q⟩ := h
  cases rx; cases ry
  exact (rc_flat I ha hb fx fy hu).1 _ _ _ _ ⟨.bl _, H, I, rfl, q⟩
theorem op_neL (hu : X.A.units < cLine) : OpR X (compareOp .NotEq) (rEqL X.K true) := by
  intro pins s σ H x y v u Q I rx ry h
  obtain ⟨a, b, xs, ys, rfl, rfl, ha, hb, fx, fy, q⟩ := h
  cases rx; cases ry
  exact (rc_flat I ha hb fx fy hu).2 _ _ _ _ ⟨.bl _, H, I, rfl, q⟩
structure Rows2 (K : PySem.W.Frag) (H : Hp) (a : Addr) (as : List Addr) (xss : List (List V)) : Prop where
  at' : SqL K H a (as.map V.ref)
  len : as.length = xss.length
  row : ∀ (i : Nat) (p : Addr) (xs : List V), as[i]? = some p->xss[i]? = some xs->SqL K H p xs/\xs.all flatV = true
theorem rc_rows {A : Around} {pins : List (Addr × Obj)} {s : Shared} {σ : St} {H : Hp} {a b : Addr} {as bs : List Addr} {xss yss : List (List V)} (I : Inv X pins σ H s) (ha : Rows2 X.K H a as xss) (hb : Rows2 X.K H b bs yss) (hd : ∀ p ∈ as, p ∉ bs) (hl : xss.length = yss.length) (hu : A.units + 1 < cLine) : SeqAt.RcAt A s (.ref a) (.ref b) ((List.range xss.length).all fun j => eqVs (xss.getD j []) (yss.getD j [])) := by
  obtain ⟨us, ru, pu, _⟩ := I.list ha.at'
  obtain ⟨vs, rv, pv, _⟩ := I.list hb.at'
  have l1 := ru.length
  have l2 := rv.length
  rw [List.length_map] at l1 l2
  have n1 := ha.len
  have n2 := hb.len
  have hsz : us.toArray.size = vs.toArray.size := by rw [List.size_toArray, List.size_toArray]; omega
  have e : xss.length = us.toArray.size := by rw [List.size_toArray]; omega
  rw [e]
  refine SeqAt.RcAt.lists pu.isList pv.isList hsz (Nat.lt_of_succ_lt hu) fun j h1 h2 => ?_
  rw [List.size_toArray] at h1 h2
  have j1 : j < as.length := by omega
  have j2 : j < bs.length := by omega
  have j3 : j < xss.length := by omega
  have j4 : j < yss.length := by omega
  obtain ⟨u, hu', ru'⟩ := ru.get (i := j) (x := V.ref as[j]) (by simp [j1])
  obtain ⟨v, hv', rv'⟩ := rv.get (i := j) (x := V.ref bs[j]) (by simp [j2])
  have e1 : us.toArray[j] = .ref as[j] := by
    obtain ⟨_, q⟩ := List.getElem?_eq_some_iff.mp hu'
    cases ru'
    simpa using q
  have e2 : vs.toArray[j] = .ref bs[j] := by
    obtain ⟨_, q⟩ := List.getElem?_eq_some_iff.mp hv'
    cases rv'
    simpa using q
  have g1 : xss.getD j [] = xss[j] := by simp [List.getD_eq_getElem?_getD, j3]
  have g2 : yss.getD j [] = yss[j] := by simp [List.getD_eq_getElem?_getD, j4]
  rw [e1, e2, g1, g2]
  obtain ⟨q1, f1⟩ := ha.row j as[j] xss[j] (by simp [j1]) (by simp [j3])
  obtain ⟨q2, f2⟩ := hb.row j bs[j] yss[j] (by simp [j2]) (by simp [j4])
  have ne : as[j] ≠ bs[j] := fun e => hd _ (List.getElem_mem j1) (e ▸ List.getElem_mem j2)
  exact SeqAt.EqAt.of_refs ne (rc_flat (A := A.in1) I q1 q2 f1 f2 hu).1
def rEqR (K : PySem.W.Frag) : R2 := fun x y H Q => ∃ a b as bs xss yss, x = .ref a/\y = .ref b/\Rows2 K H a as xss/\Rows2 K H b bs yss/\(∀ p ∈ as, p ∉ bs)/\xss.length = yss.length ∧
  Q (.bl ((List.range xss.length).all fun j => eqVs (xss.getD j []) (yss.getD j []))) H
theorem op_eqR (hu : X.A.units + 1 < cLine) : OpR X (compareOp .Eq) (rEqR X.K) := by
  intro pins s σ H x y v u Q I rx ry h
  obtain ⟨a, b, as, bs, xss, yss, rfl, rfl, ha, hb, hd, hl, q⟩ := h
  cases rx; cases ry
  exact rc_rows I ha hb hd hl hu _ _ _ _ ⟨.bl _, H, I, rfl, q⟩
theorem eqV_refl : ∀ {x : V}, flatV x = true->eqV x x = true := by
  intro x h
  cases x <;> simp_all [flatV, eqV]
theorem eqVs_refl {xs : List V} (h : xs.all flatV = true) : eqVs xs xs = true := by
  unfold eqVs
  rw [beq_self_eq_true, Bool.true_and, List.all_eq_true]
  intro j hj
  have hj' := List.mem_range.mp hj
  have g : xs.getD j .non = xs[j] := by simp [List.getD_eq_getElem?_getD, hj']
  rw [g]
  exact eqV_refl (List.all_eq_true.mp h _ (List.getElem_mem hj'))
end
end L2
namespace Tw
abbrev Road := Int × Int × Int
def inc (v : Int) (r : Road) : Bool := decide (r.1 = v) || decide (r.2.1 = v)
def deg (rs : List Road) (v : Int) : Nat := rs.countP (inc v)
def Joins (r : Road) (u w : Int) : Prop := (r.1 = u/\r.2.1 = w) ∨ (r.1 = w/\r.2.1 = u)
inductive Tr : List Road->List Int->Prop
  | one (v : Int) : Tr [] [v]
  | hang {rs rs' : List Road} {vs vs' : List Int} {u w : Int} {r : Road} : Tr rs vs->u ∈ vs->w ∉ vs->Joins r u w->rs'.Perm (r :: rs)->vs'.Perm (w :: vs)->Tr rs' vs'
theorem Joins.symm {r : Road} {u w : Int} (h : Joins r u w) : Joins r w u := h.elim .inr .inl
theorem inc_iff {v : Int} {r : Road} : inc v r = true<->r.1 = v ∨ r.2.1 = v := by
  unfold inc; simp
theorem Tr.perm {rs rs' : List Road} {vs vs' : List Int} (t : Tr rs vs) (hr : rs'.Perm rs) (hv : vs'.Perm vs) : Tr rs' vs' := by
  cases t with
  | one v =>
    have e1 := hr.eq_nil
    have e2 : vs' = [v] := List.perm_singleton.mp hv
    subst e1; subst e2
    exact .one v
  | hang t hu hw j p q => exact .hang t hu hw j (hr.trans p) (hv.trans q)
theorem Tr.length {rs : List Road} {vs : List Int} (t : Tr rs vs) : rs.length + 1 = vs.length := by
  induction t with
  | one => rfl
  | hang _ _ _ _ p q ih => rw [p.length_eq, q.length_eq, List.length_cons, List.length_cons, ih]
theorem Tr.places {rs : List Road} {vs : List Int} (t : Tr rs vs) : ∀ r ∈ rs, r.1 ∈ vs/\r.2.1 ∈ vs/\r.1 ≠ r.2.1 := by
  induction t with
  | one v => intro r hr; cases hr
  | @hang rs rs' vs vs' u w r _ hu hw j p q ih =>
    intro x hx
    rcases List.mem_cons.mp (p.mem_iff.mp hx) with e | hx
    · subst e
      have hu' : u ∈ vs' := q.mem_iff.mpr (List.mem_cons_of_mem _ hu)
      have hw' : w ∈ vs' := q.mem_iff.mpr List.mem_cons_self
      have ne : u ≠ w := fun e => hw (e ▸ hu)
      rcases j with ⟨a, b⟩ | ⟨a, b⟩
      · rw [a, b]; exact ⟨hu', hw', ne⟩
      · rw [a, b]; exact ⟨hw', hu', ne.symm⟩
    · obtain ⟨h1, h2, h3⟩ := ih x hx
      exact ⟨q.mem_iff.mpr (List.mem_cons_of_mem _ h1), q.mem_iff.mpr (List.mem_cons_of_mem _ h2), h3⟩
theorem Tr.whole {rs : List Road} {vs : List Int} (t : Tr rs vs) {P : Int->Prop} (h : ∀ r ∈ rs, P r.1<->P r.2.1) : ∀ u ∈ vs, ∀ v ∈ vs, P u->P v := by
  induction t with
  | one x =>
    intro u hu v hv
    rw [List.mem_singleton.mp hu, List.mem_singleton.mp hv]; exact id
  | @hang rs rs' vs vs' u w r _ hu hw j p q ih =>
    have ih' := ih fun r hr => h r (p.mem_iff.mpr (List.mem_cons_of_mem _ hr))
    have hj := h r (p.mem_iff.mpr List.mem_cons_self)
    have huw : P u<->P w := by
      rcases j with ⟨a, b⟩ | ⟨a, b⟩
      · rw [a, b] at hj; exact hj
      · rw [a, b] at hj; exact hj.symm
    intro x hx y hy px
    have pu : P u := by
      rcases List.mem_cons.mp (q.mem_iff.mp hx) with e | hx
      · subst e; exact huw.mpr px
      · exact ih' x hx u hu px
    rcases List.mem_cons.mp (q.mem_iff.mp hy) with e | hy
    · subst e; exact huw.mp pu
    · exact ih' u hu y hy pu
def Apart (r q : Road) : Prop := ¬ (r.1 = q.1/\r.2.1 = q.2.1)/\¬ (r.1 = q.2.1/\r.2.1 = q.1)
theorem Apart.symm {r q : Road} (h : Apart r q) : Apart q r := ⟨fun ⟨a, b⟩ => h.1 ⟨a.symm, b.symm⟩, fun ⟨a, b⟩ => h.2 ⟨b.symm, a.symm⟩⟩
theorem Tr.apart {rs : List Road} {vs : List Int} (t : Tr rs vs) : rs.Pairwise Apart := by
  induction t with
  | one => exact .nil
  | @hang rs rs' vs vs' u w r t hu hw j p q ih =>
    refine (p.pairwise_iff (fun h => h.symm)).mpr (List.pairwise_cons.mpr ⟨fun x hx => ?_, ih⟩)
    obtain ⟨h1, h2, _⟩ := t.places x hx
    have n1 : w ≠ x.1 := fun e => hw (e ▸ h1)
    have n2 : w ≠ x.2.1 := fun e => hw (e ▸ h2)
    constructor
    · rintro ⟨a, b⟩
      rcases j with ⟨c, d⟩ | ⟨c, d⟩
      · exact n2 (d.symm.trans b)
      · exact n1 (c.symm.trans a)
    · rintro ⟨a, b⟩
      rcases j with ⟨c, d⟩ | ⟨c, d⟩
      · exact n1 (d.symm.trans b)
      · exact n2 (c.symm.trans a)
end Tw
namespace Tw
def rowI (r : Road) : List Int := [r.1, r.2.1, r.2.2]
def isRoadB (n : Int) (z : List Int) : Bool := match z with
  | [a, b, l] => decide (0 ≤ a/\a < n) && decide (0 ≤ b/\b < n) && !decide (a = b) && decide (1 ≤ l)
  | _ => false
structure Valid (n : Int) (r : Road) : Prop where
  a0 : 0 ≤ r.1
  a1 : r.1 < n
  b0 : 0 ≤ r.2.1
  b1 : r.2.1 < n
  ne : r.1 ≠ r.2.1
  l1 : 1 ≤ r.2.2
theorem isRoad_iff {n : Int} {z : List Int} : isRoadB n z = true<->∃ r, z = rowI r/\Valid n r := by
  constructor
  · intro h
    unfold isRoadB at h
    split at h
    · rename_i a b l
      simp only [Bool.and_eq_true, decide_eq_true_eq, Bool.not_eq_true', decide_eq_false_iff_not] at h
      obtain ⟨⟨⟨h1, h2⟩, h3⟩, h4⟩ := h
      exact ⟨(a, b, l), rfl, ⟨h1.1, h1.2, h2.1, h2.2, h3, h4⟩⟩
    · cases h
  · rintro ⟨⟨a, b, l⟩, rfl, v⟩
    have := v.a0; have := v.a1; have := v.b0; have := v.b1; have := v.ne; have := v.l1
    simp only at *
    simp [isRoadB, rowI, *]
theorem rows_roads {n : Int} : ∀ {zss : List (List Int)}, (zss.all (isRoadB n)) = true->∃ rs : List Road, zss = rs.map rowI/\∀ r ∈ rs, Valid n r
  | [], _ => ⟨[], rfl, fun r h => nomatch h⟩
  | z :: t, h => by
    rw [List.all_cons, Bool.and_eq_true] at h
    obtain ⟨r, e, v⟩ := isRoad_iff.mp h.1
    obtain ⟨rs, e2, v2⟩ := rows_roads h.2
    exact ⟨r :: rs, by rw [e, e2]; rfl, fun x hx => by
      rcases List.mem_cons.mp hx with e | hx
      · subst e; exact v
      · exact v2 x hx⟩
theorem rowI_inj {r q : Road} (h : rowI r = rowI q) : r = q := by
  obtain ⟨a, b, c⟩ := r; obtain ⟨d, e, f⟩ := q
  unfold rowI at h
  simp only [List.cons.injEq] at h
  obtain ⟨h1, h2, h3, _⟩ := h
  subst h1; subst h2; subst h3
  rfl
theorem all_roads {n : Int} {rs : List Road} : ((rs.map rowI).all (isRoadB n)) = true<->∀ r ∈ rs, Valid n r := by
  rw [List.all_eq_true]
  constructor
  · intro h r hr
    obtain ⟨q, e, v⟩ := isRoad_iff.mp (h (rowI r) (List.mem_map.mpr ⟨r, hr, rfl⟩))
    rw [rowI_inj e]; exact v
  · intro h z hz
    obtain ⟨r, hr, rfl⟩ := List.mem_map.mp hz
    exact isRoad_iff.mpr ⟨r, rfl, h r hr⟩
def Conn (n : Int) (rs : List Road) : Prop := ∀ P : Int->Prop, P 0->(∀ r ∈ rs, P r.1<->P r.2.1)->∀ v, 0 ≤ v->v < n->P v
structure IsTree (n : Int) (zss : List (List Int)) : Prop where
  lo : 1 ≤ n
  hi : n ≤ 12
  len : (zss.length : Int) = n - 1
  ex : ∃ rs : List Road, zss = rs.map rowI/\(∀ r ∈ rs, Valid n r)/\Conn n rs
def put (d : List (Int × Int)) (k v : Int) : List (Int × Int) :=
  if (d.any fun p => decide (p.1 = k)) = true then d.map (fun p => if p.1 = k then (p.1, v) else p) else d ++ [(k, v)]
def nb1 (v : Int) (d : List (Int × Int)) (r : Road) : List (Int × Int) :=
  if r.1 = v then put d r.2.1 r.2.2 else if r.2.1 = v then put d r.1 r.2.2 else d
def nbOf (rs : List Road) (v : Int) : List (Int × Int) := rs.foldl (nb1 v) []
theorem nbOf_snoc (rs : List Road) (r : Road) (v : Int) : nbOf (rs ++ [r]) v = nb1 v (nbOf rs v) r := by
  unfold nbOf; rw [List.foldl_append]; rfl
theorem put_keys (d : List (Int × Int)) (k v : Int) (x : Int) : x ∈ (put d k v).map (·.1)<->x ∈ d.map (·.1) ∨ x = k := by
  unfold put
  split
  · rename_i h
    have e : (d.map fun p => if p.1 = k then (p.1, v) else p).map (·.1) = d.map (·.1) := by
      rw [List.map_map]
      refine List.map_congr_left fun p _ => ?_
      simp only [Function.comp]
      split <;> rfl
    rw [e]
    constructor
    · exact .inl
    · rintro (h' | h')
      · exact h'
      · obtain ⟨p, hp, e⟩ := List.any_eq_true.mp h
        exact List.mem_map.mpr ⟨p, hp, (of_decide_eq_true e).trans h'.symm⟩
  · rw [List.map_append, List.mem_append]
    simp
theorem put_nodup {d : List (Int × Int)} (k v : Int) (h : (d.map (·.1)).Nodup) : ((put d k v).map (·.1)).Nodup := by
  unfold put
  split
  · have e : (d.map fun p => if p.1 = k then (p.1, v) else p).map (·.1) = d.map (·.1) := by
      rw [List.map_map]
      refine List.map_congr_left fun p _ => ?_
      simp only [Function.comp]
      split <;> rfl
    rw [e]; exact h
  · rename_i hn
    rw [List.map_append]
    refine List.nodup_append.mpr ⟨h, by simp, ?_⟩
    intro a ha b hb e
    simp only [List.map_cons, List.map_nil, List.mem_singleton] at hb
    obtain ⟨p, hp, ep⟩ := List.mem_map.mp ha
    exact hn (List.any_eq_true.mpr ⟨p, hp, decide_eq_true (by rw [ep, e, hb])⟩)
theorem put_length (d : List (Int × Int)) (k v : Int) : (put d k v).length ≤ d.length + 1 := by
  unfold put
  split
  · rw [List.length_map]; omega
  · rw [List.length_append]; simp
theorem nbOf_nodup (v : Int) : ∀ rs : List Road, ((nbOf rs v).map (·.1)).Nodup := by
  intro rs
  have gen : ∀ (rs : List Road) (d : List (Int × Int)), (d.map (·.1)).Nodup->((rs.foldl (nb1 v) d).map (·.1)).Nodup := by
    intro rs
    induction rs with
    | nil => intro d h; exact h
    | cons r t ih =>
      intro d h
      rw [List.foldl_cons]
      refine ih _ ?_
      unfold nb1
      split
      · exact put_nodup _ _ h
      · split
        · exact put_nodup _ _ h
        · exact h
  exact gen rs [] (by simp)
def Adj (rs : List Road) (u w : Int) : Prop := ∃ r ∈ rs, Joins r u w
theorem nbOf_keys (rs : List Road) (v x : Int) : x ∈ (nbOf rs v).map (·.1)<->Adj rs v x := by
  have gen : ∀ (rs : List Road) (d : List (Int × Int)), x ∈ (rs.foldl (nb1 v) d).map (·.1)<->x ∈ d.map (·.1) ∨ Adj rs v x := by
    intro rs
    induction rs with
    | nil => intro d; exact ⟨.inl, fun h => h.elim id (fun ⟨r, h, _⟩ => nomatch h)⟩
    | cons r t ih =>
      intro d
      rw [List.foldl_cons, ih]
      have adj : Adj (r :: t) v x<->Joins r v x ∨ Adj t v x := by
        constructor
        · rintro ⟨q, hq, j⟩
          rcases List.mem_cons.mp hq with e | hq
          · subst e; exact .inl j
          · exact .inr ⟨q, hq, j⟩
        · rintro (j | ⟨q, hq, j⟩)
          · exact ⟨r, List.mem_cons_self, j⟩
          · exact ⟨q, List.mem_cons_of_mem _ hq, j⟩
      rw [adj]
      have one : x ∈ (nb1 v d r).map (·.1)<->x ∈ d.map (·.1) ∨ (Joins r v x) ∨ (r.1 = v/\r.2.1 = v/\False) := by
        unfold nb1 Joins
        split
        · rename_i h1
          rw [put_keys]
          constructor
          · rintro (h | h)
            · exact .inl h
            · exact .inr (.inl (.inl ⟨h1, h.symm⟩))
          · rintro (h | (⟨h, h'⟩ | ⟨h, h'⟩) | ⟨_, _, h⟩)
            · exact .inl h
            · exact .inr h'.symm
            · exact .inr (by omega)
            · exact h.elim
        · rename_i h1
          split
          · rename_i h2
            rw [put_keys]
            constructor
            · rintro (h | h)
              · exact .inl h
              · exact .inr (.inl (.inr ⟨h.symm, h2⟩))
            · rintro (h | (⟨h, h'⟩ | ⟨h, h'⟩) | ⟨_, _, h⟩)
              · exact .inl h
              · exact absurd h h1
              · exact .inr h.symm
              · exact h.elim
          · rename_i h2
            constructor
            · exact .inl
            · rintro (h | (⟨h, h'⟩ | ⟨h, h'⟩) | ⟨_, _, h⟩)
              · exact h
              · exact absurd h h1
              · exact absurd h' h2
              · exact h.elim
      rw [one]
      constructor
      · rintro ((h | h | ⟨_, _, h⟩) | h)
        · exact .inl h
        · exact .inr (.inl h)
        · exact h.elim
        · exact .inr (.inr h)
      · rintro (h | h | h)
        · exact .inl (.inl h)
        · exact .inl (.inr (.inl h))
        · exact .inr h
  have := gen rs []
  unfold nbOf
  rw [this]
  simp
theorem nbOf_length_le (rs : List Road) (v : Int) : (nbOf rs v).length ≤ rs.length := by
  have gen : ∀ (rs : List Road) (d : List (Int × Int)), (rs.foldl (nb1 v) d).length ≤ d.length + rs.length := by
    intro rs
    induction rs with
    | nil => intro d; exact Nat.le_refl _
    | cons r t ih =>
      intro d
      rw [List.foldl_cons]
      refine Nat.le_trans (ih _) ?_
      have : (nb1 v d r).length ≤ d.length + 1 := by
        unfold nb1
        split
        · exact put_length _ _ _
        · split
          · exact put_length _ _ _
          · omega
      rw [List.length_cons]; omega
  have q := gen rs []
  rw [List.length_nil, Nat.zero_add] at q
  exact q
theorem nbOf_length {rs : List Road} (ap : rs.Pairwise Apart) (hv : ∀ r ∈ rs, r.1 ≠ r.2.1) (v : Int) : (nbOf rs v).length = deg rs v := by
  have gen : ∀ (l : List Road) (pre : List Road), (pre ++ l).Pairwise Apart->(∀ r ∈ pre ++ l, r.1 ≠ r.2.1)->(nbOf pre v).length = deg pre v->(nbOf (pre ++ l) v).length = deg (pre ++ l) v := by
    intro l
    induction l with
    | nil => intro pre _ _ h; rw [List.append_nil]; exact h
    | cons r t ih =>
      intro pre hp hne h
      have e : pre ++ r :: t = (pre ++ [r]) ++ t := by simp
      rw [e] at hp hne ⊢
      refine ih (pre ++ [r]) hp hne ?_
      have hp1 : (pre ++ [r]).Pairwise Apart := (List.pairwise_append.mp hp).1
      have hap : ∀ q ∈ pre, Apart q r := fun q hq => (List.pairwise_append.mp hp1).2.2 q hq r (by simp)
      have hr : r.1 ≠ r.2.1 := hne r (by simp)
      have new : ∀ x, Joins r v x->¬ x ∈ (nbOf pre v).map (·.1) := fun x j hx => by
        obtain ⟨q, hq, j'⟩ := (nbOf_keys pre v x).mp hx
        obtain ⟨a1, a2⟩ := hap q hq
        rcases j with ⟨c, d⟩ | ⟨c, d⟩ <;> rcases j' with ⟨c', d'⟩ | ⟨c', d'⟩
        · exact a1 ⟨by omega, by omega⟩
        · exact a2 ⟨by omega, by omega⟩
        · exact a2 ⟨by omega, by omega⟩
        · exact a1 ⟨by omega, by omega⟩
      have plen : ∀ x y, ¬ x ∈ (nbOf pre v).map (·.1)->(put (nbOf pre v) x y).length = (nbOf pre v).length + 1 := fun x y hx => by
        unfold put
        rw [if_neg]
        · simp
        · intro h
          obtain ⟨p, hp, e⟩ := List.any_eq_true.mp h
          exact hx (List.mem_map.mpr ⟨p, hp, of_decide_eq_true e⟩)
      rw [nbOf_snoc]
      have hd : deg (pre ++ [r]) v = deg pre v + if inc v r = true then 1 else 0 := by
        unfold deg; rw [List.countP_append, List.countP_cons, List.countP_nil]; omega
      rw [hd]
      unfold nb1
      split
      · rename_i h1
        rw [plen _ _ (new _ (.inl ⟨h1, rfl⟩)), h, if_pos (inc_iff.mpr (.inl h1))]
      · rename_i h1
        split
        · rename_i h2
          rw [plen _ _ (new _ (.inr ⟨rfl, h2⟩)), h, if_pos (inc_iff.mpr (.inr h2))]
        · rename_i h2
          rw [if_neg (fun hi => (inc_iff.mp hi).elim h1 h2), h]; rfl
  have := gen rs [] (by simpa using ap) (by simpa using hv) rfl
  simpa using this
structure Srch (n : Nat) (nb : Int->List (Int × Int)) (g : Int) (k : Nat) (st : List (Int × Int)) : Prop where
  first : st[0]? = some (g, g)
  nd : (st.map (·.1)).Nodup
  rng : ∀ p ∈ st, 0 ≤ p.1/\p.1 < n
  par : ∀ i p q, st[i]? = some (p, q)->0 < i->∃ j, j < i/\j < k/\(st.map (·.1))[j]? = some q/\p ∈ (nb q).map (·.1)
  clo : ∀ j q, j < k->(st.map (·.1))[j]? = some q->∀ p ∈ (nb q).map (·.1), p ∈ st.map (·.1)
theorem Srch.length {n : Nat} {nb : Int->List (Int × Int)} {g : Int} {k : Nat} {st : List (Int × Int)} (s : Srch n nb g k st) : st.length ≤ n := by
  have h : ∀ (m : Nat) (l : List Int), l.Nodup->(∀ x ∈ l, 0 ≤ x/\x < m)->l.length ≤ m := by
    intro m
    induction m with
    | zero =>
      intro l _ h
      cases l with
      | nil => exact Nat.le_refl _
      | cons x t => have := h x (by simp); omega
    | succ m ih =>
      intro l hn h
      by_cases hm : ((m : Nat) : Int) ∈ l
      · have hp := List.perm_cons_erase hm
        rw [hp.length_eq, List.length_cons]
        have hn' := hp.nodup_iff.mp hn
        obtain ⟨h1, h2⟩ := List.nodup_cons.mp hn'
        have := ih (l.erase (m : Int)) h2 fun x hx => by
          have hx' := List.mem_of_mem_erase hx
          have b := h x hx'
          have : x ≠ (m : Int) := fun e => h1 (e ▸ hx)
          omega
        omega
      · have := ih l hn fun x hx => by
          have b := h x hx
          have : x ≠ (m : Int) := fun e => hm (e ▸ hx)
          omega
        omega
  have := h n (st.map (·.1)) s.nd fun x hx => by
    obtain ⟨p, hp, e⟩ := List.mem_map.mp hx
    rw [← e]; exact s.rng p hp
  simpa using this
theorem full_of_length : ∀ (m : Nat) (l : List Int), l.Nodup->(∀ x ∈ l, 0 ≤ x/\x < m)->l.length = m->∀ v : Int, 0 ≤ v->v < (m : Int)->v ∈ l := by
  intro m
  induction m with
  | zero => intro l _ _ _ v h1 h2; omega
  | succ m ih =>
    intro l hn h hl v h1 h2
    have hm : ((m : Nat) : Int) ∈ l := by
      refine Classical.byContradiction fun hm => ?_
      have : l.length ≤ m := by
        have key : ∀ (m : Nat) (l : List Int), l.Nodup->(∀ x ∈ l, 0 ≤ x/\x < m)->l.length ≤ m := by
          intro m
          induction m with
          | zero =>
            intro l _ h
            cases l with
            | nil => exact Nat.le_refl _
            | cons x t => have := h x (by simp); omega
          | succ m ih =>
            intro l hn h
            by_cases hm : ((m : Nat) : Int) ∈ l
            · have hp := List.perm_cons_erase hm
              rw [hp.length_eq, List.length_cons]
              obtain ⟨h1, h2⟩ := List.nodup_cons.mp (hp.nodup_iff.mp hn)
              have := ih (l.erase (m : Int)) h2 fun x hx => by
                have b := h x (List.mem_of_mem_erase hx)
                have : x ≠ (m : Int) := fun e => h1 (e ▸ hx)
                omega
              omega
            · have := ih l hn fun x hx => by
                have b := h x hx
                have : x ≠ (m : Int) := fun e => hm (e ▸ hx)
                omega
              omega
        exact key m l hn fun x hx => by
          have b := h x hx
          have : x ≠ (m : Int) := fun e => hm (e ▸ hx)
          omega
      omega
    by_cases hv : v = (m : Int)
    · rw [hv]; exact hm
    · have hp := List.perm_cons_erase hm
      obtain ⟨h3, h4⟩ := List.nodup_cons.mp (hp.nodup_iff.mp hn)
      have q := ih (l.erase (m : Int)) h4 (fun x hx => by
        have b := h x (List.mem_of_mem_erase hx)
        have : x ≠ (m : Int) := fun e => h3 (e ▸ hx)
        omega) (by have := hp.length_eq; rw [List.length_cons] at this; omega) v h1 (by omega)
      exact List.mem_of_mem_erase q
theorem Srch.conn {n : Nat} {rs : List Road} {st : List (Int × Int)} (s : Srch n (nbOf rs) 0 st.length st) (hn : 1 ≤ n) : (st.length = n<->Conn n rs) := by
  have mem0 : (0 : Int) ∈ st.map (·.1) := List.mem_map.mpr ⟨(0, 0), List.mem_of_getElem? s.first, rfl⟩
  constructor
  · intro hl P p0 hP v h1 h2
    have hv := full_of_length n (st.map (·.1)) s.nd (fun x hx => by
      obtain ⟨p, hp, e⟩ := List.mem_map.mp hx
      rw [← e]; exact s.rng p hp) (by simpa using hl) v h1 h2
    have all : ∀ (i : Nat) (p : Int), (st.map (·.1))[i]? = some p->P p := by
      intro i
      induction i using Nat.strongRecOn with
      | _ i ih =>
        intro p hp
        rw [List.getElem?_map] at hp
        cases e : st[i]? with
        | none => rw [e] at hp; cases hp
        | some pq =>
          obtain ⟨a, b⟩ := pq
          rw [e] at hp
          have ea : a = p := by simpa using hp
          subst ea
          by_cases hi : 0 < i
          · obtain ⟨j, hj, _, hq, hk⟩ := s.par i a b e hi
            have pb := ih j hj b hq
            obtain ⟨r, hr, jn⟩ := (nbOf_keys rs b a).mp hk
            rcases jn with ⟨c, d⟩ | ⟨c, d⟩
            · have := (hP r hr).mp (by rw [c]; exact pb); rw [d] at this; exact this
            · have := (hP r hr).mpr (by rw [d]; exact pb); rw [c] at this; exact this
          · have hi0 : i = 0 := by omega
            subst hi0
            rw [s.first] at e
            cases e
            exact p0
    obtain ⟨i, hi⟩ := List.mem_iff_getElem?.mp hv
    exact all i v hi
  · intro h
    have cl : ∀ v, 0 ≤ v->v < (n : Int)->v ∈ st.map (·.1) := by
      intro v h1 h2
      refine h (fun v => v ∈ st.map (·.1)) mem0 (fun r hr => ?_) v h1 h2
      have go : ∀ a b, Joins r a b->a ∈ st.map (·.1)->b ∈ st.map (·.1) := fun a b j ha => by
        obtain ⟨i, hi⟩ := List.mem_iff_getElem?.mp ha
        have hil : i < st.length := by
          have := (List.getElem?_eq_some_iff.mp hi).1
          simpa using this
        exact s.clo i a hil hi b ((nbOf_keys rs a b).mpr ⟨r, hr, j⟩)
      exact ⟨go _ _ (.inl ⟨rfl, rfl⟩), go _ _ (.inr ⟨rfl, rfl⟩)⟩
    have le := s.length
    have ge : n ≤ st.length := by
      have sub : ∀ (m : Nat) (l : List Int), (∀ v, 0 ≤ v->v < (m : Int)->v ∈ l)->m ≤ l.length := by
        intro m
        induction m with
        | zero => intro l _; omega
        | succ m ih =>
          intro l hl
          have hm := hl m (by omega) (by omega)
          have hp := List.perm_cons_erase hm
          rw [hp.length_eq, List.length_cons]
          have := ih (l.erase (m : Int)) fun v h1 h2 => (List.mem_erase_of_ne (by omega)).mpr (hl v h1 (by omega))
          omega
      have := sub n (st.map (·.1)) cl
      simpa using this
    omega
theorem Srch.start {n : Nat} {nb : Int->List (Int × Int)} {g : Int} (h0 : 0 ≤ g) (h1 : g < n) : Srch n nb g 0 [(g, g)] := by
  refine ⟨rfl, by simp, fun p hp => ?_, fun i p q h hi => ?_, fun j q hj => absurd hj (Nat.not_lt_zero _)⟩
  · rw [List.mem_singleton.mp hp]; exact ⟨h0, h1⟩
  · cases i with
    | zero => omega
    | succ i => simp at h
structure Mid (n : Nat) (nb : Int->List (Int × Int)) (g : Int) (k i : Nat) (q : Int) (st : List (Int × Int)) : Prop where
  first : st[0]? = some (g, g)
  nd : (st.map (·.1)).Nodup
  rng : ∀ p ∈ st, 0 ≤ p.1/\p.1 < n
  par : ∀ i p q, st[i]? = some (p, q)->0 < i->∃ j, j < i/\j < k + 1/\(st.map (·.1))[j]? = some q/\p ∈ (nb q).map (·.1)
  clo : ∀ j q, j < k->(st.map (·.1))[j]? = some q->∀ p ∈ (nb q).map (·.1), p ∈ st.map (·.1)
  here : (st.map (·.1))[k]? = some q
  seen : ∀ p ∈ ((nb q).map (·.1)).take i, p ∈ st.map (·.1)
theorem Srch.mid {n : Nat} {nb : Int->List (Int × Int)} {g : Int} {k : Nat} {st : List (Int × Int)} {q : Int} (s : Srch n nb g k st) (h : (st.map (·.1))[k]? = some q) : Mid n nb g k 0 q st :=
  ⟨s.first, s.nd, s.rng, fun i p q h hi => let ⟨j, a, b, c⟩ := s.par i p q h hi; ⟨j, a, Nat.lt_succ_of_lt b, c⟩, s.clo, h, fun p hp => by simp at hp⟩
theorem Mid.old {n : Nat} {nb : Int->List (Int × Int)} {g : Int} {k i : Nat} {q p : Int} {st : List (Int × Int)} (s : Mid n nb g k i q st) (hi : ((nb q).map (·.1))[i]? = some p) (hp : p ∈ st.map (·.1)) : Mid n nb g k (i + 1) q st :=
  ⟨s.first, s.nd, s.rng, s.par, s.clo, s.here, fun x hx => by
    rw [List.take_add_one, hi, List.mem_append] at hx
    rcases hx with hx | hx
    · exact s.seen x hx
    · have : x = p := by simpa using hx
      rw [this]; exact hp⟩
theorem Mid.new {n : Nat} {nb : Int->List (Int × Int)} {g : Int} {k i : Nat} {q p : Int} {st : List (Int × Int)} (s : Mid n nb g k i q st) (hi : ((nb q).map (·.1))[i]? = some p) (hp : p ∉ st.map (·.1)) (h0 : 0 ≤ p) (h1 : p < n) : Mid n nb g k (i + 1) q (st ++ [(p, q)]) := by
  have hkl : k < st.length := by
    have := (List.getElem?_eq_some_iff.mp s.here).1
    simpa using this
  have em : (st ++ [(p, q)]).map (·.1) = st.map (·.1) ++ [p] := by rw [List.map_append]; rfl
  have old : ∀ {j : Nat} {x : Int}, (st.map (·.1))[j]? = some x->(st.map (·.1) ++ [p])[j]? = some x := fun {j x} h => by
    rw [List.getElem?_append_left (List.getElem?_eq_some_iff.mp h).1]; exact h
  refine ⟨?_, ?_, ?_, ?_, ?_, ?_, ?_⟩
  · rw [List.getElem?_append_left (by omega)]; exact s.first
  · rw [em]
    refine List.nodup_append.mpr ⟨s.nd, by simp, ?_⟩
    intro a ha b hb e
    have : b = p := by simpa using hb
    exact hp (by rw [← this, ← e]; exact ha)
  · intro x hx
    rcases List.mem_append.mp hx with hx | hx
    · exact s.rng x hx
    · rw [List.mem_singleton.mp hx]; exact ⟨h0, h1⟩
  · intro j a b h hj
    rw [em]
    by_cases hjl : j < st.length
    · rw [List.getElem?_append_left hjl] at h
      obtain ⟨t, t1, t2, t3, t4⟩ := s.par j a b h hj
      exact ⟨t, t1, t2, old t3, t4⟩
    · rw [List.getElem?_append_right (by omega)] at h
      have hz : j - st.length = 0 := by
        have := (List.getElem?_eq_some_iff.mp h).1
        simp at this; omega
      rw [hz] at h
      have e : (p, q) = (a, b) := by simpa using h
      cases e
      exact ⟨k, by omega, Nat.lt_succ_self _, old s.here, List.mem_of_getElem? hi⟩
  · intro j x hj hx y hy
    rw [em] at hx ⊢
    have hjl : j < (st.map (·.1)).length := by rw [List.length_map]; omega
    rw [List.getElem?_append_left hjl] at hx
    exact List.mem_append_left _ (s.clo j x hj hx y hy)
  · rw [em]; exact old s.here
  · intro x hx
    rw [em]
    rw [List.take_add_one, hi, List.mem_append] at hx
    rcases hx with hx | hx
    · exact List.mem_append_left _ (s.seen x hx)
    · have : x = p := by simpa using hx
      rw [this]; exact List.mem_append_right _ (by simp)
theorem Mid.done {n : Nat} {nb : Int->List (Int × Int)} {g : Int} {k i : Nat} {q : Int} {st : List (Int × Int)} (s : Mid n nb g k i q st) (hi : i = (nb q).length) : Srch n nb g (k + 1) st := by
  refine ⟨s.first, s.nd, s.rng, s.par, fun j x hj hx p hp => ?_⟩
  by_cases hjk : j < k
  · exact s.clo j x hjk hx p hp
  · have e : j = k := by omega
    subst e
    rw [s.here] at hx
    cases hx
    exact s.seen p (by rw [List.take_of_length_le (by simp [hi])]; exact hp)
end Tw
namespace Tw
def pl (n : Nat) : List Int := (List.range n).map fun i => ((i : Nat) : Int)
theorem mem_pl {n : Nat} {v : Int} : v ∈ pl n<->0 ≤ v/\v < n := by
  unfold pl
  rw [List.mem_map]
  constructor
  · rintro ⟨i, hi, rfl⟩
    have := List.mem_range.mp hi
    omega
  · rintro ⟨h1, h2⟩
    exact ⟨v.toNat, List.mem_range.mpr (by omega), by omega⟩
theorem pl_length (n : Nat) : (pl n).length = n := by unfold pl; simp
theorem pl_succ (n : Nat) : pl (n + 1) = pl n ++ [(n : Int)] := by
  unfold pl
  rw [List.range_succ, List.map_append]; rfl
theorem pl_get {n i : Nat} (h : i < n) : (pl n)[i]? = some (i : Int) := by
  unfold pl
  rw [List.getElem?_map, List.getElem?_range h]; rfl
theorem pl_nodup (n : Nat) : (pl n).Nodup := by
  induction n with
  | zero => unfold pl; simp
  | succ n ih =>
    rw [pl_succ]
    refine List.nodup_append.mpr ⟨ih, by simp, ?_⟩
    intro a ha b hb e
    have := mem_pl.mp ha
    have hb' : b = (n : Int) := by simpa using hb
    omega
theorem ins_perm {α : Type} (l : List α) (j : Nat) (x : α) : (l.take j ++ x :: l.drop j).Perm (x :: l) := by
  have := List.perm_middle (a := x) (l₁ := l.take j) (l₂ := l.drop j)
  rw [List.take_append_drop] at this
  exact this
theorem names_step {l : List Int} {k : Nat} (h : l.Perm (pl k)) (j : Nat) : (l.take j ++ (k : Int) :: l.drop j).Perm (pl (k + 1)) := by
  refine (ins_perm l j _).trans ?_
  rw [pl_succ]
  exact (h.cons _).trans (List.perm_append_comm (l₁ := [(k : Int)]) (l₂ := pl k))
structure Tree (n : Nat) (rs : List Road) : Prop where
  lo : 1 ≤ n
  hi : n ≤ 12
  tr : Tr rs (pl n)
  len : ∀ r ∈ rs, 1 ≤ r.2.2
theorem Tree.length {n : Nat} {rs : List Road} (t : Tree n rs) : rs.length + 1 = n := by
  have := t.tr.length
  rw [pl_length] at this; exact this
theorem Tree.valid {n : Nat} {rs : List Road} (t : Tree n rs) : ∀ r ∈ rs, Valid n r := fun r hr => by
  obtain ⟨h1, h2, h3⟩ := t.tr.places r hr
  have a := mem_pl.mp h1
  have b := mem_pl.mp h2
  exact ⟨a.1, a.2, b.1, b.2, h3, t.len r hr⟩
theorem Tree.conn {n : Nat} {rs : List Road} (t : Tree n rs) : Conn n rs := fun P p0 hP v h1 h2 => by
  have lo := t.lo
  exact t.tr.whole hP 0 (mem_pl.mpr ⟨by omega, by omega⟩) v (mem_pl.mpr ⟨h1, h2⟩) p0
theorem Tree.isTree {n : Nat} {rs : List Road} (t : Tree n rs) : IsTree n (rs.map rowI) := by
  have := t.lo; have := t.hi; have hl := t.length
  refine ⟨by omega, by omega, ?_, rs, rfl, t.valid, t.conn⟩
  rw [List.length_map]; omega
theorem Tree.nb {n : Nat} {rs : List Road} (t : Tree n rs) (v : Int) : (nbOf rs v).length = deg rs v := nbOf_length t.tr.apart (fun r hr => (t.tr.places r hr).2.2) v
theorem grow_step {rs : List Road} {names : List Int} {k o : Nat} (t : Tr rs (names.take k)) (nd : names.Nodup) (ho : o < k) (hk : k < names.length) {u w : Int} (hu : names[o]? = some u) (hw : names[k]? = some w) {r : Road} (j : Joins r u w) (i : Nat) : Tr (rs.take i ++ r :: rs.drop i) (names.take (k + 1)) := by
  have e : names.take (k + 1) = names.take k ++ [w] := by rw [List.take_add_one, hw]; rfl
  refine .hang t (u := u) (w := w) (r := r) ?_ ?_ j (ins_perm rs i r) ?_
  · refine List.mem_iff_getElem?.mpr ⟨o, ?_⟩
    rw [List.getElem?_take_of_lt ho]; exact hu
  · intro hm
    have nd' : (names.take (k + 1)).Nodup := nd.sublist (List.take_sublist _ _)
    rw [e] at nd'
    exact (List.nodup_append.mp nd').2.2 w hm w (by simp) rfl
  · rw [e]; exact List.perm_append_comm (l₁ := names.take k) (l₂ := [w])
end Tw
namespace Tw
open PySem L2
def zV (z : List Int) : List V := z.map V.int
structure RowsAt (H : Hp) (a : Addr) (as : List Addr) (zss : List (List Int)) : Prop where
  top : H a = some (.lst (as.map V.ref))
  len : as.length = zss.length
  row : ∀ (i : Nat) (p : Addr) (z : List Int), as[i]? = some p->zss[i]? = some z->H p = some (.lst (zV z))
theorem RowsAt.mono {H H' : Hp} {a : Addr} {as : List Addr} {zss : List (List Int)} (h : RowsAt H a as zss) (s : Same H H') : RowsAt H' a as zss :=
  ⟨s _ _ h.top, h.len, fun i p z e1 e2 => s _ _ (h.row i p z e1 e2)⟩
theorem RowsAt.get {H : Hp} {a : Addr} {as : List Addr} {zss : List (List Int)} (h : RowsAt H a as zss) {i : Nat} {z : List Int} (e : zss[i]? = some z) : ∃ p, as[i]? = some p/\H p = some (.lst (zV z)) := by
  have hi : i < as.length := by rw [h.len]; exact (List.getElem?_eq_some_iff.mp e).1
  exact ⟨as[i], by simp [hi], h.row i _ z (by simp [hi]) e⟩
theorem lst_inj {xs ys : List V} (h : HO.lst xs = HO.lst ys) : xs = ys := by injection h
theorem RowsAt.ne_top {H : Hp} {a : Addr} {as : List Addr} {zss : List (List Int)} (h : RowsAt H a as zss) (hz : ∀ z ∈ zss, z ≠ []) : a ∉ as := fun hm => by
  obtain ⟨i, hi⟩ := List.mem_iff_getElem?.mp hm
  have hil : i < zss.length := by rw [← h.len]; exact (List.getElem?_eq_some_iff.mp hi).1
  have q := h.row i a zss[i] hi (by simp [hil])
  rw [h.top] at q
  have e := lst_inj (Option.some.inj q)
  have hne := hz _ (List.getElem_mem hil)
  cases hzz : zss[i] with
  | nil => exact hne hzz
  | cons x t =>
    rw [hzz] at e
    cases as with
    | nil => simp [zV] at e
    | cons b bs => simp [zV] at e
structure RoadsAt (H : Hp) (a : Addr) (as : List Addr) (rs : List Road) : Prop where
  rows : RowsAt H a as (rs.map rowI)
  nd : as.Nodup
theorem RoadsAt.mono {H H' : Hp} {a : Addr} {as : List Addr} {rs : List Road} (h : RoadsAt H a as rs) (s : Same H H') : RoadsAt H' a as rs := ⟨h.rows.mono s, h.nd⟩
theorem RoadsAt.len {H : Hp} {a : Addr} {as : List Addr} {rs : List Road} (h : RoadsAt H a as rs) : as.length = rs.length := by have := h.rows.len; rw [List.length_map] at this; exact this
theorem RoadsAt.ne_top {H : Hp} {a : Addr} {as : List Addr} {rs : List Road} (h : RoadsAt H a as rs) : a ∉ as := h.rows.ne_top fun z hz => by
  obtain ⟨r, _, rfl⟩ := List.mem_map.mp hz
  simp [rowI]
def dV (d : List (Int × Int)) : List (Key × V) := d.map fun p => (Sum.inl p.1, V.int p.2)
theorem dV_length (d : List (Int × Int)) : (dV d).length = d.length := by unfold dV; simp
theorem dV_put (d : List (Int × Int)) (k v : Int) : putK (dV d) (Sum.inl k : Key) (V.int v) = dV (put d k v) := by
  have e : ((dV d).any fun kv => decide (kv.1 = (Sum.inl k : Key))) = d.any fun p => decide (p.1 = k) := by
    unfold dV
    rw [List.any_map]
    congr 1
    funext p
    simp only [Function.comp]
    rw [key_ll]
    by_cases h : p.1 = k
    · simp [h]
    · simp [h]
  unfold putK put
  rw [e]
  split
  · unfold dV
    rw [List.map_map, List.map_map]
    refine List.map_congr_left fun p _ => ?_
    simp only [Function.comp]
    by_cases h : p.1 = k
    · rw [if_pos (by rw [h]), if_pos h]
    · rw [if_neg (fun q => h (Sum.inl.inj q)), if_neg h]
  · unfold dV
    rw [List.map_append]; rfl
theorem dV_val (d : List (Int × Int)) (k : Int) : (valV (dV d) (Sum.inl k : Key)).isSome = decide (k ∈ d.map (·.1)) := by
  rw [← valV_any]
  unfold dV
  rw [List.any_map, Bool.eq_iff_iff, List.any_eq_true, decide_eq_true_iff, List.mem_map]
  constructor
  · rintro ⟨p, hp, e⟩
    exact ⟨p, hp, Sum.inl.inj (of_decide_eq_true e)⟩
  · rintro ⟨p, hp, e⟩
    exact ⟨p, hp, decide_eq_true (by show (Sum.inl p.1 : Key) = Sum.inl k; rw [e])⟩
theorem put_new {d : List (Int × Int)} {k v : Int} (h : k ∉ d.map (·.1)) : put d k v = d ++ [(k, v)] := by
  unfold put
  rw [if_neg]
  intro q
  obtain ⟨p, hp, e⟩ := List.any_eq_true.mp q
  exact h (List.mem_map.mpr ⟨p, hp, of_decide_eq_true e⟩)
structure NearAt (H : Hp) (a : Addr) (ds : List Addr) (nr : List (List (Int × Int))) : Prop where
  top : H a = some (.lst (ds.map V.ref))
  len : ds.length = nr.length
  row : ∀ (i : Nat) (p : Addr) (d : List (Int × Int)), ds[i]? = some p->nr[i]? = some d->H p = some (.dK (dV d))
theorem NearAt.mono {H H' : Hp} {a : Addr} {as : List Addr} {nr : List (List (Int × Int))} (h : NearAt H a as nr) (s : Same H H') : NearAt H' a as nr :=
  ⟨s _ _ h.top, h.len, fun i p z e1 e2 => s _ _ (h.row i p z e1 e2)⟩
def nearOf (n : Nat) (rs : List Road) : List (List (Int × Int)) := (pl n).map (nbOf rs)
theorem nearOf_get {n : Nat} {rs : List Road} {i : Nat} (h : i < n) : (nearOf n rs)[i]? = some (nbOf rs (i : Int)) := by
  unfold nearOf
  rw [List.getElem?_map, pl_get h]; rfl
theorem nearOf_length (n : Nat) (rs : List Road) : (nearOf n rs).length = n := by unfold nearOf; rw [List.length_map, pl_length]
theorem same_upd {H : Hp} {p : Addr} {o : HO} (h : H p = none) : Same H (upd H p o) := fun b u e => by rw [upd_ne (ne_of_none e h)]; exact e
theorem Same.upd2 {H H' : Hp} {p : Addr} {o : HO} (s : Same H H') (h : H p = none) : Same H (upd H' p o) := fun b u e => by rw [upd_ne (ne_of_none e h)]; exact s b u e
theorem len12 {n : Nat} (h : n ≤ 1000) : n ≤ sizeLine := Nat.le_of_lt (small1000 h)
end Tw
namespace L2
open PySem PySem.Spec PyProof.Rows
theorem comp_range {lo : Int} {n : Nat} {tf : TT} {te : TE} {σ : St} {H1 : Hp} {D : Addr} {Q : Hp->Prop} (Pv : Nat->List V->Hp->Prop) (hD : ∀ i ys H, Pv i ys H->H D = some (.lst ys)) (h0 : Pv 0 [] (upd H1 D (.lst []))) (hs : ∀ i ys H, i < n->Pv i ys H->tf (σ ++ [some (.int (lo + i))]) H fun c H4 => if c = true then te (σ ++ [some (.int (lo + i))]) H4 fun z H5 => H5 D = some (.lst ys)/\ys.length < sizeLine/\Pv (i + 1) (ys ++ [z]) (upd H5 D (.lst (ys ++ [z]))) else Pv (i + 1) ys H4) (hd : ∀ ys H, Pv n ys H->Q H) : ∃ W : Nat->Nat->List V->Hp->Prop, (∃ m, W 0 m [] (upd H1 D (.lst [])))/\∀ i m ys H2, W i m ys H2->H2 D = some (.lst ys)/\(((Itr lo n).stop i H2/\Q H2) ∨ ((Itr lo n).go i H2/\∃ N : List V->Hp->Prop, (∀ ys' H', N ys' H'->∃ m', m' < m/\W (i + 1) m' ys' H')/\∀ y H3, (Itr lo n).yld i H2 y H3->tf (σ ++ [some y]) H3 fun c H4 => if c = true then te (σ ++ [some y]) H4 fun z H5 => H5 D = some (.lst ys)/\ys.length < sizeLine/\N (ys ++ [z]) (upd H5 D (.lst (ys ++ [z]))) else N ys H4)) := by
  refine ⟨fun i m ys H => m = n - i/\i ≤ n/\Pv i ys H, ⟨n, by simp, Nat.zero_le _, h0⟩, ?_⟩
  rintro i m ys H ⟨rfl, hi, p⟩
  refine ⟨hD i ys H p, ?_⟩
  by_cases hlt : i < n
  · refine .inr ⟨hlt, Pv (i + 1), fun ys' H' p' => ⟨n - (i + 1), by omega, rfl, hlt, p'⟩, fun y H' yl => ?_⟩
    obtain ⟨e, e2⟩ := yl
    subst e e2
    exact hs i ys _ hlt p
  · have e : i = n := by omega
    subst e
    exact .inl ⟨Nat.le_refl _, hd ys H p⟩
theorem comp_list {K : PySem.W.Frag} {a : Addr} {xs : List V} {tf : TT} {te : TE} {σ : St} {H1 : Hp} {D : Addr} {Q : Hp->Prop} (Pv : Nat->List V->Hp->Prop) (hD : ∀ i ys H, Pv i ys H->H D = some (.lst ys)/\SqL K H a xs) (h0 : Pv 0 [] (upd H1 D (.lst []))) (hs : ∀ i y ys H, xs[i]? = some y->Pv i ys H->tf (σ ++ [some y]) H fun c H4 => if c = true then te (σ ++ [some y]) H4 fun z H5 => H5 D = some (.lst ys)/\ys.length < sizeLine/\Pv (i + 1) (ys ++ [z]) (upd H5 D (.lst (ys ++ [z]))) else Pv (i + 1) ys H4) (hd : ∀ ys H, Pv xs.length ys H->Q H) : ∃ W : Nat->Nat->List V->Hp->Prop, (∃ m, W 0 m [] (upd H1 D (.lst [])))/\∀ i m ys H2, W i m ys H2->H2 D = some (.lst ys)/\(((Itl K a).stop i H2/\Q H2) ∨ ((Itl K a).go i H2/\∃ N : List V->Hp->Prop, (∀ ys' H', N ys' H'->∃ m', m' < m/\W (i + 1) m' ys' H')/\∀ y H3, (Itl K a).yld i H2 y H3->tf (σ ++ [some y]) H3 fun c H4 => if c = true then te (σ ++ [some y]) H4 fun z H5 => H5 D = some (.lst ys)/\ys.length < sizeLine/\N (ys ++ [z]) (upd H5 D (.lst (ys ++ [z]))) else N ys H4)) := by
  refine ⟨fun i m ys H => m = xs.length - i/\i ≤ xs.length/\Pv i ys H, ⟨xs.length, by simp, Nat.zero_le _, h0⟩, ?_⟩
  rintro i m ys H ⟨rfl, hi, p⟩
  obtain ⟨q1, q2⟩ := hD i ys H p
  refine ⟨q1, ?_⟩
  by_cases hlt : i < xs.length
  · refine .inr ⟨⟨xs, xs[i], q2, by simp [hlt]⟩, Pv (i + 1), fun ys' H' p' => ⟨xs.length - (i + 1), by omega, rfl, hlt, p'⟩, fun y H' yl => ?_⟩
    obtain ⟨e, yl⟩ := yl
    subst e
    exact hs i y ys _ (yl xs q2) p
  · have e : i = xs.length := by omega
    subst e
    exact .inl ⟨⟨xs, q2, Nat.le_refl _⟩, hd ys H p⟩
theorem yesI {A B : Hp->Prop} {σ : St} {H : Hp} (h : A H) : tYes σ H (fun c H4 => if c = true then A H4 else B H4) := iteT (A := A H) (B := B H) h
theorem iteD {c : Prop} [Decidable c] {A B : Prop} (h1 : c->A) (h2 : ¬ c->B) : if decide c = true then A else B := by
  by_cases h : c
  · rw [decide_eq_true h]; exact iteT (h1 h)
  · rw [decide_eq_false h]; exact iteF (h2 h)
theorem iteB {b : Bool} {A B : Prop} (h1 : b = true->A) (h2 : b = false->B) : if b = true then A else B := by
  cases b with
  | true => exact iteT (h1 rfl)
  | false => exact iteF (h2 rfl)
theorem iteN {b : Bool} {A B : Prop} (h1 : b = false->A) (h2 : b = true->B) : if (!b) = true then A else B := by
  cases b with
  | true => exact iteF (h2 rfl)
  | false => exact iteT (h1 rfl)
end L2
namespace L2
open PySem PySem.Spec PyProof.Rows
open PySem.Builtin.Int (intBits)
section
variable {X : Cx} {tg : Expr}
theorem ixK (K : PySem.W.Frag) (h : X.K = K := by rfl) : IxR X (rIxL K) := h ▸ ix_list
theorem slK (K : PySem.W.Frag) (h : X.K = K := by rfl) : SlR X (rSlL K) := h ▸ sl_list
theorem inK (K : PySem.W.Frag) (h : X.K = K := by rfl) : OpR X (compareOp .In) (rIn K false) := h ▸ op_in_seq
theorem pi_listK (K : PySem.W.Frag) {l : Expr} {tl : TE} (hl : PE X l tl) (h : X.K = K := by rfl) : PI X tg l (iList K tl) := h ▸ pi_list hl
theorem lenK (K : PySem.W.Frag) (h : X.K = K := by rfl) : CallR X (.builtin "len") (fun xs H Q => ∃ p ys, xs = [.ref p]/\(SqL K H p ys ∨ SqT K H p ys)/\Q (.int ys.length) H) := h ▸ call_len_seq
theorem listK (K : PySem.W.Frag) (h : X.K = K := by rfl) : CallR X (.type "list") (fun xs H Q => ∃ p ys, xs = [.ref p]/\(SqL K H p ys ∨ SqT K H p ys)/\∀ l, H l = none->Q (.ref l) (upd H l (.lst ys))) := h ▸ call_list_of
theorem isinstK (K : PySem.W.Frag) (h : X.K = K := by rfl) : CallR X (.builtin "isinstance") (fun xs H Q => ∃ x t n b, xs = [x, .ty n]/\TyOf K H x t/\PySem.W.kitOne K t (.type n) = some b/\Q (.bl b) H) := h ▸ call_isinst
theorem op_mulB : OpR X (binaryOp .Mult) (rI IntMulOk fun i j => .int (i * j)) := opI fun _ _ _ _ _ _ _ hc q => mul_int q hc
def Bits (i : Int) : Prop := intBits i ≤ 2 ^ 20
theorem mul_bits {a b : Int} {m n : Nat} (ha : intBits a ≤ m) (hb : intBits b ≤ n) (h : m + n ≤ 134217728) : IntMulOk a b := PyProof.Rows.mulOk_of_bits ha hb h
end
theorem bits_of_lay {ns : List Int} (h : PySem.W.WData.layableAll [PySem.W.WData.list (ns.map PySem.W.WData.int)] = true) : ∀ n ∈ ns, Bits n := by
  intro n hn
  have h1 : (PySem.W.WData.list (ns.map PySem.W.WData.int)).layable = true := (PySem.W.layW_cons h).1
  have h2 : (PySem.W.WData.int n).layable = true := PySem.W.layableW_item h1 _ (List.mem_map.mpr ⟨n, hn, rfl⟩)
  exact PyData.bits_of_layable h2
end L2
namespace Att
open PySem PySem.W PySem.Calls PyProof.Rows
theorem attach_bits {l : OpenLaw} {n : Nat} {q : Program} {loose : List Str} {XP : (Str->Option Value)->Heap->Prop} {YP : World->Heap->Prop} {d : DefRec} (hn : l.most = some n) (hdf : d.params.defaults = []) (call : ∀ (w : World) (s₀ s₁ : Shared) (mg mb : Str->Option Value) (fa : Addr) (o : Obj) (pm cd doc : Value) (a : Addr) (vs : List Value) (ns : List Int), Ground q loose [] XP w s₀ mg mb s₁.heap->YP w s₁.heap->s₁.heap.get? fa = some o->o.data = .func (docDef d.name d.params d.body d.scope pm cd doc)->s₁.heap.CodeRec cd d.name->mg d.name = some (.ref fa)->s₁.heap.get? a = some { cls := .type "list", data := .seq vs.toArray }->IntsAre vs ns->ns.length ≤ n->(∀ n ∈ ns, L2.Bits n)->s₁.gens = #[] →
      codeAny (model l.prog w) callerA (.call (.ref fa) ⟨[.ref a], []⟩) (fun r s' => r = .ok (.ret (.bool true))/\OldK s₁.heap s'.heap/\s'.os = s₁.os/\AllBare s'.gens) s₁) :
    WalkO q loose XP YP l.row.toRowW d [] (fun f vs => PySem.call f vs) := by
  intro w s₀ s₁ mg mb G Y fa o pm cd doc dV kV ho hd hcd hD hmg hg args vals as hpre hlay hrd hwl hlo
  obtain rfl : dV = .none := Dflts.none hD hdf
  obtain rfl : kV = .none := Dflts.noKw hD
  obtain ⟨a, vs, ns, rfl, rfl, hobj, hints, hlen⟩ := Att.script_of hn hpre hwl
  refine enter_call (codeAny_mono (call w s₀ s₁ mg mb fa o pm cd doc a vs ns G Y ho (fd_plain hd) hcd hmg hobj hints hlen (L2.bits_of_lay hlay) hg) fun r s' hq => ?_)
  obtain ⟨rfl, h2, h3, h4⟩ := hq
  exact ⟨.inl ⟨.bool true, .bool true, [], rfl, fun _ => rfl, .bool true, Att.post_true l _, fun _ => ⟨List.Pairwise.nil, fun _ hm => (nomatch hm)⟩⟩, h2, h3, h4⟩
end Att
namespace L2
open PySem PySem.Spec PyProof.Rows
end L2
namespace L2
open PySem PySem.Spec PyProof.Rows
section
variable {prog : Program} {w : World} {A : Around} {E : Value->Shared->Prop} {s : Shared}
end
section
variable {X : Cx} {pos : Pos}
end
end L2
namespace L2
open PySem PySem.Spec PyProof.Rows
section
variable {X : Cx}
end
end L2
namespace L2
open PySem PySem.Spec PyProof.Rows
section
variable {X : Cx}
def unlike (ns : List Int) : Nat := (firstMet (fun i => ns.getD i 0) ns.length).length
def tLenSet (K : PySem.W.Frag) (te : TE) : TE := fun σ H Q => te σ H fun x H1 => ∃ (p : Addr) (ns : List Int), x = .ref p/\SqL K H1 p (ns.map V.int)/\ns.length ≤ 100/\Q (.int (unlike ns)) H1
theorem pe_lenset {e : Expr} {te : TE} {p1 p2 pos pos2 : Pos} (hc : X.calm = true) (hg1 : Gl X "len") (hm1 : X.mg "len" = none) (hg2 : Gl X "set") (hm2 : X.mg "set" = none) (he : PE X e te) (s1 : starEach [e] X.env = [(false, eval e X.env)] := by rfl) (s2 : starEach [.Call (.Name "set" p2) [e] [] pos2] X.env = [(false, eval (.Call (.Name "set" p2) [e] [] pos2) X.env)] := by rfl) :
    PE X (.Call (.Name "len" p1) [.Call (.Name "set" p2) [e] [] pos2] [] pos) (tLenSet X.K te) := by
  intro pins s σ H Q I h
  refine wpAny_Call_Name_kw (ld_blt I hg1 hm1 PySem.boot_len ?_ (by decide) (by decide))
  refine PyProof.Rows.callWith_builtin1 ?_ (by rw [s2]; rfl) rfl
  rw [s2]
  refine Calls.spliced_cons ?_
  refine wpAny_Call_Name_kw (ld_blt I hg2 hm2 PyProof.Rows.boot_set ?_ (by decide) (by decide))
  refine PyProof.Rows.callWith_type1 ?_ (by rw [s1]; rfl) rfl
  rw [s1]
  refine Calls.spliced_cons (thn (he pins s σ H _ I h) fun v s3 ⟨x, H1, I1, r1, q1⟩ => Calls.spliced_nil ?_)
  obtain ⟨p, ns, rfl, hp, hl, q⟩ := q1
  cases r1
  obtain ⟨its, rv, pl, hz⟩ := I1.list hp
  have hi := intsAre_of rv
  have hil := hi.length
  have sc : (100 : Nat) + 1 < scanBound := by decide
  refine call_set_list (I1.ok.hd hc) pl.isList (by simpa using hi) (by rw [List.size_toArray]; omega) fun h' tk hS hk => ?_
  refine Calls.spliced_nil ?_
  obtain ⟨o, es, ep, t, ho, hex, hd, _, _, hb, hf, hn⟩ := hS
  have I2 : Inv X pins σ H1 { s3 with heap := h', toks := tk } := I1.kept fun b o e => hk b o (Heap.lt_size e) e
  refine call_len_set ho hex hd hf (Int.lt_trans (Int.ofNat_lt.mpr hb) (by decide)) ?_
  refine ⟨.int _, H1, I2.tok _, ⟨_, rfl⟩, ?_⟩
  rw [hn]
  have e : its.toArray.size = ns.length := by rw [List.size_toArray]; omega
  rw [e]; exact q
end
section
variable {X : Cx} {es : List Expr} {t : TA} {te : TE}
theorem pa_consL {l : List Expr} {p : Pos} (ha : PE X (.List l p) te) (hr : PA X es t) : PA X (.List l p :: es) (tCons te t) := pa_cons ha hr rfl
theorem pa_consS {a b : Expr} {p : Pos} (ha : PE X (.Subscript a b p) te) (hr : PA X es t) : PA X (.Subscript a b p :: es) (tCons te t) := pa_cons ha hr rfl
theorem pa_consB {a b : Expr} {o : Operator} {p : Pos} (ha : PE X (.BinOp a o b p) te) (hr : PA X es t) : PA X (.BinOp a o b p :: es) (tCons te t) := pa_cons ha hr rfl
theorem pa_consC {c : Const} {k : Nat} {p : Pos} (ha : PE X (.Constant c k p) te) (hr : PA X es t) : PA X (.Constant c k p :: es) (tCons te t) := pa_cons ha hr rfl
end
end L2
namespace L2
open PySem PySem.Spec PyProof.Rows
section
variable {X : Cx}
def CDivB (i j : Int) : Prop := 0 < j/\j < 2 ^ 200
theorem op_fdivB : OpR X (binaryOp .FloorDiv) (rI CDivB fun i j => .int (i / j)) := opI fun i j _ _ _ _ _ hc q => by
  have h1 : (0 : Int) < j := hc.1
  have h2 : j < 2 ^ 200 := hc.2
  refine floordiv_int (by omega) (by rw [Int.fdiv_eq_ediv_of_nonneg i (by omega)]; exact q) (.inl (PyProof.noPylong_of_log2 ?_))
  have h3 : j.natAbs < 2 ^ 200 := by omega
  exact Nat.lt_trans ((Nat.log2_lt (by omega)).mpr h3) (by decide)
end
end L2
namespace L2
open PySem PySem.Spec PyProof.Rows
section
variable {X : Cx} {pins : List (Addr × Obj)} {σ : St} {H : Hp} {s : Shared} {h' : Heap}
end
section
variable {X : Cx}
end
end L2
namespace L2
open PySem PySem.Spec PyProof.Rows
section
variable {X : Cx}
end
end L2
namespace L2
open PySem PySem.Spec PyProof.Rows
section
variable {X : Cx}
theorem op_eqLK (K : PySem.W.Frag) (hu : X.A.units < cLine) (hK : X.K = K := by rfl) : OpR X (compareOp .Eq) (rEqL K false) := hK ▸ op_eqL hu
theorem op_neLK (K : PySem.W.Frag) (hu : X.A.units < cLine) (hK : X.K = K := by rfl) : OpR X (compareOp .NotEq) (rEqL K true) := hK ▸ op_neL hu
end
end L2
namespace L2
open PySem PySem.Spec PyProof.Rows
section
variable {prog : Program} {w : World} {A : Around} {E : Value->Shared->Prop} {s : Shared} {l : Addr} {xs : Array (Int × Tok)}
end
section
variable {X : Cx}
end
end L2
namespace L2
open PySem PySem.Spec PyProof.Rows
section
variable {P : Program} {w : World} {K : PySem.W.Frag} {mg : Str->Option Value} {base : Heap} {N : List Str} {qual : Str} {scope : Scope} {f : Addr} {cd : Value} {A : Around} {outer : List Env} {s : Shared} {H : Hp} {E : XK}
end
end L2
namespace L2
open PySem PySem.Spec PyProof.Rows
end L2
namespace L2
open PySem PySem.Spec PyProof.Rows
section
variable {X : Cx} {pins : List (Addr × Obj)} {σ : St} {H : Hp} {s : Shared} {x : Addr}
end
end L2
namespace L2
open PySem PySem.Spec PyProof.Rows PySem.W Builtin Builtin.ObjectAttr Builtin.Getset_descriptor
section
variable {prog : Program} {w : World} {A : Around} {E : Value->Shared->Prop} {hh : Heap} {g : Array GenState} {dr : Drawn} {t : Nat} {os : OsState} {x C : Addr} {ob : Obj} {K : PySem.W.Frag}
end
section
variable {X : Cx}
end
end L2
namespace L2
open PySem PySem.Spec PyProof.Rows
section
variable {P : Program} {w : World} {K : PySem.W.Frag} {mg : Str->Option Value} {base : Heap} {k : Nat} {f : Addr} {fd : FuncData} {ps : List Str} {sp sp' : Sp} {CX : CXT}
end
end L2
namespace L2
open PySem PySem.Spec PyProof.Rows
section
variable {X : Cx}
end
end L2
namespace L2
open PySem PySem.Spec PyProof.Rows
section
variable {X : Cx}
end
end L2
namespace Tw
open PySem L2
section
variable {K : PySem.W.Frag}
theorem comp_map {α : Type} {a D : Addr} {xs : List α} {el fv : α->V} {te : TE} {σ : St} {H : Hp} {Q : Hp->Prop} (ha : H a = some (.lst (xs.map el))) (hD : H D = none) (hl : xs.length ≤ 1000) (hs : ∀ (i : Nat) (x : α), xs[i]? = some x->∀ (H4 : Hp) (Qv : VK), Same H H4->(∀ H5, Same H4 H5->Qv (fv x) H5)->te (σ ++ [some (el x)]) H4 Qv) (hq : ∀ H2, H2 D = some (.lst (xs.map fv))->Same H H2->Q H2) : ∃ W : Nat->Nat->List V->Hp->Prop, (∃ m, W 0 m [] (upd H D (.lst [])))/\∀ i m ys H2, W i m ys H2->H2 D = some (.lst ys)/\(((Itl K a).stop i H2/\Q H2) ∨ ((Itl K a).go i H2/\∃ N : List V->Hp->Prop, (∀ ys' H', N ys' H'->∃ m', m' < m/\W (i + 1) m' ys' H')/\∀ y H3, (Itl K a).yld i H2 y H3->tYes (σ ++ [some y]) H3 fun c H4 => if c = true then te (σ ++ [some y]) H4 fun z H5 => H5 D = some (.lst ys)/\ys.length < sizeLine/\N (ys ++ [z]) (upd H5 D (.lst (ys ++ [z]))) else N ys H4)) := by
  refine comp_list (K := K) (a := a) (xs := xs.map el) (fun i ys H2 => ys = (xs.take i).map fv/\H2 D = some (.lst ys)/\Same H H2) (fun _ _ _ h => ⟨h.2.1, SqL.of (h.2.2 _ _ ha)⟩) ⟨rfl, upd_same, same_upd hD⟩ ?_ ?_
  · rintro i y ys H2 hi ⟨rfl, hD2, s2⟩
    rw [List.getElem?_map] at hi
    cases e : xs[i]? with
    | none => rw [e] at hi; cases hi
    | some x =>
      rw [e] at hi
      cases hi
      have hil := (List.getElem?_eq_some_iff.mp e).1
      refine yesI (hs i x e H2 _ s2 fun H5 s5 => ⟨s5 _ _ hD2, by rw [List.length_map, List.length_take]; exact small1000 (by omega), by rw [List.take_add_one, e, List.map_append]; rfl, upd_same, fun b o e => by rw [upd_ne (ne_of_none e hD)]; exact s5 b o (s2 b o e)⟩)
  · rintro ys H2 ⟨rfl, hD2, s2⟩
    rw [List.take_of_length_le (by rw [List.length_map]; exact Nat.le_refl _)] at hD2
    exact hq H2 hD2 s2
theorem comp_rng {D : Addr} {n : Nat} {lo : Int} {fv : Nat->V} {te : TE} {σ : St} {H : Hp} {Q : Hp->Prop} (hD : H D = none) (hl : n ≤ 1000) (hs : ∀ (i : Nat), i < n->∀ (H4 : Hp) (Qv : VK), Same H H4->(∀ H5, Same H4 H5->Qv (fv i) H5)->te (σ ++ [some (.int (lo + i))]) H4 Qv) (hq : ∀ H2, H2 D = some (.lst ((List.range n).map fv))->Same H H2->Q H2) : ∃ W : Nat->Nat->List V->Hp->Prop, (∃ m, W 0 m [] (upd H D (.lst [])))/\∀ i m ys H2, W i m ys H2->H2 D = some (.lst ys)/\(((Itr lo n).stop i H2/\Q H2) ∨ ((Itr lo n).go i H2/\∃ N : List V->Hp->Prop, (∀ ys' H', N ys' H'->∃ m', m' < m/\W (i + 1) m' ys' H')/\∀ y H3, (Itr lo n).yld i H2 y H3->tYes (σ ++ [some y]) H3 fun c H4 => if c = true then te (σ ++ [some y]) H4 fun z H5 => H5 D = some (.lst ys)/\ys.length < sizeLine/\N (ys ++ [z]) (upd H5 D (.lst (ys ++ [z]))) else N ys H4)) := by
  refine comp_range (fun i ys H2 => ys = (List.range i).map fv/\H2 D = some (.lst ys)/\Same H H2) (fun _ _ _ h => h.2.1) ⟨rfl, upd_same, same_upd hD⟩ ?_ ?_
  · rintro i ys H2 hi ⟨rfl, hD2, s2⟩
    refine yesI (hs i hi H2 _ s2 fun H5 s5 => ⟨s5 _ _ hD2, by rw [List.length_map, List.length_range]; exact small1000 (by omega), by rw [List.range_succ, List.map_append]; rfl, upd_same, fun b o e => by rw [upd_ne (ne_of_none e hD)]; exact s5 b o (s2 b o e)⟩)
  · rintro ys H2 ⟨rfl, hD2, s2⟩
    exact hq H2 hD2 s2
end
end Tw
namespace L2
open PySem PySem.Spec PyProof.Rows
section
variable {X : Cx}
end
end L2
namespace Tw
open PySem L2
section
variable {K : PySem.W.Frag}
end
end Tw
namespace L2
open PySem PySem.Spec PyProof.Rows
section
variable {X : Cx}
end
end L2
namespace L2
open PySem PySem.Spec PyProof.Rows
section
variable {X : Cx}
end
end L2
namespace L2
open PySem PySem.Spec PyProof.Rows
open PySem.Builtin PySem.Builtin.Str
section
variable {X : Cx}
end
end L2
namespace Tw
open PySem L2
section
variable {K : PySem.W.Frag}
end
end Tw
namespace Tw
open PySem L2 PySem.StrLaws PySem.Builtin.Str PySem.NumText
end Tw
namespace Tw
open PySem L2 PySem.StrLaws
end Tw
namespace Tw
structure Met (rs : List Road) (vs : List Int) (f : Int->Int->Int) : Prop where
  zero : ∀ x ∈ vs, f x x = 0
  nn : ∀ x ∈ vs, ∀ y ∈ vs, 0 ≤ f x y
  sym : ∀ x ∈ vs, ∀ y ∈ vs, f x y = f y x
  road : ∀ x ∈ vs, ∀ r ∈ rs, f x r.1 = f x r.2.1 + r.2.2 ∨ f x r.2.1 = f x r.1 + r.2.2
  one : ∀ x ∈ vs, ∀ r ∈ rs, ∀ q ∈ rs, ∀ v p p', Joins r v p->Joins q v p'->f x v = f x p + r.2.2->f x v = f x p' + q.2.2->p = p'
theorem Met.perm {rs rs' : List Road} {vs vs' : List Int} {f : Int->Int->Int} (h : Met rs vs f) (hr : rs'.Perm rs) (hv : vs'.Perm vs) : Met rs' vs' f :=
  ⟨fun x hx => h.zero x (hv.mem_iff.mp hx), fun x hx y hy => h.nn x (hv.mem_iff.mp hx) y (hv.mem_iff.mp hy), fun x hx y hy => h.sym x (hv.mem_iff.mp hx) y (hv.mem_iff.mp hy), fun x hx r hr' => h.road x (hv.mem_iff.mp hx) r (hr.mem_iff.mp hr'),
    fun x hx r hr' q hq => h.one x (hv.mem_iff.mp hx) r (hr.mem_iff.mp hr') q (hr.mem_iff.mp hq)⟩
def metX (f : Int->Int->Int) (u w l : Int) (x y : Int) : Int := if x = w then (if y = w then 0 else f u y + l) else if y = w then f x u + l else f x y
theorem metX_old {f : Int->Int->Int} {u w l x y : Int} (hx : x ≠ w) (hy : y ≠ w) : metX f u w l x y = f x y := by unfold metX; rw [if_neg hx, if_neg hy]
theorem metX_to {f : Int->Int->Int} {u w l x : Int} (hx : x ≠ w) : metX f u w l x w = f x u + l := by unfold metX; rw [if_neg hx, if_pos rfl]
theorem metX_from {f : Int->Int->Int} {u w l y : Int} (hy : y ≠ w) : metX f u w l w y = f u y + l := by unfold metX; rw [if_pos rfl, if_neg hy]
theorem metX_self {f : Int->Int->Int} {u w l : Int} : metX f u w l w w = 0 := by unfold metX; rw [if_pos rfl, if_pos rfl]
theorem Met.hang {rs : List Road} {vs : List Int} {f : Int->Int->Int} (h : Met rs vs f) (pl : ∀ r ∈ rs, r.1 ∈ vs/\r.2.1 ∈ vs) (hl : ∀ r ∈ rs, 1 ≤ r.2.2) {u w : Int} {r : Road} (hu : u ∈ vs) (hw : w ∉ vs) (j : Joins r u w) (h1 : 1 ≤ r.2.2) : Met (r :: rs) (w :: vs) (metX f u w r.2.2) := by
  have ne : ∀ {x : Int}, x ∈ vs->x ≠ w := fun hx e => hw (e ▸ hx)
  have zu := h.zero u hu
  refine ⟨fun x hx => ?_, fun x hx y hy => ?_, fun x hx y hy => ?_, fun x hx q hq => ?_, fun x hx q hq q' hq' v p p' jq jq' e e' => ?_⟩
  · rcases List.mem_cons.mp hx with z | hx
    · rw [z]; exact metX_self
    · rw [metX_old (ne hx) (ne hx)]; exact h.zero x hx
  · rcases List.mem_cons.mp hx with z | hx <;> rcases List.mem_cons.mp hy with z' | hy
    · rw [z, z', metX_self]; exact Int.le_refl _
    · rw [z, metX_from (ne hy)]; have := h.nn u hu y hy; omega
    · rw [z', metX_to (ne hx)]; have := h.nn x hx u hu; omega
    · rw [metX_old (ne hx) (ne hy)]; exact h.nn x hx y hy
  · rcases List.mem_cons.mp hx with z | hx <;> rcases List.mem_cons.mp hy with z' | hy
    · rw [z, z']
    · rw [z, metX_from (ne hy), metX_to (ne hy), h.sym u hu y hy]
    · rw [z', metX_to (ne hx), metX_from (ne hx), h.sym x hx u hu]
    · rw [metX_old (ne hx) (ne hy), metX_old (ne hy) (ne hx)]; exact h.sym x hx y hy
  · have key : ∀ {a b : Int}, a = u->b = w->metX f u w r.2.2 x a = metX f u w r.2.2 x b + r.2.2 ∨ metX f u w r.2.2 x b = metX f u w r.2.2 x a + r.2.2 := fun {a b} ea eb => by
      subst ea; subst eb
      rcases List.mem_cons.mp hx with z | hx
      · rw [z, metX_self, metX_from (ne hu)]; left; omega
      · rw [metX_to (ne hx), metX_old (ne hx) (ne hu)]; right; rfl
    rcases List.mem_cons.mp hq with e | hq
    · subst e
      rcases j with ⟨a, b⟩ | ⟨a, b⟩
      · exact key a b
      · exact (key b a).symm
    · obtain ⟨p1, p2⟩ := pl q hq
      rcases List.mem_cons.mp hx with z | hx
      · rw [z, metX_from (ne p1), metX_from (ne p2)]
        rcases h.road u hu q hq with e | e <;> omega
      · rw [metX_old (ne hx) (ne p1), metX_old (ne hx) (ne p2)]
        exact h.road x hx q hq
  ·
    have mem : ∀ {q : Road} {v p : Int}, q ∈ rs->Joins q v p->v ∈ vs/\p ∈ vs := fun {q v p} hq jq => by
      obtain ⟨p1, p2⟩ := pl q hq
      rcases jq with ⟨a, b⟩ | ⟨a, b⟩
      · rw [a] at p1; rw [b] at p2; exact ⟨p1, p2⟩
      · rw [a] at p1; rw [b] at p2; exact ⟨p2, p1⟩
    have new : ∀ {v p : Int}, Joins r v p->(v = u/\p = w) ∨ (v = w/\p = u) := fun {v p} jr => by
      rcases j with ⟨a, b⟩ | ⟨a, b⟩ <;> rcases jr with ⟨c, d⟩ | ⟨c, d⟩
      · left; omega
      · right; omega
      · right; omega
      · left; omega
    rcases List.mem_cons.mp hq with eq | hm <;> rcases List.mem_cons.mp hq' with eq' | hm'
    · subst eq; subst eq'
      rcases new jq with ⟨a, b⟩ | ⟨a, b⟩ <;> rcases new jq' with ⟨c, d⟩ | ⟨c, d⟩
      · omega
      · have := ne hu; omega
      · have := ne hu; omega
      · omega
    · subst eq
      obtain ⟨mv, mp⟩ := mem hm' jq'
      rcases new jq with ⟨a, b⟩ | ⟨a, b⟩
      · subst a; subst b
        rcases List.mem_cons.mp hx with z | hx
        · subst z
          rw [metX_from (ne hu), metX_from (ne mp), zu] at e'
          have := h.nn v hu p' mp
          have := hl q' hm'
          omega
        · rw [metX_to (ne hx), metX_old (ne hx) (ne hu)] at e
          omega
      · rw [a] at mv; exact absurd mv hw
    · subst eq'
      obtain ⟨mv, mp⟩ := mem hm jq
      rcases new jq' with ⟨a, b⟩ | ⟨a, b⟩
      · subst a; subst b
        rcases List.mem_cons.mp hx with z | hx
        · subst z
          rw [metX_from (ne hu), metX_from (ne mp), zu] at e
          have := h.nn v hu p mp
          have := hl q hm
          omega
        · rw [metX_to (ne hx), metX_old (ne hx) (ne hu)] at e'
          omega
      · rw [a] at mv; exact absurd mv hw
    · obtain ⟨mv, mp⟩ := mem hm jq
      obtain ⟨_, mp'⟩ := mem hm' jq'
      rcases List.mem_cons.mp hx with z | hx
      · subst z
        rw [metX_from (ne mv), metX_from (ne mp)] at e
        rw [metX_from (ne mv), metX_from (ne mp')] at e'
        exact h.one u hu q hm q' hm' v p p' jq jq' (by omega) (by omega)
      · rw [metX_old (ne hx) (ne mv), metX_old (ne hx) (ne mp)] at e
        rw [metX_old (ne hx) (ne mv), metX_old (ne hx) (ne mp')] at e'
        exact h.one x hx q hm q' hm' v p p' jq jq' e e'
theorem Tr.met {rs : List Road} {vs : List Int} (t : Tr rs vs) : (∀ r ∈ rs, 1 ≤ r.2.2)->∃ f, Met rs vs f := by
  induction t with
  | one v =>
    intro _
    refine ⟨fun _ _ => 0, fun _ _ => rfl, fun _ _ _ _ => Int.le_refl _, fun _ _ _ _ => rfl, fun _ _ r hr => (nomatch hr), fun _ _ r hr => (nomatch hr)⟩
  | @hang rs rs' vs vs' u w r t hu hw j p q ih =>
    intro hl
    have hl' : ∀ r ∈ rs, 1 ≤ r.2.2 := fun x hx => hl x (p.mem_iff.mpr (List.mem_cons_of_mem _ hx))
    obtain ⟨f, h⟩ := ih hl'
    exact ⟨_, (h.hang (fun r hr => let ⟨a, b, _⟩ := t.places r hr; ⟨a, b⟩) hl' hu hw j (hl r (p.mem_iff.mpr List.mem_cons_self))).perm p q⟩
theorem Tree.met {n : Nat} {rs : List Road} (t : Tree n rs) : ∃ f, Met rs (pl n) f := t.tr.met t.len
theorem nbOf_mem {rs : List Road} (ap : rs.Pairwise Apart) (hv : ∀ r ∈ rs, r.1 ≠ r.2.1) (v x l : Int) : (x, l) ∈ nbOf rs v<->∃ r ∈ rs, Joins r v x/\r.2.2 = l := by
  have gen : ∀ (t : List Road) (pre : List Road), (pre ++ t).Pairwise Apart->(∀ r ∈ pre ++ t, r.1 ≠ r.2.1)->((x, l) ∈ nbOf pre v<->∃ r ∈ pre, Joins r v x/\r.2.2 = l)->((x, l) ∈ nbOf (pre ++ t) v<->∃ r ∈ pre ++ t, Joins r v x/\r.2.2 = l) := by
    intro t
    induction t with
    | nil => intro pre _ _ h; rw [List.append_nil]; exact h
    | cons r t ih =>
      intro pre hp hne h
      have e : pre ++ r :: t = (pre ++ [r]) ++ t := by simp
      rw [e] at hp hne ⊢
      refine ih (pre ++ [r]) hp hne ?_
      have hp1 : (pre ++ [r]).Pairwise Apart := (List.pairwise_append.mp hp).1
      have hap : ∀ q ∈ pre, Apart q r := fun q hq => (List.pairwise_append.mp hp1).2.2 q hq r (by simp)
      have hr : r.1 ≠ r.2.1 := hne r (by simp)
      have new : ∀ x, Joins r v x->¬ x ∈ (nbOf pre v).map (·.1) := fun x j hx => by
        obtain ⟨q, hq, j'⟩ := (nbOf_keys pre v x).mp hx
        obtain ⟨a1, a2⟩ := hap q hq
        rcases j with ⟨c, d⟩ | ⟨c, d⟩ <;> rcases j' with ⟨c', d'⟩ | ⟨c', d'⟩
        · exact a1 ⟨by omega, by omega⟩
        · exact a2 ⟨by omega, by omega⟩
        · exact a2 ⟨by omega, by omega⟩
        · exact a1 ⟨by omega, by omega⟩
      have pm : ∀ z y, ¬ z ∈ (nbOf pre v).map (·.1)->((x, l) ∈ put (nbOf pre v) z y<->(x, l) ∈ nbOf pre v ∨ (x = z/\l = y)) := fun z y hz => by
        unfold put
        rw [if_neg]
        · rw [List.mem_append]; simp
        · intro h
          obtain ⟨p, hp, e⟩ := List.any_eq_true.mp h
          exact hz (List.mem_map.mpr ⟨p, hp, of_decide_eq_true e⟩)
      have ex : (∃ q ∈ pre ++ [r], Joins q v x/\q.2.2 = l)<->(∃ q ∈ pre, Joins q v x/\q.2.2 = l) ∨ (Joins r v x/\r.2.2 = l) := by
        constructor
        · rintro ⟨q, hq, z⟩
          rcases List.mem_append.mp hq with hq | hq
          · exact .inl ⟨q, hq, z⟩
          · rw [List.mem_singleton.mp hq] at z; exact .inr z
        · rintro (⟨q, hq, z⟩ | z)
          · exact ⟨q, List.mem_append_left _ hq, z⟩
          · exact ⟨r, List.mem_append_right _ (by simp), z⟩
      rw [ex, nbOf_snoc, ← h]
      unfold nb1
      split
      · rename_i h1
        rw [pm _ _ (new _ (.inl ⟨h1, rfl⟩))]
        constructor
        · rintro (z | ⟨z1, z2⟩)
          · exact .inl z
          · exact .inr ⟨.inl ⟨h1, z1.symm⟩, z2.symm⟩
        · rintro (z | ⟨z1, z2⟩)
          · exact .inl z
          · refine .inr ⟨?_, z2.symm⟩
            rcases z1 with ⟨a, b⟩ | ⟨a, b⟩ <;> omega
      · rename_i h1
        split
        · rename_i h2
          rw [pm _ _ (new _ (.inr ⟨rfl, h2⟩))]
          constructor
          · rintro (z | ⟨z1, z2⟩)
            · exact .inl z
            · exact .inr ⟨.inr ⟨z1.symm, h2⟩, z2.symm⟩
          · rintro (z | ⟨z1, z2⟩)
            · exact .inl z
            · refine .inr ⟨?_, z2.symm⟩
              rcases z1 with ⟨a, b⟩ | ⟨a, b⟩ <;> omega
        · rename_i h2
          constructor
          · exact .inl
          · rintro (z | ⟨z1, z2⟩)
            · exact z
            · rcases z1 with ⟨a, b⟩ | ⟨a, b⟩
              · exact absurd a h1
              · exact absurd b h2
  have := gen rs [] (by simpa using ap) (by simpa using hv) (by simp [nbOf])
  simpa using this
theorem Tree.nb_mem {n : Nat} {rs : List Road} (t : Tree n rs) (v x l : Int) : (x, l) ∈ nbOf rs v<->∃ r ∈ rs, Joins r v x/\r.2.2 = l := nbOf_mem t.tr.apart (fun r hr => (t.tr.places r hr).2.2) v x l
theorem Srch.dist {n : Nat} {rs : List Road} {s : Int} {k : Nat} {st : List (Int × Int)} {f : Int->Int->Int} (sr : Srch n (nbOf rs) s k st) (m : Met rs (pl n) f) (hl : ∀ r ∈ rs, 1 ≤ r.2.2) : ∀ (i : Nat) (p q : Int), st[i]? = some (p, q)->0 < i->∃ r ∈ rs, Joins r q p/\f s p = f s q + r.2.2 := by
  have hs : s ∈ pl n := mem_pl.mpr (sr.rng (s, s) (List.mem_of_getElem? sr.first))
  have mem : ∀ {i : Nat} {p q : Int}, st[i]? = some (p, q)->p ∈ pl n := fun h => mem_pl.mpr (sr.rng _ (List.mem_of_getElem? h))
  intro i
  induction i using Nat.strongRecOn with
  | _ i ih =>
    intro p q hpq hi
    obtain ⟨j, hj, _, hq, hk⟩ := sr.par i p q hpq hi
    obtain ⟨r, hr, jr⟩ := (nbOf_keys rs q p).mp hk
    have hqm : ∃ q', st[j]? = some (q, q') := by
      rw [List.getElem?_map] at hq
      cases e : st[j]? with
      | none => rw [e] at hq; cases hq
      | some x => rw [e] at hq; exact ⟨x.2, by rw [← (Option.some.inj hq : x.1 = q)]⟩
    obtain ⟨q', hj'⟩ := hqm
    refine ⟨r, hr, jr, ?_⟩
    have two : f s p = f s q + r.2.2 ∨ f s q = f s p + r.2.2 := by
      rcases m.road s hs r hr with e | e <;> rcases jr with ⟨a, b⟩ | ⟨a, b⟩ <;> rw [a, b] at e
      · exact .inr e
      · exact .inl e
      · exact .inl e
      · exact .inr e
    rcases two with e | e
    · exact e
    · exfalso
      have lr := hl r hr
      by_cases j0 : j = 0
      · subst j0
        rw [sr.first] at hj'
        cases hj'
        have := m.zero s hs
        have := m.nn s hs p (mem hpq)
        omega
      · obtain ⟨r', hr', jr', e'⟩ := ih j hj q q' hj' (by omega)
        have hp : p = q' := m.one s hs r hr r' hr' q p q' jr (jr'.symm) e e'
        obtain ⟨j2, hj2, _, hq2, _⟩ := sr.par j q q' hj' (by omega)
        rw [← hp] at hq2
        have hpi : (st.map (·.1))[i]? = some p := by rw [List.getElem?_map, hpq]; rfl
        obtain ⟨h1, q1⟩ := List.getElem?_eq_some_iff.mp hq2
        obtain ⟨h2, q2⟩ := List.getElem?_eq_some_iff.mp hpi
        have := (List.getElem_inj sr.nd).mp (q1.trans q2.symm)
        omega
theorem Srch.all {n : Nat} {rs : List Road} {s : Int} {st : List (Int × Int)} (t : Tree n rs) (sr : Srch n (nbOf rs) s st.length st) : ∀ v ∈ pl n, v ∈ st.map (·.1) := by
  have hs : s ∈ st.map (·.1) := List.mem_map.mpr ⟨(s, s), List.mem_of_getElem? sr.first, rfl⟩
  have hs' : s ∈ pl n := mem_pl.mpr (sr.rng (s, s) (List.mem_of_getElem? sr.first))
  intro v hv
  refine t.tr.whole (P := fun v => v ∈ st.map (·.1)) (fun r hr => ?_) s hs' v hv hs
  have go : ∀ a b, Joins r a b->a ∈ st.map (·.1)->b ∈ st.map (·.1) := fun a b j ha => by
    obtain ⟨i, hi⟩ := List.mem_iff_getElem?.mp ha
    have hil : i < st.length := by
      have := (List.getElem?_eq_some_iff.mp hi).1
      simpa using this
    exact sr.clo i a hil hi b ((nbOf_keys rs a b).mpr ⟨r, hr, j⟩)
  exact ⟨go _ _ (.inl ⟨rfl, rfl⟩), go _ _ (.inr ⟨rfl, rfl⟩)⟩
end Tw
namespace Tw
structure Gr (rs : List Road) (n : Nat) (f : Int->Int->Int) (s : Int) (fd : List (Int × Int)) : Prop where
  nd : (fd.map (·.1)).Nodup
  rng : ∀ p ∈ fd.map (·.1), p ∈ pl n
  val : ∀ p d, (p, d) ∈ fd->d = f s p
  st : s ∈ fd.map (·.1)
  clo : ∀ p ∈ fd.map (·.1), p ≠ s->∀ r ∈ rs, ∀ q, Joins r p q->f s p = f s q + r.2.2->q ∈ fd.map (·.1)
theorem Gr.start {rs : List Road} {n : Nat} {f : Int->Int->Int} {s : Int} (m : Met rs (pl n) f) (hs : s ∈ pl n) : Gr rs n f s [(s, 0)] := by
  refine ⟨by simp, fun p hp => ?_, fun p d h => ?_, by simp, fun p hp ne => ?_⟩
  · have : p = s := by simpa using hp
    rw [this]; exact hs
  · have : p = s/\d = 0 := by simpa using h
    rw [this.1, this.2, m.zero s hs]
  · exact absurd (by simpa using hp) ne
theorem Met.two {rs : List Road} {vs : List Int} {f : Int->Int->Int} (m : Met rs vs f) {s : Int} (hs : s ∈ vs) {r : Road} (hr : r ∈ rs) {p q : Int} (j : Joins r p q) : f s q = f s p + r.2.2 ∨ f s p = f s q + r.2.2 := by
  rcases m.road s hs r hr with e | e <;> rcases j with ⟨a, b⟩ | ⟨a, b⟩ <;> rw [a, b] at e
  · exact .inr e
  · exact .inl e
  · exact .inl e
  · exact .inr e
theorem Gr.grow {rs : List Road} {n : Nat} {f : Int->Int->Int} {s : Int} {fd : List (Int × Int)} (g : Gr rs n f s fd) (m : Met rs (pl n) f) (hl : ∀ r ∈ rs, 1 ≤ r.2.2) {r : Road} (hr : r ∈ rs) {p q d : Int} (j : Joins r p q) (hq : q ∈ pl n) (hp : (p, d) ∈ fd) (nq : q ∉ fd.map (·.1)) : Gr rs n f s (fd ++ [(q, d + r.2.2)]) := by
  have hpk : p ∈ fd.map (·.1) := List.mem_map.mpr ⟨_, hp, rfl⟩
  have hs := g.rng s g.st
  have em : (fd ++ [(q, d + r.2.2)]).map (·.1) = fd.map (·.1) ++ [q] := by rw [List.map_append]; rfl
  have key : f s q = f s p + r.2.2 := by
    rcases m.two hs hr j with e | e
    · exact e
    · exfalso
      by_cases ps : p = s
      · have := m.zero s hs
        have := m.nn s hs q hq
        have := hl r hr
        rw [ps] at e; omega
      · exact nq (g.clo p hpk ps r hr q j e)
  refine ⟨?_, fun x hx => ?_, fun x y h => ?_, ?_, fun x hx nx r' hr' y j' e => ?_⟩
  · rw [em]
    refine List.nodup_append.mpr ⟨g.nd, by simp, fun a ha b hb e => ?_⟩
    have : b = q := by simpa using hb
    exact nq (by rw [← this, ← e]; exact ha)
  · rw [em] at hx
    rcases List.mem_append.mp hx with h | h
    · exact g.rng x h
    · rw [List.mem_singleton.mp h]; exact hq
  · rcases List.mem_append.mp h with h | h
    · exact g.val x y h
    · have : x = q/\y = d + r.2.2 := by simpa using h
      rw [this.1, this.2, key, g.val p d hp]
  · rw [em]; exact List.mem_append_left _ g.st
  · rw [em] at hx ⊢
    rcases List.mem_append.mp hx with h | h
    · exact List.mem_append_left _ (g.clo x h nx r' hr' y j' e)
    · have ex := List.mem_singleton.mp h
      subst ex
      have : y = p := m.one s hs r' hr' r hr x y p j' j.symm e key
      rw [this]; exact List.mem_append_left _ hpk
theorem Gr.length {rs : List Road} {n : Nat} {f : Int->Int->Int} {s : Int} {fd : List (Int × Int)} (g : Gr rs n f s fd) (h : n ≤ fd.length) : ∀ v ∈ pl n, v ∈ fd.map (·.1) := by
  have le : (fd.map (·.1)).length ≤ n := by
    have key : ∀ (m : Nat) (l : List Int), l.Nodup->(∀ x ∈ l, 0 ≤ x/\x < m)->l.length ≤ m := by
      intro m
      induction m with
      | zero =>
        intro l _ h
        cases l with
        | nil => exact Nat.le_refl _
        | cons x t => have := h x (by simp); omega
      | succ m ih =>
        intro l hn h
        by_cases hm : ((m : Nat) : Int) ∈ l
        · have hp := List.perm_cons_erase hm
          rw [hp.length_eq, List.length_cons]
          obtain ⟨h1, h2⟩ := List.nodup_cons.mp (hp.nodup_iff.mp hn)
          have := ih (l.erase (m : Int)) h2 fun x hx => by
            have b := h x (List.mem_of_mem_erase hx)
            have : x ≠ (m : Int) := fun e => h1 (e ▸ hx)
            omega
          omega
        · have := ih l hn fun x hx => by
            have b := h x hx
            have : x ≠ (m : Int) := fun e => hm (e ▸ hx)
            omega
          omega
    exact key n _ g.nd fun x hx => mem_pl.mp (g.rng x hx)
  intro v hv
  obtain ⟨h1, h2⟩ := mem_pl.mp hv
  exact full_of_length n _ g.nd (fun x hx => mem_pl.mp (g.rng x hx)) (by rw [List.length_map] at le ⊢; omega) v h1 h2
theorem Gr.full {rs : List Road} {n : Nat} {f : Int->Int->Int} {s : Int} {fd : List (Int × Int)} (g : Gr rs n f s fd) (t : Tree n rs) (h : ∀ r ∈ rs, r.1 ∈ fd.map (·.1)<->r.2.1 ∈ fd.map (·.1)) : n ≤ fd.length := by
  have all : ∀ v ∈ pl n, v ∈ fd.map (·.1) := fun v hv => t.tr.whole (P := fun v => v ∈ fd.map (·.1)) h s (g.rng s g.st) v hv g.st
  have sub : ∀ (m : Nat) (l : List Int), (∀ v, 0 ≤ v->v < (m : Int)->v ∈ l)->m ≤ l.length := by
    intro m
    induction m with
    | zero => intro l _; omega
    | succ m ih =>
      intro l hl
      have hm := hl m (by omega) (by omega)
      have hp := List.perm_cons_erase hm
      rw [hp.length_eq, List.length_cons]
      have := ih (l.erase (m : Int)) fun v h1 h2 => (List.mem_erase_of_ne (by omega)).mpr (hl v h1 (by omega))
      omega
  have := sub n (fd.map (·.1)) fun v h1 h2 => all v (mem_pl.mpr ⟨h1, h2⟩)
  simpa using this
end Tw
namespace Tw
def Desc (rs : List Road) (f : Int->Int->Int) (b : Int) (ws : List Int) : Prop := ∀ (i : Nat) (p q : Int), ws[i]? = some p->ws[i + 1]? = some q->∃ r ∈ rs, Joins r p q/\f b p = f b q + r.2.2
theorem Desc.one {rs : List Road} {f : Int->Int->Int} {b a : Int} : Desc rs f b [a] := fun i p q _ h => by simp at h
theorem Desc.lt {rs : List Road} {f : Int->Int->Int} {b : Int} {ws : List Int} (d : Desc rs f b ws) (hl : ∀ r ∈ rs, 1 ≤ r.2.2) : ∀ (k i : Nat) (p q : Int), ws[i]? = some p->ws[i + k + 1]? = some q->f b q < f b p := by
  intro k
  induction k with
  | zero =>
    intro i p q h1 h2
    obtain ⟨r, hr, _, e⟩ := d i p q h1 h2
    have := hl r hr; omega
  | succ k ih =>
    intro i p q h1 h2
    have hlt : i + k + 1 < ws.length := by
      have := (List.getElem?_eq_some_iff.mp h2).1; omega
    obtain ⟨x, hx⟩ : ∃ x, ws[i + k + 1]? = some x := ⟨_, List.getElem?_eq_getElem hlt⟩
    have := ih i p x h1 hx
    obtain ⟨r, hr, _, e⟩ := d (i + k + 1) x q hx h2
    have := hl r hr; omega
theorem Desc.nodup {rs : List Road} {f : Int->Int->Int} {b : Int} {ws : List Int} (d : Desc rs f b ws) (hl : ∀ r ∈ rs, 1 ≤ r.2.2) : ws.Nodup := by
  unfold List.Nodup
  rw [List.pairwise_iff_getElem]
  intro i j hi hj hij e
  have := d.lt hl (j - i - 1) i ws[i] ws[j] (List.getElem?_eq_getElem hi) (by rw [show i + (j - i - 1) + 1 = j by omega]; exact List.getElem?_eq_getElem hj)
  rw [e] at this; omega
theorem Desc.snoc {rs : List Road} {f : Int->Int->Int} {b : Int} {ws : List Int} {p q : Int} (d : Desc rs f b ws) (hp : ws[ws.length - 1]? = some p) {r : Road} (hr : r ∈ rs) (j : Joins r p q) (e : f b p = f b q + r.2.2) : Desc rs f b (ws ++ [q]) := by
  intro i x y h1 h2
  have hw : 0 < ws.length := by
    have := (List.getElem?_eq_some_iff.mp hp).1; omega
  have hi : i + 1 < (ws ++ [q]).length := (List.getElem?_eq_some_iff.mp h2).1
  rw [List.length_append] at hi
  have hi' : i < ws.length := by simp at hi; omega
  rw [List.getElem?_append_left hi'] at h1
  by_cases hlt : i + 1 < ws.length
  · rw [List.getElem?_append_left hlt] at h2
    exact d i x y h1 h2
  · have ei : i = ws.length - 1 := by omega
    rw [List.getElem?_append_right (by omega), show i + 1 - ws.length = 0 by omega] at h2
    have ey : q = y := by simpa using h2
    rw [ei, hp] at h1
    cases h1
    subst ey
    exact ⟨r, hr, j, e⟩
structure WayOf (n : Nat) (rs : List Road) (f : Int->Int->Int) (a b : Int) (ws : List Int) : Prop where
  d : Desc rs f b ws
  first : ws[0]? = some a
  last : ws[ws.length - 1]? = some b
  rng : ∀ x ∈ ws, x ∈ pl n
end Tw
namespace Tw
end Tw
namespace Tw
theorem Met.grown {n : Nat} {rs : List Road} {f : Int->Int->Int} (t : Tree n rs) (m : Met rs (pl n) f) {s B : Int} (hs : s ∈ pl n) (hB : ∀ r ∈ rs, r.2.2 ≤ B) {P : Int->Prop} (h0 : P s)
    (hstep : ∀ r ∈ rs, ∀ p q, p ∈ pl n->q ∈ pl n->Joins r p q->f s q = f s p + r.2.2->P p->P q) :
    ∀ k : Nat, k < n->∃ fd : List (Int × Int), Gr rs n f s fd/\fd.length = k + 1/\∀ x ∈ fd, x.2 ≤ (k : Int) * B/\P x.1
  | 0, _ => ⟨[(s, 0)], Gr.start m hs, rfl, fun x hx => by rw [List.mem_singleton.mp hx]; exact ⟨by simp, h0⟩⟩
  | k + 1, hk => by
    obtain ⟨fd, g, hl, hx⟩ := Met.grown t m hs hB h0 hstep k (by omega)
    have hno : ¬ ∀ r ∈ rs, r.1 ∈ fd.map (·.1)<->r.2.1 ∈ fd.map (·.1) := fun h => by have := g.full t h; omega
    obtain ⟨r, hr, p, q, j, hp, hq⟩ : ∃ r ∈ rs, ∃ p q, Joins r p q/\p ∈ fd.map (·.1)/\q ∉ fd.map (·.1) := by
      apply Classical.byContradiction
      intro hn
      apply hno
      intro r hr
      constructor
      · intro h1
        apply Classical.byContradiction
        intro h2
        exact hn ⟨r, hr, r.1, r.2.1, .inl ⟨rfl, rfl⟩, h1, h2⟩
      · intro h1
        apply Classical.byContradiction
        intro h2
        exact hn ⟨r, hr, r.2.1, r.1, .inr ⟨rfl, rfl⟩, h1, h2⟩
    obtain ⟨⟨p', d⟩, hpd, ep⟩ := List.mem_map.mp hp
    have ep' : p' = p := ep
    subst ep'
    obtain ⟨m1, m2, _⟩ := t.tr.places r hr
    have qm : q ∈ pl n := by
      rcases j with ⟨_, e⟩ | ⟨e, _⟩
      · rw [← e]; exact m2
      · rw [← e]; exact m1
    have g2 := g.grow m t.len hr j qm hpd hq
    have lr := t.len r hr
    have br := hB r hr
    have ek : ((k + 1 : Nat) : Int) * B = (k : Int) * B + B := by rw [Int.natCast_add, Int.add_mul]; simp
    refine ⟨fd ++ [(q, d + r.2.2)], g2, by rw [List.length_append, hl]; rfl, fun x hx' => ?_⟩
    rw [ek]
    rcases List.mem_append.mp hx' with h | h
    · have := hx x h
      exact ⟨by omega, this.2⟩
    · have e : x = (q, d + r.2.2) := List.mem_singleton.mp h
      subst e
      have hp2 := hx _ hpd
      refine ⟨by have := hp2.1; show d + r.2.2 ≤ _; have h1 : d ≤ (k : Int) * B := hp2.1; omega, hstep r hr p' q (g.rng p' hp) qm j ?_ hp2.2⟩
      have v1 := g2.val q (d + r.2.2) (List.mem_append_right _ (List.mem_singleton.mpr rfl))
      have v2 := g.val p' d hpd
      omega
theorem Met.ind {n : Nat} {rs : List Road} {f : Int->Int->Int} (t : Tree n rs) (m : Met rs (pl n) f) {s : Int} (hs : s ∈ pl n) {P : Int->Prop} (h0 : P s) (hstep : ∀ r ∈ rs, ∀ p q, p ∈ pl n->q ∈ pl n->Joins r p q->f s q = f s p + r.2.2->P p->P q) : ∀ v ∈ pl n, P v := by
  intro v hv
  have n1 := t.lo
  obtain ⟨B, hB⟩ : ∃ B : Int, ∀ r ∈ rs, r.2.2 ≤ B := by
    clear hstep m t
    induction rs with
    | nil => exact ⟨0, fun _ h => nomatch h⟩
    | cons r q ih =>
      obtain ⟨B, h⟩ := ih
      refine ⟨max B r.2.2, fun x hx => ?_⟩
      rcases List.mem_cons.mp hx with e | e
      · rw [e]; exact Int.le_max_right _ _
      · exact Int.le_trans (h x e) (Int.le_max_left _ _)
  obtain ⟨fd, g, hl, hx⟩ := Met.grown t m hs hB h0 hstep (n - 1) (by omega)
  obtain ⟨x, hxm, e⟩ := List.mem_map.mp (g.length (by omega) v hv)
  rw [← e]; exact (hx x hxm).2
end Tw
namespace Tw
section
variable {n : Nat} {rs : List Road} {f : Int->Int->Int}
theorem Met.joins {p q : Int} {r : Road} (t : Tree n rs) (hr : r ∈ rs) (j : Joins r p q) : p ∈ pl n/\q ∈ pl n/\1 ≤ r.2.2 := by
  obtain ⟨m1, m2, _⟩ := t.tr.places r hr
  rcases j with ⟨e1, e2⟩ | ⟨e1, e2⟩
  · rw [← e1, ← e2]; exact ⟨m1, m2, t.len r hr⟩
  · rw [← e1, ← e2]; exact ⟨m2, m1, t.len r hr⟩
theorem Met.tri (t : Tree n rs) (m : Met rs (pl n) f) {a c d : Int} (ha : a ∈ pl n) (hc : c ∈ pl n) (hd : d ∈ pl n) : f c d ≤ f c a + f a d := by
  refine Met.ind t m ha (P := fun d => f c d ≤ f c a + f a d) ?_ (fun r hr p q hp hq j e ih => ?_) d hd
  · have := m.zero a ha; omega
  · have l := (Met.joins t hr j).2.2
    rcases m.two hc hr j with z | z
    · show f c q ≤ _; have ih' : f c p ≤ f c a + f a p := ih; omega
    · show f c q ≤ _; have ih' : f c p ≤ f c a + f a p := ih; omega
theorem Met.cut (t : Tree n rs) (m : Met rs (pl n) f) {r : Road} (hr : r ∈ rs) {p q : Int} (j : Joins r p q) {x y : Int} (hx : x ∈ pl n) (hy : y ∈ pl n) (ex : f x q = f x p + r.2.2) (ey : f p y = f q y + r.2.2) : f x y = f x p + r.2.2 + f q y := by
  obtain ⟨hp, hq, hl⟩ := Met.joins t hr j
  have key : ∀ u ∈ pl n, f p u = f q u + r.2.2->f x u = f x p + r.2.2 + f q u/\∃ w, ∃ r0 ∈ rs, Joins r0 u w/\f x u = f x w + r0.2.2/\((w = p/\u = q) ∨ f q w < f q u) := by
    refine Met.ind t m hq (P := fun u => f p u = f q u + r.2.2->f x u = f x p + r.2.2 + f q u/\∃ w, ∃ r0 ∈ rs, Joins r0 u w/\f x u = f x w + r0.2.2/\((w = p/\u = q) ∨ f q w < f q u)) ?_ (fun r' hr' u v hu hv j' e ih ev => ?_)
    · intro _
      have z := m.zero q hq
      exact ⟨by omega, p, r, hr, j.symm, ex, .inl ⟨rfl, rfl⟩⟩
    · have hl' := (Met.joins t hr' j').2.2
      have eu : f p u = f q u + r.2.2 := by
        have s1 := m.sym p hp u hu
        have s2 := m.sym q hq u hu
        rcases m.two hu hr j with z | z
        ·
          rcases m.two hp hr' j' with y1 | y1 <;> omega
        · omega
      obtain ⟨e1, w, r0, hr0, j0, e2, e3⟩ := ih eu
      rcases m.two hx hr' j' with z | z
      · exact ⟨by omega, u, r', hr', j'.symm, z, .inr (by omega)⟩
      · exfalso
        have hw : v = w := m.one x hx r' hr' r0 hr0 u v w j' j0 z e2
        rcases e3 with ⟨e4, e5⟩ | e4
        · rw [hw, e4] at ev
          have z0 := m.zero p hp
          have nn := m.nn q hq p hp
          omega
        · rw [hw] at e; omega
  exact (key y hy ey).1
end
end Tw
namespace Tw
section
variable {n : Nat} {rs : List Road} {f : Int->Int->Int}
end
end Tw
namespace Tw
section
variable {n : Nat} {rs : List Road} {f : Int->Int->Int}
theorem Met.zero_eq (t : Tree n rs) (m : Met rs (pl n) f) {a x : Int} (ha : a ∈ pl n) (hx : x ∈ pl n) (h : f a x = 0) : x = a := by
  have key : x = a ∨ 0 < f a x := Met.ind t m ha (P := fun x => x = a ∨ 0 < f a x) (.inl rfl) (fun r hr p q hp hq j e _ => by
    have h1 := m.nn a ha p hp
    have h2 := t.len r hr
    exact .inr (by omega)) x hx
  rcases key with e | e
  · exact e
  · omega
theorem Met.cross (t : Tree n rs) (m : Met rs (pl n) f) {r q : Road} (hr : r ∈ rs) (hq : q ∈ rs) {a b u v : Int} (j : Joins r a b) (k : Joins q u v) (su : f a u < f b u) (sv : ¬ f a v < f b v) : u = a/\v = b := by
  obtain ⟨ha, hb, hl⟩ := Met.joins t hr j
  obtain ⟨hu, hv, hk⟩ := Met.joins t hq k
  have eu : f u b = f u a + r.2.2 := by
    rcases m.two hu hr j with e | e
    · exact e
    · have h1 := m.sym u hu a ha
      have h2 := m.sym u hu b hb
      omega
  have ev : f a v = f b v + r.2.2 := by
    have h1 := m.sym v hv a ha
    have h2 := m.sym v hv b hb
    rcases m.two hv hr j with e | e
    · omega
    · omega
  have c := Met.cut t m hr j hu hv eu ev
  have z := m.zero u hu
  have lq : f u v = q.2.2 := by
    have := m.nn u hu v hv
    rcases m.two hu hq k with e | e
    · omega
    · omega
  have s1 := m.sym u hu a ha
  have s2 := m.sym u hu b hb
  have n1 := m.nn a ha u hu
  have n2 := m.nn b hb v hv
  have n3 := m.nn a ha v hv
  have n4 := m.nn b hb u hu
  refine ⟨Met.zero_eq t m ha hu ?_, Met.zero_eq t m hb hv ?_⟩
  · rcases m.two ha hq k with e | e <;> omega
  · rcases m.two hb hq k with e | e <;> omega
end
end Tw
namespace Tw
section
variable {n : Nat} {rs : List Road} {f : Int->Int->Int}
end
end Tw
namespace Tw
section
variable {n : Nat} {rs : List Road} {f : Int->Int->Int}
end
end Tw
namespace Tw
section
variable {n : Nat} {rs : List Road} {f : Int->Int->Int}
end
end Tw
namespace Tw
section
variable {n : Nat} {rs : List Road} {f : Int->Int->Int}
end
end Tw
namespace Tw
section
variable {n : Nat} {rs : List Road} {f : Int->Int->Int}
instance decJ16 (r : Road) (u v : Int) : Decidable (Joins r u v) := by unfold Joins; infer_instance
theorem Tree.idx (t : Tree n rs) {i j : Nat} {r q : Road} (hi : rs[i]? = some r) (hj : rs[j]? = some q) {u v : Int} (a : Joins r u v) (b : Joins q u v) : i = j := by
  have ap := t.tr.apart
  have key : ∀ {i j : Nat} {r q : Road}, rs[i]? = some r->rs[j]? = some q->Joins r u v->Joins q u v->¬ i < j := fun {i j r q} hi hj a b lt => by
    obtain ⟨h1, e1⟩ := List.getElem?_eq_some_iff.mp hi
    obtain ⟨h2, e2⟩ := List.getElem?_eq_some_iff.mp hj
    have := List.pairwise_iff_getElem.mp ap i j h1 h2 lt
    rw [e1, e2] at this
    rcases a with ⟨x, y⟩ | ⟨x, y⟩ <;> rcases b with ⟨z, w⟩ | ⟨z, w⟩
    · exact this.1 ⟨x.trans z.symm, y.trans w.symm⟩
    · exact this.2 ⟨x.trans w.symm, y.trans z.symm⟩
    · exact this.2 ⟨x.trans w.symm, y.trans z.symm⟩
    · exact this.1 ⟨x.trans z.symm, y.trans w.symm⟩
  have h1 := key hi hj a b
  have h2 := key hj hi b a
  omega
end
end Tw
namespace Tw
section
variable {n : Nat} {rs : List Road} {f : Int->Int->Int}
theorem exists_max : ∀ (l : List Int) (g : Int->Int), l ≠ []->∃ x ∈ l, ∀ y ∈ l, g y ≤ g x
  | [], _, h => absurd rfl h
  | [a], g, _ => ⟨a, List.mem_singleton.mpr rfl, fun y hy => by rw [List.mem_singleton.mp hy]; exact Int.le_refl _⟩
  | a :: b :: t, g, _ => by
    obtain ⟨x, hx, h⟩ := exists_max (b :: t) g (by simp)
    by_cases e : g x ≤ g a
    · refine ⟨a, List.mem_cons_self, fun y hy => ?_⟩
      rcases List.mem_cons.mp hy with z | z
      · rw [z]; exact Int.le_refl _
      · exact Int.le_trans (h y z) e
    · refine ⟨x, List.mem_cons_of_mem _ hx, fun y hy => ?_⟩
      rcases List.mem_cons.mp hy with z | z
      · rw [z]; omega
      · exact h y z
end
end Tw
namespace Tw
end Tw
namespace Tw
end Tw
namespace Tw
variable {n : Nat} {rs : List Road} {f : Int->Int->Int}
end Tw
namespace Tw
end Tw
namespace Tw
end Tw
namespace Tw
section
variable {n : Nat} {rs : List Road} {f : Int->Int->Int}
theorem Met.par (t : Tree n rs) (m : Met rs (pl n) f) {s : Int} (hs : s ∈ pl n) {x : Int} (hx : x ∈ pl n) (ne : x ≠ s) : ∃ r ∈ rs, ∃ p, Joins r p x/\f s x = f s p + r.2.2 := by
  refine Met.ind t m hs (P := fun v => v ≠ s->∃ r ∈ rs, ∃ p, Joins r p v/\f s v = f s p + r.2.2) (fun h => absurd rfl h) (fun r hr p q _ _ j e _ _ => ⟨r, hr, p, j, e⟩) x hx ne
theorem Met.off (t : Tree n rs) (m : Met rs (pl n) f) {s x y p : Int} {r : Road} (hs : s ∈ pl n) (hx : x ∈ pl n) (hy : y ∈ pl n) (hr : r ∈ rs) (j : Joins r p x) (e : f s x = f s p + r.2.2) (ne : y ≠ x) (b : f x y + f y s = f x s) : f p y + f y s = f p s := by
  obtain ⟨q, hq, p', j', e'⟩ := Met.par t m hy hx (fun z => ne z.symm)
  obtain ⟨hp', _, l1⟩ := Met.joins t hq j'
  obtain ⟨hp, _, l2⟩ := Met.joins t hr j
  have tri := Met.tri t m (a := y) (c := p') (d := s) hy hp' hs
  have s1 := m.sym x hx y hy
  have s2 := m.sym p' hp' y hy
  have s3 := m.sym p' hp' s hs
  have s4 := m.sym x hx s hs
  have s5 := m.sym p hp s hs
  have s6 := m.sym p hp y hy
  have two := m.two hs hq j'
  have e2 : f s x = f s p' + q.2.2 := by
    rcases two with z | z
    · exact z
    · omega
  have ep : p = p' := m.one s hs r hr q hq x p p' j.symm j'.symm e e2
  subst ep
  omega
theorem WayOf.tail {a b q : Int} {ws : List Int} (w : WayOf n rs f a b (a :: q :: ws)) : WayOf n rs f q b (q :: ws) := by
  refine ⟨fun i p r h1 h2 => w.d (i + 1) p r (by simpa using h1) (by simpa using h2), rfl, ?_, fun x hx => w.rng x (List.mem_cons_of_mem _ hx)⟩
  have := w.last
  simpa using this
theorem WayOf.mem (t : Tree n rs) (m : Met rs (pl n) f) {b : Int} (hb : b ∈ pl n) {y : Int} (hy : y ∈ pl n) : ∀ {ws : List Int} {a : Int}, WayOf n rs f a b ws->(y ∈ ws<->f a y + f y b = f a b)
  | [], a, w => by have := w.first; simp at this
  | [x], a, w => by
    have e1 : x = a := by simpa using w.first
    have e2 : x = b := by simpa using w.last
    subst e1
    subst e2
    rw [List.mem_singleton]
    have n1 := m.nn x hb y hy
    have n2 := m.sym x hb y hy
    have z := m.zero x hb
    constructor
    · rintro rfl; omega
    · intro h
      exact Met.zero_eq t m hb hy (by omega)
  | x :: q :: ws, a, w => by
    have e1 : x = a := by simpa using w.first
    subst e1
    have ih := WayOf.mem t m hb hy (WayOf.tail w)
    obtain ⟨r, hr, j, e⟩ := w.d 0 x q rfl rfl
    have hx := w.rng x (List.mem_cons_self ..)
    have hq := w.rng q (List.mem_cons_of_mem _ (List.mem_cons_self ..))
    obtain ⟨_, _, l1⟩ := Met.joins t hr j
    have s1 := m.sym b hb x hx
    have s2 := m.sym b hb q hq
    have s3 := m.sym y hy x hx
    have s4 := m.sym y hy q hq
    have zx := m.zero x hx
    constructor
    · intro h
      rcases List.mem_cons.mp h with rfl | h
      · omega
      · have g := ih.mp h
        have tri := Met.tri t m (a := y) (c := x) (d := b) hy hx hb
        rcases m.two hy hr j with z | z
        · omega
        · omega
    · intro h
      by_cases ne : y = x
      · rw [ne]; exact List.mem_cons_self ..
      · exact List.mem_cons_of_mem _ (ih.mpr (Met.off t m hb hx hy hr j.symm e ne h))
theorem nodup_sub : ∀ {l k : List Int}, l.Nodup->(∀ x ∈ l, x ∈ k)->l.length ≤ k.length
  | [], k, _, _ => Nat.zero_le _
  | x :: l, k, nd, sub => by
    have nd' := List.nodup_cons.mp nd
    have hx := sub x (List.mem_cons_self ..)
    have := nodup_sub (l := l) (k := k.erase x) nd'.2 fun y hy => (List.mem_erase_of_ne (by rintro rfl; exact nd'.1 hy)).mpr (sub y (List.mem_cons_of_mem _ hy))
    rw [List.length_erase_of_mem hx] at this
    have := List.length_pos_of_mem hx
    rw [List.length_cons]
    omega
theorem nodup_pl {l : List Int} {m : Nat} (nd : l.Nodup) (h : ∀ x ∈ l, x ∈ pl m) : l.length ≤ m := by
  have := nodup_sub nd h
  rw [pl_length] at this
  exact this
def farE (f : Int->Int->Int) (s : Int) (r : Road) : Int := if f s r.1 < f s r.2.1 then r.2.1 else r.1
def nearE (f : Int->Int->Int) (s : Int) (r : Road) : Int := if f s r.1 < f s r.2.1 then r.1 else r.2.1
theorem far_near (t : Tree n rs) (m : Met rs (pl n) f) {s : Int} (hs : s ∈ pl n) {r : Road} (hr : r ∈ rs) : Joins r (nearE f s r) (farE f s r)/\f s (farE f s r) = f s (nearE f s r) + r.2.2 := by
  have l1 := t.len r hr
  unfold farE nearE
  rcases m.road s hs r hr with e | e
  · rw [if_neg (by omega), if_neg (by omega)]
    exact ⟨.inr ⟨rfl, rfl⟩, e⟩
  · rw [if_pos (by omega), if_pos (by omega)]
    exact ⟨.inl ⟨rfl, rfl⟩, e⟩
end
end Tw
namespace Tw
section
variable {n : Nat} {rs : List Road} {f : Int->Int->Int}
end
end Tw
namespace Tw
section
variable {sv : Nat->List Int} {g : Nat->Int} {w : Nat->Int}
end
end Tw
namespace Tw
variable {f : Int->Int->Int} {hs ss hs' ss' : List Int} {c c' r R R' : Int}
end Tw
namespace Tw
end Tw
namespace Tw
variable {n : Nat} {rs : List Road} {f : Int->Int->Int}
theorem WayOf.uniq (t : Tree n rs) (m : Met rs (pl n) f) {b : Int} (hb : b ∈ pl n) : ∀ {ws ws' : List Int} {a : Int}, WayOf n rs f a b ws->WayOf n rs f a b ws'->ws = ws'
  | [], _, _, w, _ => by have := w.first; simp at this
  | _ :: _, [], _, _, w' => by have := w'.first; simp at this
  | [x], [y], a, w, w' => by
    have e1 : x = a := by simpa using w.first
    have e2 : y = a := by simpa using w'.first
    rw [e1, e2]
  | [x], y :: z :: l, a, w, w' => by
    exfalso
    have e1 : x = a := by simpa using w.first
    have e2 : x = b := by simpa using w.last
    have e3 : y = a := by simpa using w'.first
    obtain ⟨r, hr, j, e⟩ := w'.d 0 y z rfl rfl
    obtain ⟨_, hz, l1⟩ := Met.joins t hr j
    have := m.zero b hb
    have := m.nn b hb z hz
    rw [e3, ← e1, e2] at e
    omega
  | x :: z :: l, [y], a, w, w' => by
    exfalso
    have e1 : y = a := by simpa using w'.first
    have e2 : y = b := by simpa using w'.last
    have e3 : x = a := by simpa using w.first
    obtain ⟨r, hr, j, e⟩ := w.d 0 x z rfl rfl
    obtain ⟨_, hz, l1⟩ := Met.joins t hr j
    have := m.zero b hb
    have := m.nn b hb z hz
    rw [e3, ← e1, e2] at e
    omega
  | x :: p :: l, y :: q :: l', a, w, w' => by
    have e1 : x = a := by simpa using w.first
    have e2 : y = a := by simpa using w'.first
    subst e1
    subst e2
    obtain ⟨r, hr, j, e⟩ := w.d 0 y p rfl rfl
    obtain ⟨r', hr', j', e'⟩ := w'.d 0 y q rfl rfl
    have ep : p = q := m.one b hb r hr r' hr' y p q j j' e e'
    subst ep
    rw [WayOf.uniq t m hb w.tail w'.tail]
theorem WayOf.ex (t : Tree n rs) (m : Met rs (pl n) f) {a b : Int} (ha : a ∈ pl n) (hb : b ∈ pl n) : ∃ ws, WayOf n rs f a b ws := by
  refine Met.ind t m hb (P := fun a => ∃ ws, WayOf n rs f a b ws) ⟨[b], fun i p q _ h => by simp at h, rfl, rfl, fun x hx => by rw [List.mem_singleton.mp hx]; exact hb⟩ (fun r hr p q hp hq j e => ?_) a ha
  rintro ⟨ws, w⟩
  have wl : ws ≠ [] := by rintro rfl; have := w.first; simp at this
  have lp := List.length_pos_iff.mpr wl
  refine ⟨q :: ws, fun i u v h1 h2 => ?_, rfl, ?_, fun x hx => ?_⟩
  · cases i with
    | zero =>
      have e1 : q = u := by simpa using h1
      have e2 : some p = some v := by rw [← w.first]; simpa using h2
      cases e2
      subst e1
      exact ⟨r, hr, j.symm, e⟩
    | succ i => exact w.d i u v (by simpa using h1) (by simpa using h2)
  · have := w.last
    show (q :: ws)[ws.length + 1 - 1]? = some b
    rw [Nat.add_sub_cancel, show ws.length = ws.length - 1 + 1 by omega]
    simpa using this
  · rcases List.mem_cons.mp hx with rfl | hx
    · exact hq
    · exact w.rng x hx
theorem WayOf.cat (t : Tree n rs) (m : Met rs (pl n) f) {a q b : Int} {ws ws' : List Int} (ha : a ∈ pl n) (hq : q ∈ pl n) (hb : b ∈ pl n) (w : WayOf n rs f a q ws) (w' : WayOf n rs f q b (q :: ws')) (e : f a b = f a q + f q b) : WayOf n rs f a b (ws ++ ws') := by
  have wl : ws ≠ [] := by rintro rfl; have := w.first; simp at this
  have lp := List.length_pos_iff.mpr wl
  have on : ∀ y ∈ ws, f b y = f b q + f q y := fun y hy => by
    have yp := w.rng y hy
    have e1 := (WayOf.mem t m hq yp w).mp hy
    have t1 := Met.tri t m yp ha hb
    have t2 := Met.tri t m hq yp hb
    have s1 := m.sym y yp q hq
    have s2 := m.sym q hq b hb
    have s3 := m.sym b hb y yp
    omega
  refine ⟨fun i u v h1 h2 => ?_, by rw [List.getElem?_append_left lp]; exact w.first, ?_, fun x hx => ?_⟩
  · by_cases c : i + 1 < ws.length
    · rw [List.getElem?_append_left (by omega)] at h1
      rw [List.getElem?_append_left c] at h2
      obtain ⟨r, hr, j, e'⟩ := w.d i u v h1 h2
      refine ⟨r, hr, j, ?_⟩
      rw [on u (List.mem_of_getElem? h1), on v (List.mem_of_getElem? h2)]
      omega
    · by_cases c2 : i < ws.length
      · have ei : i = ws.length - 1 := by omega
        rw [List.getElem?_append_left c2, ei, w.last] at h1
        cases h1
        rw [List.getElem?_append_right (by omega)] at h2
        exact w'.d 0 q v rfl (by rw [List.getElem?_cons_succ, ← h2]; congr 1; omega)
      · rw [List.getElem?_append_right (by omega)] at h1 h2
        refine w'.d (i - ws.length + 1) u v (by rw [List.getElem?_cons_succ]; exact h1) ?_
        rw [List.getElem?_cons_succ, ← h2]
        congr 1
        omega
  · have hl := w'.last
    rw [List.length_append]
    cases ws' with
    | nil =>
      have e2 : q = b := by simpa using hl
      rw [List.append_nil, List.length_nil, Nat.add_zero, ← e2]
      exact w.last
    | cons z l =>
      rw [List.getElem?_append_right (by rw [List.length_cons]; omega)]
      have : (q :: z :: l)[(z :: l).length - 1 + 1]? = some b := by
        rw [← hl]
        congr 1
      rw [List.getElem?_cons_succ] at this
      rw [← this]
      congr 1
      rw [List.length_cons]
      omega
  · rcases List.mem_append.mp hx with hx | hx
    · exact w.rng x hx
    · exact w'.rng x (List.mem_cons_of_mem _ hx)
theorem beyond_pre (t : Tree n rs) (m : Met rs (pl n) f) {W : Int->List Int} (hW : ∀ x ∈ pl n, WayOf n rs f 0 x (W x)) {r : Road} {p q : Int} (hr : r ∈ rs) (j : Joins r p q) (e0 : f 0 q = f 0 p + r.2.2) {x : Int} (hx : x ∈ pl n) : f q x < f p x<->W q <+: W x := by
  have z0 : (0 : Int) ∈ pl n := mem_pl.mpr ⟨Int.le_refl _, by have := t.lo; omega⟩
  obtain ⟨hp, hq, l1⟩ := Met.joins t hr j
  have s1 := m.sym x hx p hp
  have s2 := m.sym x hx q hq
  constructor
  · intro h
    have e1 : f p x = f q x + r.2.2 := by
      rcases m.two hx hr j with z | z <;> omega
    have e2 := Met.cut t m hr j z0 hx e0 e1
    obtain ⟨ws', w'⟩ := WayOf.ex t m hq hx
    cases ws' with
    | nil => have := w'.first; simp at this
    | cons y l =>
      have ey : y = q := by simpa using w'.first
      subst ey
      have := WayOf.uniq t m hx (hW x hx) (WayOf.cat t m z0 hq hx (hW y hq) w' (by omega))
      rw [this]
      exact List.prefix_append _ _
  · intro h
    have qm : q ∈ W q := by
      have := (hW q hq).last
      exact List.mem_of_getElem? this
    have e1 := (WayOf.mem t m hx hq (hW x hx)).mp (h.subset qm)
    have t1 := Met.tri t m hp z0 hx
    rcases m.two hx hr j with z | z <;> omega
theorem choose_list {P : Nat->Nat->Prop} : ∀ (m : Nat), (∀ i, i < m->∃ k, P i k)->∃ js : List Nat, js.length = m/\∀ i k, js[i]? = some k->P i k
  | 0, _ => ⟨[], rfl, fun i k h => by simp at h⟩
  | m + 1, h => by
    obtain ⟨js, l, e⟩ := choose_list m fun i hi => h i (by omega)
    obtain ⟨k, hk⟩ := h m (by omega)
    refine ⟨js ++ [k], by rw [List.length_append, l]; rfl, fun i q hq => ?_⟩
    by_cases c : i < js.length
    · rw [List.getElem?_append_left c] at hq
      exact e i q hq
    · rw [List.getElem?_append_right (by omega)] at hq
      have : i - js.length = 0 := by
        have := (List.getElem?_eq_some_iff.mp hq).1
        simp at this; omega
      rw [this] at hq
      have e1 : k = q := by simpa using hq
      have e2 : i = m := by omega
      rw [e2, ← e1]
      exact hk
def TourOk (rs : List Road) (ws : List Int) (js : List Nat) : Prop := js.length + 1 = ws.length/\∀ (i k : Nat), js[i]? = some k->∃ r p q, rs[k]? = some r/\ws[i]? = some p/\ws[i + 1]? = some q/\Joins r p q
theorem WayOf.tour {a b : Int} {ws : List Int} (w : WayOf n rs f a b ws) : ∃ js, TourOk rs ws js := by
  have wl : ws ≠ [] := by rintro rfl; have := w.first; simp at this
  have lp := List.length_pos_iff.mpr wl
  obtain ⟨js, l, h⟩ := choose_list (P := fun i k => ∃ r p q, rs[k]? = some r/\ws[i]? = some p/\ws[i + 1]? = some q/\Joins r p q) (ws.length - 1) fun i hi => by
    have h1 : ws[i]? = some ws[i] := List.getElem?_eq_getElem (by omega)
    have h2 : ws[i + 1]? = some ws[i + 1] := List.getElem?_eq_getElem (by omega)
    obtain ⟨r, hr, j, _⟩ := w.d i _ _ h1 h2
    obtain ⟨k, hk⟩ := List.mem_iff_getElem?.mp hr
    exact ⟨k, r, _, _, hk, h1, h2, j⟩
  exact ⟨js, by omega, h⟩
theorem turn_at {S : Int->Prop} {b : Int} : ∀ {l : List Int} {a : Int}, l[0]? = some a->S a->l[l.length - 1]? = some b->¬ S b->∃ i p q, l[i]? = some p/\l[i + 1]? = some q/\S p/\¬ S q
  | [], a, h, _, _, _ => by simp at h
  | [x], a, h, sa, h', nb => by
    have e1 : x = a := by simpa using h
    have e2 : x = b := by simpa using h'
    exact absurd (by rw [← e2, e1]; exact sa) nb
  | x :: y :: l, a, h, sa, h', nb => by
    have e1 : x = a := by simpa using h
    by_cases sy : S y
    · obtain ⟨i, p, q, h1, h2, h3, h4⟩ := turn_at (S := S) (b := b) (l := y :: l) rfl sy (by simpa using h') nb
      exact ⟨i + 1, p, q, by simpa using h1, by simpa using h2, h3, h4⟩
    · exact ⟨0, x, y, rfl, rfl, by rw [e1]; exact sa, sy⟩
theorem WayOf.crosses (t : Tree n rs) (m : Met rs (pl n) f) {a b : Int} {ws : List Int} {js : List Nat} (w : WayOf n rs f a b ws) (o : TourOk rs ws js) {k : Nat} {r : Road} {p q : Int} (hk : rs[k]? = some r) (j : Joins r p q) (sa : f p a < f q a) (sb : ¬ f p b < f q b) : k ∈ js := by
  obtain ⟨i, u, v, h1, h2, su, sv⟩ := turn_at (S := fun x => f p x < f q x) w.first sa w.last sb
  have il := (List.getElem?_eq_some_iff.mp h2).1
  have ijl : i < js.length := by have := o.1; omega
  have hj : js[i]? = some js[i] := List.getElem?_eq_getElem ijl
  obtain ⟨r', u', v', hk', g1, g2, jr⟩ := o.2 i _ hj
  rw [h1] at g1
  rw [h2] at g2
  cases g1
  cases g2
  obtain ⟨rfl, rfl⟩ := Met.cross t m (List.mem_of_getElem? hk) (List.mem_of_getElem? hk') j jr su sv
  rw [t.idx hk hk' j jr]
  exact List.getElem_mem _
theorem leaf_beyond (t : Tree n rs) (m : Met rs (pl n) f) {r : Road} {p q : Int} (hr : r ∈ rs) (j : Joins r p q) : ∃ x ∈ pl n, f q x < f p x/\deg rs x = 1 := by
  obtain ⟨hp, hq, l1⟩ := Met.joins t hr j
  have zp := m.zero p hp
  have zq := m.zero q hq
  have qq : f q q < f p q := by
    rcases m.two hp hr j with z | z
    · omega
    · have := m.nn p hp q hq
      omega
  obtain ⟨x, hx, mx⟩ := exists_max ((pl n).filter fun x => decide (f q x < f p x)) (f q) (fun e => by
    have : q ∈ (pl n).filter fun x => decide (f q x < f p x) := List.mem_filter.mpr ⟨hq, decide_eq_true qq⟩
    rw [e] at this; cases this)
  obtain ⟨xp, xs⟩ := List.mem_filter.mp hx
  have xs := of_decide_eq_true xs
  refine ⟨x, xp, xs, ?_⟩
  have len : ∀ y ∈ pl n, f q y < f p y->f p y = f q y + r.2.2 := fun y hy h => by
    have s1 := m.sym y hy p hp
    have s2 := m.sym y hy q hq
    rcases m.two hy hr j with z | z <;> omega
  have up : ∀ {y l : Int}, (y, l) ∈ nbOf rs x->∃ r' ∈ rs, Joins r' x y/\f p x = f p y + r'.2.2 := fun {y l} hy => by
    obtain ⟨r', hr', j', el⟩ := (t.nb_mem x y l).mp hy
    obtain ⟨_, yp, lr⟩ := Met.joins t hr' j'
    rcases m.two hp hr' j' with e | e
    · exfalso
      have ys : f q y < f p y := by
        rcases m.two hq hr' j' with z | z <;> omega
      have := mx y (List.mem_filter.mpr ⟨yp, decide_eq_true ys⟩)
      have := len x xp xs
      have := len y yp ys
      rcases m.two hq hr' j' with z | z <;> omega
    · exact ⟨r', hr', j', e⟩
  have ne : x ≠ p := by
    rintro rfl
    have := m.nn q hq x hp
    omega
  obtain ⟨r', hr', p', j', e'⟩ := Met.par t m hp xp ne
  have mem := (t.nb_mem x p' r'.2.2).mpr ⟨r', hr', j'.symm, rfl⟩
  have nd := nbOf_nodup x rs
  rw [← t.nb]
  match e : nbOf rs x, mem, nd with
  | [], mem, _ => cases mem
  | [_], _, _ => rfl
  | a :: b :: tl, _, nd =>
    exfalso
    obtain ⟨ra, ha, ja, ea⟩ := up (y := a.1) (l := a.2) (by rw [e]; exact List.mem_cons_self)
    obtain ⟨rb, hb, jb, eb⟩ := up (y := b.1) (l := b.2) (by rw [e]; exact List.mem_cons_of_mem _ List.mem_cons_self)
    have := m.one p hp ra ha rb hb x a.1 b.1 ja jb ea eb
    exact (List.nodup_cons.mp (show (a.1 :: b.1 :: tl.map (·.1)).Nodup from nd)).1 (by rw [this]; exact List.mem_cons_self)
theorem half_away {L h : Nat} {S : Nat->Prop} (h1 : 1 ≤ h) (h2 : 2 * h ≤ L) (cv : ∀ i j k, i ≤ j->j ≤ k->k < L->S i->S k->S j) (yes : ∃ i, i < L/\S i) (no : ∃ i, i < L/\¬ S i) : ∃ i, i + h < L/\¬ (S i<->S (i + h)) := by
  apply Classical.byContradiction
  intro hn
  have al : ∀ i, i + h < L->(S i<->S (i + h)) := fun i hi => Classical.byContradiction fun c => hn ⟨i, hi, c⟩
  have least : ∃ s, s < L/\S s/\∀ i, i < s->¬ S i := by
    obtain ⟨i, hi, si⟩ := yes
    have : ∀ k i, i ≤ k->i < L->S i->∃ s, s < L/\S s/\∀ i, i < s->¬ S i := fun k => by
      induction k with
      | zero => intro i h1 h2 h3; exact ⟨i, h2, h3, fun q hq => by omega⟩
      | succ k ih =>
        intro i h1 h2 h3
        by_cases c : ∃ q, q < i/\S q
        · obtain ⟨q, hq, sq⟩ := c
          exact ih q (by omega) (by omega) sq
        · exact ⟨i, h2, h3, fun q hq sq => c ⟨q, hq, sq⟩⟩
    exact this i i (Nat.le_refl _) hi si
  obtain ⟨s, sl, ss, sm⟩ := least
  by_cases c : h ≤ s
  · have := (al (s - h) (by omega)).mpr (by rw [show s - h + h = s by omega]; exact ss)
    exact sm _ (by omega) this
  · have sh := (al s (by omega)).mp ss
    have s0 : s = 0 := by
      apply Classical.byContradiction
      intro c0
      have := cv s (s - 1 + h) (s + h) (by omega) (by omega) (by omega) ss sh
      exact sm (s - 1) (by omega) ((al (s - 1) (by omega)).mpr this)
    subst s0
    have all : ∀ k j, j ≤ k->j < L->S j := fun k => by
      induction k with
      | zero => intro j hj _; rw [show j = 0 by omega]; exact ss
      | succ k ih =>
        intro j hj jl
        by_cases cj : j ≤ h
        · exact cv 0 j (0 + h) (by omega) (by omega) (by omega) ss sh
        · have := (al (j - h) (by omega)).mp (ih (j - h) (by omega) (by omega))
          rw [show j - h + h = j by omega] at this
          exact this
    obtain ⟨b, hb, nb⟩ := no
    exact nb (all b b (Nat.le_refl _) hb)
end Tw
namespace L2
open PySem PySem.Spec PyProof.Rows
end L2
namespace L2
open PySem PySem.Spec PyProof.Rows Tw
open PySem.W (tabObj CodeHd kla_obj kla_fn envX)
theorem codeAmong_app {pos : Pos} {a b : Int} {c cv : Value} (l : List Value) (h : TriplesOk l) : codeAmong pos (l ++ [rawInt a, rawInt b, c]) = some cv->codeAmong pos l = some cv ∨ cv = c := by
  fun_induction TriplesOk l with
  | case1 =>
    intro e
    simp only [List.nil_append, rawInt, codeAmong] at e
    split at e
    · exact .inr (Option.some.inj e).symm
    · cases e
  | case2 a' t b' u x rest ih =>
    intro e
    simp only [List.cons_append, codeAmong] at e ⊢
    split at e
    · rename_i hh
      left
      rw [if_pos hh]; exact e
    · rename_i hh
      rw [if_neg hh]
      exact ih h e
  | case3 => exact h.elim
section
variable {X : Cx} {pins : List (Addr × Obj)} {σ : St} {H : Hp} {s : Shared} {h' : Heap}
theorem Inv.coded {P c' : Addr} {qs : Array Value} {t' : Nat} {ps : Array Value} {l c : Int} (I : Inv X pins σ H s) (hP : H P = some (.tbl qs)) (hx : Heap.ExtBut P s.heap h') (hge : s.heap.objs.size ≤ c') (hrec : h'.CodeRec (.ref c') (qOf qs)) (h0 : s.heap.get? P = some (tabObj ps)) (htb : h'.get? P = some (tabObj (ps ++ #[rawInt l, rawInt c, .ref c']))) : Inv X pins σ (upd H c' (.cod (qOf qs))) { s with heap := h', toks := t' } := by
  have hn : H c' = none := I.hok.fresh hge
  have neP : ∀ b, H b = none->b ≠ P := fun b n z => by rw [z, hP] at n; cases n
  have neC : ∀ b o, s.heap.get? b = some o->b ≠ c' := fun b o e => Nat.ne_of_lt (Nat.lt_of_lt_of_le (Heap.lt_size e) hge)
  refine I.un ⟨fun b o e n _ _ => hx b o (neP b n) e, fun b o e n _ _ => ⟨o.slots, hx b o (neP b n) e⟩, fun b o e n _ => by rw [upd_ne (neC b o e)]; exact n, fun b o e _ => ?_, fun b xs q => by rw [upd_ne (ne_of_none q hn)]; exact q,
    fun b o u q => by rw [upd_ne (ne_of_none q hn)]; exact q, fun b p q => ⟨#[], by rw [upd_ne (ne_of_none q hn), q]; simp⟩⟩ fun b u e => ?_
  · by_cases hb : b = P
    · exact ⟨_, hb ▸ htb⟩
    · exact ⟨o, hx b o hb e⟩
  · by_cases hb : b = c'
    · subst hb; rw [upd_same] at e; cases e; exact hrec
    · rw [upd_ne hb] at e
      by_cases hbP : b = P
      · subst hbP
        rw [hP] at e; cases e
        obtain ⟨ps', e', tr, f⟩ := (show ObjOk X.prog X.w H s.heap b (.tbl qs) from I.hok b _ hP)
        have e2 := h0.symm.trans e'
        have : ps = ps' := by injection e2 with e2; injection e2 with _ _ e3; injection e3
        subst this
        have el : (ps ++ #[rawInt l, rawInt c, Value.ref c']).toList = ps.toList ++ [rawInt l, rawInt c, Value.ref c'] := by simp
        refine ⟨_, htb, by rw [el]; exact TriplesOk_snoc _ _ _ _ tr, fun pos cv hc => ?_⟩
        rw [el] at hc
        rcases codeAmong_app _ tr hc with hc | hc
        · obtain ⟨cc, e1, e2⟩ := f pos cv hc
          exact ⟨cc, e1, by rw [upd_ne (ne_of_none e2 hn)]; exact e2⟩
        · exact ⟨c', hc, upd_same⟩
      · refine (I.hok b u e).stay (fun d v hd q => hx d v ?_ q) (fun d q => by rw [upd_ne (ne_of_none q hn)]; exact q) fun d v _ q => by rw [upd_ne (ne_of_none q hn)]; exact q
        rcases hd with rfl | hd
        · exact hbP
        · intro z
          rw [z, hP] at hd; cases hd
theorem lam_make {params : Arguments} {body : Expr} {scope : Scope} {pos : Pos} {c P : Addr} {qs : Array Value} {clos : List (Str × Addr)} {Q : Value->Shared->Prop} {E : Value->Shared->Prop} {A : Around} (I : Inv X pins σ H s) (hP : H P = some (.tbl qs)) (hq : X.env.qual ++ "<lambda>" = qOf qs) (hcode : X.env.code = .ref c) (C : CodeHd X.base c P) (hdef : defaultsOf params X.env = ([], [])) (hcl : closureFor scope X.env = pure clos) (h : ∀ (f c' : Addr) (ctv : Value) (s' : Shared) (H' : Hp), Inv X pins σ H' s'->Same H H'->s'.heap.get? f = some (kla_obj "<lambda>" (qOf qs) params body scope clos ((X.mg "__name__").getD .none) c' ctv)->H' f = none->s.heap.objs.size ≤ f->f < s'.heap.objs.size->H' c' = some (.cod (qOf qs))->Q (.ref f) s') : wpAny (model X.prog X.w) A (eval (.Lambda params body scope pos) X.env) Q E s := by
  obtain ⟨ps, e0, tr, fP⟩ := (show ObjOk X.prog X.w H s.heap P (.tbl qs) from I.hok P _ hP)
  have hg : s.heap.Ns mainGlobals X.mg := I.mod.glob.keeps I.bk
  have neP : ∀ b o, X.base.get? b = some o->b ≠ P := fun b o e z => by
    have := (I.bs b o e).2
    rw [z, hP] at this; cases this
  obtain ⟨og, es, ep, eg, dg, _⟩ := id I.mod.glob
  have hgP : mainGlobals ≠ P := neP _ _ eg
  have hb : s.heap.BuiltinsAt X.mg P := by
    obtain ⟨bm, ob, b1, b2, b3, b4, b5, b6⟩ := I.mod.bmain
    refine ⟨bm, ob, b1, b2, fun z => ?_, neP _ _ b3, I.bk _ _ b3, b4, b5, b6⟩
    rw [z, eg] at b3; cases b3
    rw [dg] at b6; cases b6
  have C' := C.keeps I.bk
  refine PySem.W.kla_eval hdef ?_
  rw [hq]
  cases hc : codeAmong pos ps.toList with
  | none =>
    refine PySem.W.kla_makeFunction hcl I.ok.glob hg hcode C' e0 tr hc hgP hb fun c' ctv h1 tk hx hge hlt hrec htb => ?_
    have I1 : Inv X pins σ (upd H c' (.cod (qOf qs))) { s with heap := h1, toks := s.toks } := I.coded hP hx hge hrec e0 htb
    have I2 := I1.kept (h' := h1.push (kla_obj "<lambda>" (qOf qs) params body scope clos ((X.mg "__name__").getD .none) c' ctv)) (t' := tk) (fun b u e => Heap.get?_push_of_some _ e)
    refine h h1.objs.size c' ctv _ _ I2 (same_upd (I.hok.fresh hge)) (Heap.get?_push_size _ rfl) (I1.hok.fresh (Nat.le_refl _)) (Nat.le_of_lt (Nat.lt_of_le_of_lt hge hlt)) (by show _ < (h1.push _).objs.size; rw [Heap.size_push]; omega) upd_same
  | some cv =>
    obtain ⟨c', rfl, hc'⟩ := fP pos cv hc
    refine PySem.W.kla_makeFunctionHit hcl I.ok.glob hg hcode C' e0 tr hc hb fun ctv h1 tk hk hsz => ?_
    have I1 : Inv X pins σ H { s with heap := h1, toks := s.toks } := I.kept hk
    have I2 := I1.kept (h' := h1.push (kla_obj "<lambda>" (qOf qs) params body scope clos ((X.mg "__name__").getD .none) c' ctv)) (t' := tk) (fun b u e => Heap.get?_push_of_some _ e)
    exact h h1.objs.size c' ctv _ _ I2 (Same.refl _) (Heap.get?_push_size _ rfl) (I1.hok.fresh (Nat.le_refl _)) hsz (by show _ < (h1.push _).objs.size; rw [Heap.size_push]; omega) hc'
end
end L2
namespace L2
open PySem PySem.Spec PyProof.Rows Tw
open PySem.W (tabObj CodeHd kla_obj kla_fn envX)
def cxLam (P : Program) (w : World) (K : PySem.W.Frag) (mg : Str->Option Value) (base : Heap) (M : List Str) (q : Str) (scope : Scope) (f : Addr) (cd : Value) (clos : List (Str × Addr)) (A : Around) (outer : List Env) (s : Shared) (H : Hp) : Cx where
  prog := P
  w := w
  K := K
  mg := mg
  base := base
  A := A.deeper (envX q scope s.heap.objs.size f cd clos)
  N := M
  s₀ := s
  H₀ := H
  env := envX q scope s.heap.objs.size f cd clos
  outer := outer
  stack := envX q scope s.heap.objs.size f cd clos :: outer
  ex := []
  fn := fun _ => false
  calm := true
  pn := []
  xe := fun _ _ => False
structure LamScope (sc : Scope) (x : Str) : Prop where
  kind : sc.kind = .function
  co : sc.isCoroutine = false
  gen : sc.isGenerator = false
  nocell : ∀ y ∈ sc.names, y.2 ≠ .cell
  par : sc.names.lookup x = some .local
theorem lam_run {P : Program} {w : World} {K : PySem.W.Frag} {mg : Str->Option Value} {base : Heap} {M : List Str} {q x : Str} {params : Arguments} {body : Expr} {scope : Scope} {clos : List (Str × Addr)} {pm ctv : Value} {f c' : Addr} {A : Around} {outer : List Env} {s : Shared} {H : Hp} {k : Nat} {u : Value} {σ' : St} {te : TE} {Qv : VK} (S : LamScope scope x) (e0 : Env0 P w K mg base A outer s H) (hr : Room (k + 1) A) (ho : s.heap.get? f = some (kla_obj "<lambda>" q params body scope clos pm c' ctv)) (hrec : s.heap.CodeRec (.ref c') q) (hbind : bindArgs (kla_fn "<lambda>" q params body scope clos pm (.ref c') ctv) ⟨[u], []⟩ = pure [(x, u)]) (hcell : ∀ y c, clos.lookup y = some c->(∃ v, s.heap.IsCell c v)/\H c = none) (hinj : ∀ y z c, clos.lookup y = some c->clos.lookup z = some c->y = z) (hhas : ∀ y, scope.names.lookup y = some .free->∃ c, clos.lookup y = some c) (hσ : ∀ (i : Nat) (y : Str) (vv : V), M[i]? = some y->σ'[i]? = some (some vv)->Vis scope y->(y = x/\RelV vv u) ∨ (scope.names.lookup y = some .free/\∃ c uu, clos.lookup y = some c/\s.heap.IsCell c (some uu)/\RelV vv uu)) (hlen : σ'.length = M.length) (ht : PE (cxLam P w K mg base M q scope f (.ref c') clos A outer s H) body te) (hq : te σ' H Qv) : codeAny (model P w) A (.call (.ref f) ⟨[u], []⟩) (CR CX0 outer P w H s Qv E0) s := by
  have lim : s.heap.NoLimit := e0.mod.nolimit.keeps fun b o e => (e0.bs b o e).1
  refine PySem.W.kla_callFunE hr.depth ho rfl S.co S.gen rfl hrec ?_
  rw [hbind]
  refine wpAny_pure (wpAny_newFunctionEnv S.nocell (fun y hy => by rw [List.mem_singleton.mp hy]; exact S.par) (fun h₁ hns hsb => ⟨lim.fresh _ hsb, ?_⟩) S.kind)
  show codeAny _ _ (.expr body (envX q scope s.heap.objs.size f (.ref c') clos)) _ _
  have hk₁ : ∀ b o, s.heap.get? b = some o->h₁.get? b = some o := fun b o e => hsb.extBut b o (Nat.ne_of_lt (Heap.lt_size e)) (Heap.get?_push_of_some _ e)
  have cellK : ∀ {c : Addr} {v : Option Value}, s.heap.IsCell c v->h₁.IsCell c v := fun ⟨o, e, d⟩ => ⟨o, hk₁ _ _ e, d⟩
  have noA : ∀ b : Addr, b ∉ (cxLam P w K mg base M q scope f (.ref c') clos A outer s H).ex := fun b z => absurd (show b ∈ ([] : List Addr) from z) (by simp)
  have I : Inv (cxLam P w K mg base M q scope f (.ref c') clos A outer s H) [] σ' H { s with heap := h₁, toks := s.toks + 1 } := by
    refine ⟨⟨e0.mod, S.kind, rfl, rfl, Nat.le_refl _, fun y z c h1 h2 => hinj y z c h1 h2, fun y hy => ?_, fun y c z _ => (Bool.noConfusion z), fun _ => hr.hd, Around.frames_deeper e0.frames, .inr ⟨rfl, rfl⟩, fun b z => absurd z (noA b), e0.bs, e0.bsz, fun b _ _ => noA b, fun b z => absurd z (noA b), e0.funs, e0.frf⟩,
      rfl, e0.bare, Un.kept hk₁, ⟨_, hns, fun i y v h1 h2 h3 => ?_⟩, fun y c h => ?_, e0.hok.fresh (Nat.le_refl _), fun y c h => (hcell y c h).2, fun p hp => absurd (show p ∈ ([] : List (Addr × Obj)) from hp) (by simp), e0.hok.kept hk₁, hlen⟩
    · have hy : scope.names.lookup y = some .cell ∨ scope.names.lookup y = some .free := hy
      rcases hy with hy | hy
      · exact absurd rfl (S.nocell _ (PySem.mem_of_lookup hy))
      · exact hhas y hy
    · rcases hσ i y v h1 h2 h3 with ⟨rfl, r⟩ | ⟨kf, c, uu, hc, ic, r⟩
      · exact ⟨u, r, .inl ⟨S.par, by simp⟩⟩
      · exact ⟨uu, r, .inr ⟨.inr kf, c, hc, cellK ic⟩⟩
    · obtain ⟨v, ic⟩ := (hcell y c h).1
      exact ⟨v, cellK ic⟩
  refine PySem.W.kla_codeExpr (wpAny_mono (ht [] _ σ' H _ I hq) (fun v s' hs => ?_) fun _ _ z => False.elim z)
  obtain ⟨vv, H', J, rv, q'⟩ := hs
  exact ⟨vv, H', J.os, J.bare, J.base, J.hok, rv, q'⟩
end L2
namespace L2
open PySem PySem.Spec PyProof.Rows Tw
open PySem.W (tabObj CodeHd kla_obj kla_fn envX)
theorem clos_go {env : Env} : ∀ (names : List (Str × NameKind)) (cs : List (Str × Addr)), (∀ y ∈ names, y.2 = .free->∃ c, env.cells.lookup y.1 = some c)->(∀ y c, cs.lookup y = some c->env.cells.lookup y = some c) →
    ∃ clos, (forIn (m := Sem) names cs fun x r => do
      if x.2 == .free then
        let c ← cellOf env x.1
        pure (ForInStep.yield ((x.1, c) :: r))
      else pure (ForInStep.yield r)) = pure clos/\(∀ y c, clos.lookup y = some c->env.cells.lookup y = some c)/\(∀ y c, cs.lookup y = some c->∃ c', clos.lookup y = some c')/\∀ y, (y, NameKind.free) ∈ names->∃ c, clos.lookup y = some c
  | [], cs, _, hc => ⟨cs, rfl, hc, fun y c h => ⟨c, h⟩, fun y h => nomatch h⟩
  | (n, k) :: names, cs, h, hc => by
    by_cases hk : k = .free
    · subst hk
      obtain ⟨c, e⟩ := h (n, .free) (.head _) rfl
      obtain ⟨clos, e1, e2, e3, e4⟩ := clos_go (env := env) names ((n, c) :: cs) (fun y hy => h y (.tail _ hy)) (fun y d hd => by
        rw [List.lookup_cons] at hd
        cases hb : y == n with
        | true => rw [hb] at hd; cases hd; rw [eq_of_beq hb]; exact e
        | false => rw [hb] at hd; exact hc y d hd)
      refine ⟨clos, ?_, e2, fun y d hd => ?_, fun y hy => ?_⟩
      · rw [List.forIn_cons, ← e1]
        simp only [beq_self_eq_true, if_true]
        have : cellOf env n = pure c := by unfold cellOf; rw [e]
        rw [this]; rfl
      · cases hb : y == n with
        | true => exact e3 y c (by rw [List.lookup_cons, hb])
        | false => exact e3 y d (by rw [List.lookup_cons, hb]; exact hd)
      · rcases List.mem_cons.mp hy with z | z
        · cases z
          exact e3 n c (by rw [List.lookup_cons]; simp)
        · exact e4 y z
    · obtain ⟨clos, e1, e2, e3, e4⟩ := clos_go (env := env) names cs (fun y hy => h y (.tail _ hy)) hc
      refine ⟨clos, ?_, e2, e3, fun y hy => ?_⟩
      · rw [List.forIn_cons, ← e1]
        have : (k == NameKind.free) = false := by
          cases k <;> first | rfl | exact absurd rfl hk
        simp only [this, Bool.false_eq_true, if_false]
        rfl
      · rcases List.mem_cons.mp hy with z | z
        · cases z; exact absurd rfl hk
        · exact e4 y z
theorem clos_of {scope : Scope} {env : Env} (h : ∀ y ∈ scope.names, y.2 = .free->∃ c, env.cells.lookup y.1 = some c) : ∃ clos, closureFor scope env = pure clos/\(∀ y c, clos.lookup y = some c->env.cells.lookup y = some c)/\∀ y, (y, NameKind.free) ∈ scope.names->∃ c, clos.lookup y = some c := by
  obtain ⟨clos, e1, e2, _, e4⟩ := clos_go (env := env) scope.names [] h (fun y c z => nomatch z)
  refine ⟨clos, ?_, e2, e4⟩
  have z : (forIn (m := Sem) scope.names [] (fun x r => if x.2 == NameKind.free then do
      let c ← cellOf env x.1
      pure (ForInStep.yield ((x.1, c) :: r))
    else pure (ForInStep.yield r)) >>= fun r => pure r) = pure clos := by rw [e1]; rfl
  exact z
section
variable {X : Cx} {pins : List (Addr × Obj)} {σ : St} {H : Hp} {s : Shared}
end
end L2
namespace L2
open PySem PySem.Spec PyProof.Rows
section
variable {X : Cx}
end
end L2
namespace Tw
open PySem PyProof.Rows
def gallopP : Bool->Keyed->Array Keyed->Nat->Nat->Nat->StateT SortSt Sem (Option Nat) := sortPriv% PySem.Builtin.gallop
def mergeLoP : Array Keyed->Array Keyed->StateT SortSt Sem (Array Keyed) := sortPriv% PySem.Builtin.mergeLo
def mergeHiP : Array Keyed->Array Keyed->StateT SortSt Sem (Array Keyed) := sortPriv% PySem.Builtin.mergeHi
def beyP (lf : Bool) (x : Keyed) (xs : Array Keyed) (at0 i : Nat) : StateT SortSt Sem (Option Bool) := do
  let z ← elem' xs (at0 + i); if lf then lt' z x else return (← lt' x z).map (!·)
theorem gallopP_eq (lf : Bool) (x : Keyed) (xs : Array Keyed) (at0 n h : Nat) : gallopP lf x xs at0 n h = (do
  let mut q := 0; let mut o := 1; let mut u := 0; let mut v := 0
  let some rt ← beyP lf x xs at0 h | return none
  if rt then
    let mx := n - h
    for _ in [0:n] do
      if o ≥ mx then break
      let some mo ← beyP lf x xs at0 (h + o) | return none
      if !mo then break
      q := o; o := 2 * o + 1
    u := h + q + 1; v := h + min o mx
  else
    let mx := h + 1
    for _ in [0:n] do
      if o ≥ mx then break
      let some fd ← beyP lf x xs at0 (h - o) | return none
      if fd then break
      q := o; o := 2 * o + 1
    u := h + 1 - min o mx; v := h - q
  for _ in [0:n] do
    if u ≥ v then break
    let m := u + (v - u) / 2
    let some mo ← beyP lf x xs at0 m | return none
    if mo then u := m + 1 else v := m
  return some v) := rfl
def ky (k : Keyed->Int) (xs : Array Keyed) (i : Nat) : Int := ((xs[i]?).map k).getD 0
theorem ky_at {k : Keyed->Int} {xs : Array Keyed} {i : Nat} {y : Keyed} (h : xs[i]? = some y) : ky k xs i = k y := by unfold ky; rw [h]; rfl
theorem ky_congr {k : Keyed->Int} {xs ys : Array Keyed} {i j : Nat} (h : xs[i]? = ys[j]?) : ky k xs i = ky k ys j := by unfold ky; rw [h]
structure Ask (M : Model) (A : Around) (E : Value->Shared->Prop) (s : Shared) (kd : SortKind) (k : Keyed->Int) (P : Keyed->Prop) : Prop where
  ask : ∀ (st : SortSt) (x y : Keyed) (Q : Option Bool->SortSt->Prop), kindOf st = kd->P x->P y->Q (some (decide (k x < k y))) st->wpS M A E s (lt' x y) Q st
def All (P : Keyed->Prop) (xs : Array Keyed) (a b : Nat) : Prop := ∀ i, a ≤ i->i < b->∃ y, xs[i]? = some y/\P y
def Rise (f : Nat->Int) (a b : Nat) : Prop := ∀ i j, a ≤ i->i ≤ j->j < b->f i ≤ f j
section
variable {M : Model} {A : Around} {E : Value->Shared->Prop} {s : Shared} {kd : SortKind} {k : Keyed->Int} {P : Keyed->Prop}
theorem elem_at {xs : Array Keyed} {i : Nat} {y : Keyed} {Q : Keyed->SortSt->Prop} {st : SortSt} (h : xs[i]? = some y) (q : Q y st) : wpS M A E s (elem' xs i) Q st := by
  rw [elem'_eq, h]
  exact wpS_pure q
theorem ask_bey (C : Ask M A E s kd k P) {st : SortSt} (hk : kindOf st = kd) {lf : Bool} {x : Keyed} {xs : Array Keyed} {at0 i n : Nat} (hx : P x) (hxs : All P xs at0 (at0 + n)) (hi : i < n) {Q : Option Bool->SortSt->Prop} (h : Q (some (if lf then decide (ky k xs (at0 + i) < k x) else !decide (k x < ky k xs (at0 + i)))) st) : wpS M A E s (beyP lf x xs at0 i) Q st := by
  obtain ⟨y, hy, py⟩ := hxs (at0 + i) (by omega) (by omega)
  rw [ky_at hy] at h
  unfold beyP
  refine wpS_bind (elem_at hy ?_)
  cases lf with
  | true =>
    simp only [if_true] at h ⊢
    exact C.ask st y x Q hk py hx h
  | false =>
    simp only [Bool.false_eq_true, if_false] at h ⊢
    exact wpS_bind (C.ask st x y _ hk hx py (wpS_pure h))
theorem wpS_gallop (C : Ask M A E s kd k P) {st : SortSt} (hk : kindOf st = kd) {lf : Bool} {x : Keyed} {xs : Array Keyed} {at0 n h : Nat} (hx : P x) (hxs : All P xs at0 (at0 + n)) (hs : Rise (ky k xs) at0 (at0 + n)) (hh : h < n) {Q : Option Nat->SortSt->Prop} (post : ∀ m, m ≤ n->(∀ i, i < m->ky k xs (at0 + i) ≤ k x)->(∀ i, m ≤ i->i < n->k x ≤ ky k xs (at0 + i))->Q (some m) st) : wpS M A E s (gallopP lf x xs at0 n h) Q st := by
  obtain ⟨B, hB⟩ : ∃ B : Nat->Bool, B = fun i => if lf then decide (ky k xs (at0 + i) < k x) else !decide (k x < ky k xs (at0 + i)) := ⟨_, rfl⟩
  have ask : ∀ {i : Nat} {R : Option Bool->SortSt->Prop}, i < n->R (some (B i)) st->wpS M A E s (beyP lf x xs at0 i) R st := fun hi r => ask_bey C hk hx hxs hi (by rw [hB] at r; exact r)
  have mono : ∀ i j, i ≤ j->j < n->B j = true->B i = true := fun i j hij hj b => by
    have := hs (at0 + i) (at0 + j) (by omega) (by omega) (by omega)
    rw [hB] at b ⊢
    cases lf
    · simp at b ⊢; omega
    · simp at b ⊢; omega
  have up : ∀ i, B i = true->ky k xs (at0 + i) ≤ k x := fun i b => by
    rw [hB] at b
    cases lf
    · simp at b; omega
    · simp at b; omega
  have dn : ∀ i, B i = false->k x ≤ ky k xs (at0 + i) := fun i b => by
    rw [hB] at b
    cases lf
    · simp at b; omega
    · simp at b; omega
  clear hB
  have fin : ∀ {f : Nat->Option (Option Nat) × Nat × Nat->StateT SortSt Sem (ForInStep (Option (Option Nat) × Nat × Nat))}, (∀ i u v (R : ForInStep (Option (Option Nat) × Nat × Nat)->SortSt->Prop), v ≤ n->(u ≥ v->R (.done (none, u, v)) st)->(u < v->B (u + (v - u) / 2) = true->R (.yield (none, u + (v - u) / 2 + 1, v)) st)->(u < v->B (u + (v - u) / 2) = false->R (.yield (none, u, u + (v - u) / 2)) st)->wpS M A E s (f i (none, u, v)) R st) →
      ∀ u v, u ≤ v->v ≤ n->(u = 0 ∨ B (u - 1) = true)->(v = n ∨ B v = false)->wpS M A E s (forIn [0:n] (none, u, v) f) (fun c st' => ∃ v, st' = st/\c = (none, v, v)/\Q (some v) st) st := fun {f} hf u v huv hvn hu hv => by
    have done : ∀ v, v ≤ n->(v = 0 ∨ B (v - 1) = true)->(v = n ∨ B v = false)->Q (some v) st := fun v hvn hu hv => by
      refine post v hvn (fun i hi => ?_) fun i hi hin => ?_
      · rcases hu with rfl | hu
        · omega
        · exact up i (mono i (v - 1) (by omega) (by omega) hu)
      · rcases hv with rfl | hv
        · omega
        · refine dn i ?_
          cases hb : B i with
          | false => rfl
          | true => rw [mono v i hi hin hb] at hv; cases hv
    refine wpS_forRange (I := fun i c st' => ∃ u v, st' = st/\c = (none, u, v)/\u ≤ v/\v ≤ n/\(u = 0 ∨ B (u - 1) = true)/\(v = n ∨ B v = false)/\v ≤ u + (n - i)) ?_ ?_ ⟨u, v, rfl, rfl, huv, hvn, hu, hv, by omega⟩
    · rintro i c st' _ hi ⟨u, v, rfl, rfl, huv, hvn, hu, hv, hd⟩
      refine hf i u v _ hvn (fun hc => ?_) (fun hc hb => ⟨_, _, rfl, rfl, by omega, hvn, .inr (by rw [Nat.add_sub_cancel]; exact hb), hv, by omega⟩) fun hc hb => ⟨_, _, rfl, rfl, by omega, by omega, hu, .inr hb, by omega⟩
      have e : u = v := by omega
      subst e
      exact ⟨u, rfl, rfl, done u hvn hu hv⟩
    · rintro c st' ⟨u, v, rfl, rfl, huv, hvn, hu, hv, hd⟩
      have e : u = v := by omega
      subst e
      exact ⟨u, rfl, rfl, done u hvn hu hv⟩
  rw [gallopP_eq]
  refine wpS_bind (ask hh ?_)
  cases hb : B h with
  | true =>
    refine wpS_bind (wpS_mono (wpS_forRange (I := fun i c st' => ∃ q o, st' = st/\c = (none, q, o)/\q < o/\i < o/\h + q < n/\B (h + q) = true) (Q := fun c st' => ∃ q o, st' = st/\c = (none, q, o)/\q < o/\h + q < n/\B (h + q) = true/\(o ≥ n - h ∨ B (h + o) = false)) ?_ ?_ ⟨0, 1, rfl, rfl, by omega, by omega, by omega, hb⟩) ?_)
    · rintro i c st' _ hi ⟨q, o, rfl, rfl, h1, h2, h3, h4⟩
      dsimp only
      by_cases hc : o ≥ n - h
      · rw [if_pos hc]
        exact wpS_pure ⟨q, o, rfl, rfl, h1, h3, h4, .inl hc⟩
      · rw [if_neg hc]
        refine wpS_bind (ask (by omega) ?_)
        cases hb2 : B (h + o) with
        | true => exact wpS_pure ⟨o, 2 * o + 1, rfl, rfl, by omega, by omega, by omega, hb2⟩
        | false => exact wpS_pure ⟨q, o, rfl, rfl, h1, h3, h4, .inr hb2⟩
    · rintro c st' ⟨q, o, rfl, rfl, h1, h2, h3, h4⟩
      exact ⟨q, o, rfl, rfl, h1, h3, h4, .inl (by omega)⟩
    · rintro c st' ⟨q, o, rfl, rfl, h1, h3, h4, h5⟩
      dsimp only
      refine wpS_bind (wpS_mono (fin (fun i u v R hvn r1 r2 r3 => ?_) (h + q + 1) (h + min o (n - h)) (by omega) (by omega) (.inr (by rw [Nat.add_sub_cancel]; exact h4)) ?_) ?_)
      · dsimp only
        by_cases hc : u ≥ v
        · rw [if_pos hc]
          exact wpS_pure (r1 hc)
        · rw [if_neg hc]
          refine wpS_bind (ask (by omega) ?_)
          cases hb : B (u + (v - u) / 2) with
          | true => exact wpS_pure (r2 (by omega) hb)
          | false => exact wpS_pure (r3 (by omega) hb)
      · by_cases hc : o ≥ n - h
        · exact .inl (by omega)
        · rcases h5 with h5 | h5
          · exact absurd h5 hc
          · rw [show min o (n - h) = o by omega]
            exact .inr h5
      · rintro c st' ⟨v, rfl, rfl, q⟩
        exact wpS_pure q
  | false =>
    refine wpS_bind (wpS_mono (wpS_forRange (I := fun i c st' => ∃ q o, st' = st/\c = (none, q, o)/\q < o/\i < o/\q ≤ h/\B (h - q) = false) (Q := fun c st' => ∃ q o, st' = st/\c = (none, q, o)/\q < o/\q ≤ h/\B (h - q) = false/\(o ≥ h + 1 ∨ B (h - o) = true)) ?_ ?_ ⟨0, 1, rfl, rfl, by omega, by omega, by omega, hb⟩) ?_)
    · rintro i c st' _ hi ⟨q, o, rfl, rfl, h1, h2, h3, h4⟩
      dsimp only
      by_cases hc : o ≥ h + 1
      · rw [if_pos hc]
        exact wpS_pure ⟨q, o, rfl, rfl, h1, h3, h4, .inl hc⟩
      · rw [if_neg hc]
        refine wpS_bind (ask (by omega) ?_)
        cases hb2 : B (h - o) with
        | false => exact wpS_pure ⟨o, 2 * o + 1, rfl, rfl, by omega, by omega, by omega, hb2⟩
        | true => exact wpS_pure ⟨q, o, rfl, rfl, h1, h3, h4, .inr hb2⟩
    · rintro c st' ⟨q, o, rfl, rfl, h1, h2, h3, h4⟩
      exact ⟨q, o, rfl, rfl, h1, h3, h4, .inl (by omega)⟩
    · rintro c st' ⟨q, o, rfl, rfl, h1, h3, h4, h5⟩
      dsimp only
      refine wpS_bind (wpS_mono (fin (fun i u v R hvn r1 r2 r3 => ?_) (h + 1 - min o (h + 1)) (h - q) (by omega) (by omega) ?_ (.inr h4)) ?_)
      · dsimp only
        by_cases hc : u ≥ v
        · rw [if_pos hc]
          exact wpS_pure (r1 hc)
        · rw [if_neg hc]
          refine wpS_bind (ask (by omega) ?_)
          cases hb : B (u + (v - u) / 2) with
          | true => exact wpS_pure (r2 (by omega) hb)
          | false => exact wpS_pure (r3 (by omega) hb)
      · by_cases hc : o ≥ h + 1
        · exact .inl (by omega)
        · rcases h5 with h5 | h5
          · exact absurd h5 hc
          · rw [show h + 1 - min o (h + 1) - 1 = h - o by omega]
            exact .inr h5
      · rintro c st' ⟨v, rfl, rfl, q⟩
        exact wpS_pure q
end
end Tw
namespace Tw
open PySem PyProof.Rows
def Its (P : Keyed->Prop) (xs : Array Keyed) : Prop := ∀ y, y ∈ xs->P y
def Fall (f : Nat->Int) (a b : Nat) : Prop := ∀ i j, a ≤ i->i ≤ j->j < b->f j ≤ f i
structure Chg (st st' : SortSt) (a b : Nat) : Prop where
  kind : kindOf st' = kindOf st
  pend : pendingOf st' = pendingOf st
  fail : failedOf st' = failedOf st
  perm : (arrOf st').Perm (arrOf st)
  out : ∀ i, (i < a ∨ b ≤ i)->(arrOf st')[i]? = (arrOf st)[i]?
theorem Chg.refl (st : SortSt) (a b : Nat) : Chg st st a b := ⟨rfl, rfl, rfl, .refl _, fun _ _ => rfl⟩
theorem Chg.trans {st st' st'' : SortSt} {a b : Nat} (h : Chg st st' a b) (h' : Chg st' st'' a b) : Chg st st'' a b :=
  ⟨h'.kind.trans h.kind, h'.pend.trans h.pend, h'.fail.trans h.fail, h'.perm.trans h.perm, fun i hi => (h'.out i hi).trans (h.out i hi)⟩
theorem Chg.mono {st st' : SortSt} {a b c d : Nat} (h : Chg st st' a b) (h1 : c ≤ a) (h2 : b ≤ d) : Chg st st' c d :=
  ⟨h.kind, h.pend, h.fail, h.perm, fun i hi => h.out i (by omega)⟩
theorem Chg.size {st st' : SortSt} {a b : Nat} (h : Chg st st' a b) : (arrOf st').size = (arrOf st).size := h.perm.size_eq
theorem Chg.its {st st' : SortSt} {a b : Nat} {P : Keyed->Prop} (h : Chg st st' a b) (i : Its P (arrOf st)) : Its P (arrOf st') := fun y hy => i y (h.perm.mem_iff.mp hy)
theorem Its.all {P : Keyed->Prop} {xs : Array Keyed} (h : Its P xs) {a b : Nat} (hb : b ≤ xs.size) : All P xs a b := fun i _ hi => ⟨xs[i]'(by omega), by rw [getElem?_pos xs i (by omega)], h _ (Array.getElem_mem _)⟩
section
variable {M : Model} {A : Around} {E : Value->Shared->Prop} {s : Shared} {kd : SortKind} {k : Keyed->Int} {P : Keyed->Prop}
theorem ask_at (C : Ask M A E s kd k P) {st : SortSt} (hk : kindOf st = kd) (hI : Its P (arrOf st)) {i j : Nat} (hi : i < (arrOf st).size) (hj : j < (arrOf st).size) {Q : Option Bool->SortSt->Prop} (h : Q (some (decide (ky k (arrOf st) i < ky k (arrOf st) j))) st) : wpS M A E s (ltAt' i j) Q st := by
  obtain ⟨x, hx, px⟩ := hI.all (Nat.le_refl _) i (Nat.zero_le _) hi
  obtain ⟨y, hy, py⟩ := hI.all (Nat.le_refl _) j (Nat.zero_le _) hj
  rw [ky_at hx, ky_at hy] at h
  rw [ltAt'_eq]
  refine wpS_bind (wpS_get ?_)
  exact wpS_bind (elem_at hx (wpS_bind (elem_at hy (C.ask st x y Q hk px py h))))
structure Rev (k : Keyed->Int) (st st' : SortSt) (a b : Nat) : Prop where
  chg : Chg st st' a b
  key : ∀ t, ky k (arrOf st') t = if a ≤ t/\t < b then ky k (arrOf st) (a + b - 1 - t) else ky k (arrOf st) t
theorem wpS_rev {st : SortSt} {a b : Nat} {Q : Unit->SortSt->Prop} (hb : b ≤ (arrOf st).size) (h : ∀ st', Rev k st st' a b->Q () st') : wpS M A E s (reverseSlice' a b) Q st := by
  rw [reverseSlice'_eq]
  refine wpS_modify (h _ ⟨⟨rfl, rfl, rfl, mirror_perm _ _ _ _, fun i hi => ?_⟩, fun t => ?_⟩)
  · exact (getElem?_mirror_all hb i).trans (if_neg (by omega))
  · have e : (arrOf (setArr st (mirror (arrOf st) a b ((b - a) / 2))))[t]? = _ := getElem?_mirror_all hb t
    split
    · rename_i h1
      rw [if_pos h1] at e
      exact ky_congr e
    · rename_i h1
      rw [if_neg h1] at e
      exact ky_congr e
theorem Rev.rise {st st' : SortSt} {a b : Nat} (v : Rev k st st' a b) (f : Fall (ky k (arrOf st)) a b) : Rise (ky k (arrOf st')) a b := fun i j h1 h2 h3 => by
  rw [v.key, v.key, if_pos (by omega), if_pos (by omega)]
  exact f _ _ (by omega) (by omega) (by omega)
theorem Rev.same {st st' : SortSt} {a b : Nat} {x : Int} (v : Rev k st st' a b) (h : ∀ t, a ≤ t->t < b->ky k (arrOf st) t = x) (t : Nat) : ky k (arrOf st') t = ky k (arrOf st) t := by
  rw [v.key]
  split
  · rename_i q
    rw [h _ (by omega) (by omega), h t q.1 q.2]
  · rfl
theorem asc_loop {st : SortSt} {lo a nrem : Nat} {f : Nat->Option (Option Nat) × Nat->StateT SortSt Sem (ForInStep (Option (Option Nat) × Nat))} (hf : ∀ i n (R : ForInStep (Option (Option Nat) × Nat)->SortSt->Prop), 1 ≤ n->n < nrem->(ky k (arrOf st) (lo + n) < ky k (arrOf st) (lo + n - 1)->R (.done (none, n)) st)->(¬ ky k (arrOf st) (lo + n) < ky k (arrOf st) (lo + n - 1)->R (.yield (none, n + 1)) st)->wpS M A E s (f i (none, n)) R st) (ha : 1 ≤ a) (han : a ≤ nrem) (hs : Rise (ky k (arrOf st)) lo (lo + a)) : wpS M A E s (forIn [a:nrem] (none, a) f) (fun c st' => ∃ n, st = st'/\c = (none, n)/\a ≤ n/\n ≤ nrem/\Rise (ky k (arrOf st)) lo (lo + n)/\(n = nrem ∨ ky k (arrOf st) (lo + n) < ky k (arrOf st) (lo + n - 1))) st := by
  refine wpS_forRange (I := fun x c st' => st = st'/\c = (none, x)/\Rise (ky k (arrOf st)) lo (lo + x)) ?_ ?_ ⟨rfl, rfl, hs⟩
  · rintro i c st' h1 h2 ⟨rfl, rfl, r⟩
    refine hf i i _ (by omega) h2 (fun hc => ⟨i, rfl, rfl, h1, by omega, r, .inr hc⟩) fun hc => ⟨rfl, rfl, fun x y x1 x2 x3 => ?_⟩
    by_cases e : y < lo + i
    · exact r x y x1 x2 e
    · have e' : y = lo + i := by omega
      by_cases e2 : x = y
      · rw [e2]
        exact Int.le_refl _
      · have := r x (lo + i - 1) x1 (by omega) (by omega)
        rw [e']
        omega
  · rintro c st' ⟨rfl, rfl, r⟩
    rw [show max a nrem = nrem by omega] at r ⊢
    exact ⟨nrem, rfl, rfl, han, Nat.le_refl _, r, .inl rfl⟩
theorem desc_loop {st : SortSt} {lo a nrem : Nat} {f : Nat->Option (Option Nat) × Nat × Nat->StateT SortSt Sem (ForInStep (Option (Option Nat) × Nat × Nat))} (hf : ∀ i n q st1 (R : ForInStep (Option (Option Nat) × Nat × Nat)->SortSt->Prop), kindOf st1 = kd->Its P (arrOf st1)->lo + n < (arrOf st1).size->1 ≤ n->(ky k (arrOf st1) (lo + n) < ky k (arrOf st1) (lo + n - 1)->q > 0->∀ st2, Rev k st1 st2 (lo + n - (q + 1)) (lo + n)->R (.yield (none, n + 1, 0)) st2)->(ky k (arrOf st1) (lo + n) < ky k (arrOf st1) (lo + n - 1)->q = 0->R (.yield (none, n + 1, 0)) st1)->(ky k (arrOf st1) (lo + n - 1) < ky k (arrOf st1) (lo + n)->R (.done (none, n, q)) st1)->(ky k (arrOf st1) (lo + n) = ky k (arrOf st1) (lo + n - 1)->R (.yield (none, n + 1, q + 1)) st1)->wpS M A E s (f i (none, n, q)) R st1) (ha : 1 ≤ a) (han : a ≤ nrem) (hz : lo + nrem ≤ (arrOf st).size) (hk : kindOf st = kd) (hI : Its P (arrOf st)) (hs : Fall (ky k (arrOf st)) lo (lo + a)) : wpS M A E s (forIn [a:nrem] (none, a, 0) f) (fun c st' => ∃ n q, c = (none, n, q)/\a ≤ n/\n ≤ nrem/\Chg st st' lo (lo + n)/\Fall (ky k (arrOf st')) lo (lo + n)/\q + 1 ≤ n/\∀ t, lo + n - (q + 1) ≤ t->t < lo + n->ky k (arrOf st') t = ky k (arrOf st') (lo + n - 1)) st := by
  refine wpS_forRange (I := fun n c st' => ∃ q, c = (none, n, q)/\Chg st st' lo (lo + n)/\Fall (ky k (arrOf st')) lo (lo + n)/\q + 1 ≤ n/\∀ t, lo + n - (q + 1) ≤ t->t < lo + n->ky k (arrOf st') t = ky k (arrOf st') (lo + n - 1)) ?_ ?_ ⟨0, rfl, .refl _ _ _, hs, by omega, fun t h1 h2 => by rw [show t = lo + a - 1 by omega]⟩
  · rintro n c st1 h1 h2 ⟨q, rfl, g, r, hq, he⟩
    have ext : ∀ xs : Nat->Int, (∀ t, xs t = ky k (arrOf st1) t)->ky k (arrOf st1) (lo + n) ≤ ky k (arrOf st1) (lo + n - 1)->Fall xs lo (lo + (n + 1)) := fun xs e hl x y x1 x2 x3 => by
      rw [e, e]
      by_cases ey : y < lo + n
      · exact r x y x1 x2 ey
      · have e' : y = lo + n := by omega
        by_cases e2 : x = y
        · rw [e2]
          exact Int.le_refl _
        · have := r x (lo + n - 1) x1 (by omega) (by omega)
          rw [e']
          omega
    refine hf n n q st1 _ (by rw [g.kind, hk]) (g.its hI) (by rw [g.size]; omega) (by omega) (fun hc hq0 st2 v => ⟨0, rfl, (g.trans (v.chg.mono (by omega) (by omega))).mono (by omega) (by omega), ext _ (v.same he) (by omega), by omega, fun t t1 t2 => by rw [show t = lo + (n + 1) - 1 by omega]⟩)
      (fun hc hq0 => ⟨0, rfl, g.mono (by omega) (by omega), ext _ (fun _ => rfl) (by omega), by omega, fun t t1 t2 => by rw [show t = lo + (n + 1) - 1 by omega]⟩) (fun hc => ⟨n, q, rfl, h1, by omega, g, r, hq, he⟩)
      fun hc => ⟨q + 1, rfl, g.mono (by omega) (by omega), ext _ (fun _ => rfl) (by omega), by omega, fun t t1 t2 => ?_⟩
    by_cases e : t = lo + n
    · rw [e]
      congr 1
    · rw [he t (by omega) (by omega), show lo + (n + 1) - 1 = lo + n by omega]
      exact hc.symm
  · rintro c st1 ⟨q, rfl, g, r, hq, he⟩
    rw [show max a nrem = nrem by omega] at *
    exact ⟨nrem, q, rfl, han, Nat.le_refl _, g, r, hq, he⟩
theorem wpS_count (C : Ask M A E s kd k P) {st : SortSt} {lo nrem : Nat} {Q : Option Nat->SortSt->Prop} (hk : kindOf st = kd) (hI : Its P (arrOf st)) (h1 : 1 ≤ nrem) (hz : lo + nrem ≤ (arrOf st).size) (h : ∀ m st', 1 ≤ m->m ≤ nrem->Chg st st' lo (lo + nrem)->Rise (ky k (arrOf st')) lo (lo + m)->Q (some m) st') : wpS M A E s (countRun' lo nrem) Q st := by
  rw [countRun'_eq]
  refine wpS_bind (wpS_mono (asc_loop (k := k) (st := st) (lo := lo) (fun i n2 R x1 x2 r1 r2 => ?_) (Nat.le_refl 1) h1 (fun x y x1 x2 x3 => by rw [show x = y by omega]; exact Int.le_refl _)) ?_)
  · dsimp only
    refine wpS_bind (ask_at C hk hI (by omega) (by omega) ?_)
    by_cases hc : ky k (arrOf st) (lo + n2) < ky k (arrOf st) (lo + n2 - 1)
    · simp only [hc, decide_true, if_true]
      exact wpS_pure (r1 hc)
    · simp only [hc, decide_false, Bool.false_eq_true, if_false]
      exact wpS_pure (r2 hc)
  rintro _ _ ⟨n, rfl, rfl, a1, a2, a3, a4⟩
  dsimp only
  by_cases hn : n = nrem
  · subst hn
    simp only [BEq.rfl, if_true]
    exact wpS_pure (h _ _ a1 (Nat.le_refl _) (.refl _ _ _) a3)
  have hb : (n == nrem) = false := by simp [hn]
  simp only [hb, Bool.false_eq_true, if_false]
  have hlt := a4.resolve_left hn
  by_cases h2 : n > 1
  · rw [if_pos h2]
    refine wpS_bind (ask_at C hk hI (by omega) (by omega) ?_)
    by_cases hc : ky k (arrOf st) lo < ky k (arrOf st) (lo + n - 1)
    · simp only [hc, decide_true, if_true]
      exact wpS_pure (h _ _ a1 a2 (.refl _ _ _) a3)
    simp only [hc, decide_false, Bool.false_eq_true, if_false]
    have eq : ∀ t, lo ≤ t->t < lo + n->ky k (arrOf st) t = ky k (arrOf st) lo := fun t t1 t2 => by
      have := a3 lo t (Nat.le_refl _) t1 t2
      have := a3 t (lo + n - 1) t1 (by omega) (by omega)
      omega
    refine wpS_bind (wpS_rev (k := k) (by omega) fun st1 v1 => ?_)
    have c1 : Chg st st1 lo (lo + nrem) := v1.chg.mono (Nat.le_refl _) (by omega)
    have f1 : Fall (ky k (arrOf st1)) lo (lo + (n + 1)) := fun x y x1 x2 x3 => by
      rw [v1.same eq, v1.same eq]
      by_cases e : y < lo + n
      · rw [eq x x1 (by omega), eq y (by omega) e]
        exact Int.le_refl _
      · have e' : y = lo + n := by omega
        by_cases e2 : x = y
        · rw [e2]
          exact Int.le_refl _
        · rw [e', eq x x1 (by omega)]
          rw [eq (lo + n - 1) (by omega) (by omega)] at hlt
          omega
    refine wpS_bind (wpS_lift (wpAny_rule ⟨rfl, ?_⟩))
    refine wpS_bind (wpS_mono (desc_loop (kd := kd) (P := P) (st := st1) (lo := lo) (fun i n2 q2 st2 R k2 i2 z2 h1 r1 r2 r3 r4 => ?_) (by omega) (by omega) (by rw [c1.size]; omega) (by rw [c1.kind, hk]) (c1.its hI) f1) ?_)
    · dsimp only
      refine wpS_bind (ask_at C k2 i2 (by omega) (by omega) ?_)
      by_cases hc : ky k (arrOf st2) (lo + n2) < ky k (arrOf st2) (lo + n2 - 1)
      · simp only [hc, decide_true, if_true]
        by_cases hq : q2 > 0
        · rw [if_pos hq]
          exact wpS_bind (wpS_rev (k := k) (by omega) fun st3 v3 => wpS_pure (r1 hc hq st3 v3))
        · rw [if_neg hq]
          exact wpS_pure (r2 hc (by omega))
      · simp only [hc, decide_false, Bool.false_eq_true, if_false]
        refine wpS_bind (ask_at C k2 i2 (by omega) (by omega) ?_)
        by_cases hd : ky k (arrOf st2) (lo + n2 - 1) < ky k (arrOf st2) (lo + n2)
        · simp only [hd, decide_true, if_true]
          exact wpS_pure (r3 hd)
        · simp only [hd, decide_false, Bool.false_eq_true, if_false]
          exact wpS_pure (r4 (by omega))
    · rintro _ stb ⟨n2, q2, rfl, b1, hn2, b3, b4, b5, b6⟩
      dsimp only
      by_cases hq : q2 > 0
      · rw [if_pos hq]
        refine wpS_bind (wpS_rev (k := k) (by rw [b3.size, c1.size]; omega) fun st2 v2 => ?_)
        have c2 : Chg st st2 lo (lo + nrem) := (c1.trans (b3.mono (Nat.le_refl _) (by omega))).trans (v2.chg.mono (by omega) (by omega))
        have f2 : Fall (ky k (arrOf st2)) lo (lo + n2) := fun i j x1 x2 x3 => by
          rw [v2.same (fun t y1 y2 => b6 t y1 y2), v2.same (fun t y1 y2 => b6 t y1 y2)]
          exact b4 i j x1 x2 x3
        refine wpS_bind (wpS_rev (k := k) (by rw [c2.size]; omega) fun st3 v3 => ?_)
        have c3 := c2.trans (v3.chg.mono (Nat.le_refl _) (by omega))
        refine wpS_bind (wpS_mono (asc_loop (st := st3) (lo := lo) (fun i n2 R h1 h2 r1 r2 => ?_) (by omega) hn2 (v3.rise f2)) ?_)
        · dsimp only
          refine wpS_bind (ask_at C (by rw [c3.kind, hk]) (c3.its hI) (by rw [c3.size]; omega) (by rw [c3.size]; omega) ?_)
          by_cases hc : ky k (arrOf st3) (lo + n2) < ky k (arrOf st3) (lo + n2 - 1)
          · simp only [hc, decide_true, if_true]
            exact wpS_pure (r1 hc)
          · simp only [hc, decide_false, Bool.false_eq_true, if_false]
            exact wpS_pure (r2 hc)
        · rintro _ _ ⟨n3, rfl, rfl, a1, a2, a3, -⟩
          exact wpS_pure (h n3 _ (by omega) a2 c3 a3)
      · rw [if_neg hq]
        have c2 : Chg st stb lo (lo + nrem) := c1.trans (b3.mono (Nat.le_refl _) (by omega))
        have f2 := b4
        refine wpS_bind (wpS_rev (k := k) (by rw [c2.size]; omega) fun st3 v3 => ?_)
        have c3 := c2.trans (v3.chg.mono (Nat.le_refl _) (by omega))
        refine wpS_bind (wpS_mono (asc_loop (st := st3) (lo := lo) (fun i n2 R h1 h2 r1 r2 => ?_) (by omega) hn2 (v3.rise f2)) ?_)
        · dsimp only
          refine wpS_bind (ask_at C (by rw [c3.kind, hk]) (c3.its hI) (by rw [c3.size]; omega) (by rw [c3.size]; omega) ?_)
          by_cases hc : ky k (arrOf st3) (lo + n2) < ky k (arrOf st3) (lo + n2 - 1)
          · simp only [hc, decide_true, if_true]
            exact wpS_pure (r1 hc)
          · simp only [hc, decide_false, Bool.false_eq_true, if_false]
            exact wpS_pure (r2 hc)
        · rintro _ _ ⟨n3, rfl, rfl, a1, a2, a3, -⟩
          exact wpS_pure (h n3 _ (by omega) a2 c3 a3)
  · rw [if_neg h2]
    have c1 : Chg st st lo (lo + nrem) := .refl _ _ _
    have f1 : Fall (ky k (arrOf st)) lo (lo + (n + 1)) := fun x y x1 x2 x3 => by
      by_cases e2 : x = y
      · rw [e2]
        exact Int.le_refl _
      · rw [show x = lo + n - 1 by omega, show y = lo + n by omega]
        omega
    refine wpS_bind (wpS_lift (wpAny_rule ⟨rfl, ?_⟩))
    refine wpS_bind (wpS_mono (desc_loop (kd := kd) (P := P) (st := st) (lo := lo) (fun i n2 q2 st2 R k2 i2 z2 h1 r1 r2 r3 r4 => ?_) (by omega) (by omega) (by rw [c1.size]; omega) (by rw [c1.kind, hk]) (c1.its hI) f1) ?_)
    · dsimp only
      refine wpS_bind (ask_at C k2 i2 (by omega) (by omega) ?_)
      by_cases hc : ky k (arrOf st2) (lo + n2) < ky k (arrOf st2) (lo + n2 - 1)
      · simp only [hc, decide_true, if_true]
        by_cases hq : q2 > 0
        · rw [if_pos hq]
          exact wpS_bind (wpS_rev (k := k) (by omega) fun st3 v3 => wpS_pure (r1 hc hq st3 v3))
        · rw [if_neg hq]
          exact wpS_pure (r2 hc (by omega))
      · simp only [hc, decide_false, Bool.false_eq_true, if_false]
        refine wpS_bind (ask_at C k2 i2 (by omega) (by omega) ?_)
        by_cases hd : ky k (arrOf st2) (lo + n2 - 1) < ky k (arrOf st2) (lo + n2)
        · simp only [hd, decide_true, if_true]
          exact wpS_pure (r3 hd)
        · simp only [hd, decide_false, Bool.false_eq_true, if_false]
          exact wpS_pure (r4 (by omega))
    · rintro _ stb ⟨n2, q2, rfl, b1, hn2, b3, b4, b5, b6⟩
      dsimp only
      by_cases hq : q2 > 0
      · rw [if_pos hq]
        refine wpS_bind (wpS_rev (k := k) (by rw [b3.size, c1.size]; omega) fun st2 v2 => ?_)
        have c2 : Chg st st2 lo (lo + nrem) := (c1.trans (b3.mono (Nat.le_refl _) (by omega))).trans (v2.chg.mono (by omega) (by omega))
        have f2 : Fall (ky k (arrOf st2)) lo (lo + n2) := fun i j x1 x2 x3 => by
          rw [v2.same (fun t y1 y2 => b6 t y1 y2), v2.same (fun t y1 y2 => b6 t y1 y2)]
          exact b4 i j x1 x2 x3
        refine wpS_bind (wpS_rev (k := k) (by rw [c2.size]; omega) fun st3 v3 => ?_)
        have c3 := c2.trans (v3.chg.mono (Nat.le_refl _) (by omega))
        refine wpS_bind (wpS_mono (asc_loop (st := st3) (lo := lo) (fun i n2 R h1 h2 r1 r2 => ?_) (by omega) hn2 (v3.rise f2)) ?_)
        · dsimp only
          refine wpS_bind (ask_at C (by rw [c3.kind, hk]) (c3.its hI) (by rw [c3.size]; omega) (by rw [c3.size]; omega) ?_)
          by_cases hc : ky k (arrOf st3) (lo + n2) < ky k (arrOf st3) (lo + n2 - 1)
          · simp only [hc, decide_true, if_true]
            exact wpS_pure (r1 hc)
          · simp only [hc, decide_false, Bool.false_eq_true, if_false]
            exact wpS_pure (r2 hc)
        · rintro _ _ ⟨n3, rfl, rfl, a1, a2, a3, -⟩
          exact wpS_pure (h n3 _ (by omega) a2 c3 a3)
      · rw [if_neg hq]
        have c2 : Chg st stb lo (lo + nrem) := c1.trans (b3.mono (Nat.le_refl _) (by omega))
        have f2 := b4
        refine wpS_bind (wpS_rev (k := k) (by rw [c2.size]; omega) fun st3 v3 => ?_)
        have c3 := c2.trans (v3.chg.mono (Nat.le_refl _) (by omega))
        refine wpS_bind (wpS_mono (asc_loop (st := st3) (lo := lo) (fun i n2 R h1 h2 r1 r2 => ?_) (by omega) hn2 (v3.rise f2)) ?_)
        · dsimp only
          refine wpS_bind (ask_at C (by rw [c3.kind, hk]) (c3.its hI) (by rw [c3.size]; omega) (by rw [c3.size]; omega) ?_)
          by_cases hc : ky k (arrOf st3) (lo + n2) < ky k (arrOf st3) (lo + n2 - 1)
          · simp only [hc, decide_true, if_true]
            exact wpS_pure (r1 hc)
          · simp only [hc, decide_false, Bool.false_eq_true, if_false]
            exact wpS_pure (r2 hc)
        · rintro _ _ ⟨n3, rfl, rfl, a1, a2, a3, -⟩
          exact wpS_pure (h n3 _ (by omega) a2 c3 a3)
theorem wpS_bins (C : Ask M A E s kd k P) {st : SortSt} {lo n ok : Nat} {Q : Bool->SortSt->Prop} (hk : kindOf st = kd) (hI : Its P (arrOf st)) (h1 : 1 ≤ n) (hok : ok ≤ n) (hz : lo + n ≤ (arrOf st).size) (hs : Rise (ky k (arrOf st)) lo (lo + ok)) (h : ∀ st', Chg st st' lo (lo + n)->Rise (ky k (arrOf st')) lo (lo + n)->Q true st') : wpS M A E s (binarySort' lo n ok) Q st := by
  rw [binarySort'_eq]
  refine wpS_bind (wpS_mono (wpS_forRange (I := fun m c st' => c = (none, ())/\Chg st st' lo (lo + n)/\Rise (ky k (arrOf st')) lo (lo + m)) (Q := fun c st' => c = (none, ())/\Chg st st' lo (lo + n)/\Rise (ky k (arrOf st')) lo (lo + n)) ?_ ?_ ⟨rfl, .refl _ _ _, ?_⟩) ?_)
  · rintro m c st1 x1 x2 ⟨rfl, g, r⟩
    dsimp only
    refine wpS_bind (wpS_mono (wpS_forRange (I := fun i c st' => ∃ u v, st1 = st'/\c = (none, u, v)/\u ≤ v/\v ≤ m/\(∀ t, lo ≤ t->t < lo + u->ky k (arrOf st1) t ≤ ky k (arrOf st1) (lo + m))/\(∀ t, lo + v ≤ t->t < lo + m->ky k (arrOf st1) (lo + m) ≤ ky k (arrOf st1) t)/\v ≤ u + (m - i))
      (Q := fun c st' => ∃ u, st1 = st'/\c = (none, u, u)/\u ≤ m/\(∀ t, lo ≤ t->t < lo + u->ky k (arrOf st1) t ≤ ky k (arrOf st1) (lo + m))/\(∀ t, lo + u ≤ t->t < lo + m->ky k (arrOf st1) (lo + m) ≤ ky k (arrOf st1) t)) ?_ ?_ ⟨0, m, rfl, rfl, by omega, by omega, fun t t1 t2 => by omega, fun t t1 t2 => by omega, by omega⟩) ?_)
    · rintro i c _ - x3 ⟨u, v, rfl, rfl, b1, b2, b3, b4, b5⟩
      dsimp only
      by_cases hc : u ≥ v
      · rw [if_pos hc]
        have e : u = v := by omega
        subst e
        exact wpS_pure ⟨u, rfl, rfl, b2, b3, b4⟩
      · rw [if_neg hc]
        refine wpS_bind (ask_at C (by rw [g.kind, hk]) (g.its hI) (by rw [g.size]; omega) (by rw [g.size]; omega) ?_)
        by_cases hd : ky k (arrOf st1) (lo + m) < ky k (arrOf st1) (lo + (u + v) / 2)
        · simp only [hd, decide_true, if_true]
          refine wpS_pure ⟨u, (u + v) / 2, rfl, rfl, by omega, by omega, b3, fun t t1 t2 => ?_, by omega⟩
          have := r (lo + (u + v) / 2) t (by omega) t1 t2
          omega
        · simp only [hd, decide_false, Bool.false_eq_true, if_false]
          refine wpS_pure ⟨(u + v) / 2 + 1, v, rfl, rfl, by omega, by omega, fun t t1 t2 => ?_, b4, by omega⟩
          have := r t (lo + (u + v) / 2) t1 (by omega) (by omega)
          omega
    · rintro c _ ⟨u, v, rfl, rfl, b1, b2, b3, b4, b5⟩
      have e : u = v := by omega
      subst e
      exact ⟨u, rfl, rfl, b2, b3, b4⟩
    · rintro c _ ⟨u, rfl, rfl, b2, b3, b4⟩
      dsimp only
      rw [moveDown'_eq]
      have hz1 : lo + m < (arrOf st1).size := by rw [g.size]; omega
      have G : ∀ t, (bubble (arrOf st1) (lo + m) (lo + m - (lo + u)))[t]? = _ := getElem?_bubble hz1 (lo + m - (lo + u)) (by omega)
      refine wpS_bind (wpS_modify (wpS_pure ⟨rfl, g.trans ⟨rfl, rfl, rfl, bubble_perm _ _ _, fun i hi => ?_⟩, fun x y y1 y2 y3 => ?_⟩))
      · exact (G i).trans ((if_neg (by omega)).trans (if_neg (by omega)))
      · have key : ∀ t, ky k (bubble (arrOf st1) (lo + m) (lo + m - (lo + u))) t = if t = lo + u then ky k (arrOf st1) (lo + m) else if lo + u < t/\t ≤ lo + m then ky k (arrOf st1) (t - 1) else ky k (arrOf st1) t := fun t => by
          have e := G t
          rw [show lo + m - (lo + m - (lo + u)) = lo + u by omega] at e
          split
          · rename_i q
            rw [if_pos q] at e
            exact ky_congr e
          · rename_i q
            rw [if_neg q] at e
            split
            · rename_i q2
              rw [if_pos q2] at e
              exact ky_congr e
            · rename_i q2
              rw [if_neg q2] at e
              exact ky_congr e
        show ky k (bubble (arrOf st1) (lo + m) (lo + m - (lo + u))) x ≤ ky k (bubble (arrOf st1) (lo + m) (lo + m - (lo + u))) y
        rw [key, key]
        repeat' split
        all_goals first | exact Int.le_refl _ | (exfalso; omega) | exact b4 _ (by omega) (by omega) | exact b3 _ (by omega) (by omega) | exact r _ _ (by omega) (by omega) (by omega)
  · rintro c st1 ⟨rfl, g, r⟩
    rw [show max (max ok 1) n = n by omega] at r
    exact ⟨rfl, g, r⟩
  · intro x y x1 x2 x3
    by_cases e : ok = 0
    · rw [show x = y by omega]
      exact Int.le_refl _
    · exact hs x y x1 x2 (by omega)
  · rintro c st1 ⟨rfl, g, r⟩
    exact wpS_pure (h _ g r)
end
end Tw
namespace Tw
open PySem PyProof.Rows
abbrev setGal (st : SortSt) (g : Nat) : SortSt := SortSt.mk' (kindOf st) (arrOf st) (pendingOf st) g (failedOf st)
def endP (a b : Array Keyed) (o : Array Keyed) (i j : Nat) : Array Keyed := o ++ a.extract i a.size ++ b.extract j b.size
def endQ (a b : Array Keyed) (o : Array Keyed) (i j : Nat) : Array Keyed := o ++ b.extract j b.size ++ a.extract i a.size
theorem mergeLoP_eq (a b : Array Keyed) : mergeLoP a b = (do
  rule "list.sort.merge-lo"
  let tot := a.size + b.size
  let mut o : Array Keyed := #[← elem' b 0]; let mut i := 0; let mut j := 1
  if j == b.size then return endP a b o i j
  if i + 1 == a.size then return endQ a b o i j
  let mut mg := gallopOf (← get)
  for _ in [0:tot] do
    let mut ca := 0; let mut cb := 0
    for _ in [0:tot] do
      let some bw ← lt' (← elem' b j) (← elem' a i) | return endP a b o i j
      if bw then
        o := o.push (← elem' b j); j := j + 1; cb := cb + 1; ca := 0
        if j == b.size then return endP a b o i j
        if cb ≥ mg then break
      else
        o := o.push (← elem' a i); i := i + 1; ca := ca + 1; cb := 0
        if i + 1 == a.size then return endQ a b o i j
        if ca ≥ mg then break
    rule "list.sort.gallop"
    mg := mg + 1
    for _ in [0:tot] do
      if mg > 1 then mg := mg - 1
      modify fun z => setGal z mg
      let some q ← gallopP false (← elem' b j) a i (a.size - i) 0 | return endP a b o i j
      ca := q
      if q > 0 then
        o := o ++ a.extract i (i + q); i := i + q
        if i + 1 == a.size then return endQ a b o i j
        if i == a.size then return endP a b o i j
      o := o.push (← elem' b j); j := j + 1
      if j == b.size then return endP a b o i j
      let some q ← gallopP true (← elem' a i) b j (b.size - j) 0 | return endP a b o i j
      cb := q
      if q > 0 then
        o := o ++ b.extract j (j + q); j := j + q
        if j == b.size then return endP a b o i j
      o := o.push (← elem' a i); i := i + 1
      if i + 1 == a.size then return endQ a b o i j
      if ca < 7 && cb < 7 then break
    mg := mg + 1
    modify fun z => setGal z mg
  unsupported "internal:list.sort.merge-bound") := rfl
def endR (a b : Array Keyed) (o : Array Keyed) (i j : Nat) : Array Keyed := a.extract 0 i ++ b.extract 0 j ++ o.reverse
def endS (a b : Array Keyed) (o : Array Keyed) (i j : Nat) : Array Keyed := b.extract 0 j ++ a.extract 0 i ++ o.reverse
theorem mergeHiP_eq (a b : Array Keyed) : mergeHiP a b = (do
  rule "list.sort.merge-hi"
  let tot := a.size + b.size
  let mut i := a.size - 1; let mut j := b.size; let mut o : Array Keyed := #[← elem' a i]
  if i == 0 then return endR a b o i j
  if j == 1 then return endS a b o i j
  let mut mg := gallopOf (← get)
  for _ in [0:tot] do
    let mut ca := 0; let mut cb := 0
    for _ in [0:tot] do
      let some aw ← lt' (← elem' b (j - 1)) (← elem' a (i - 1)) | return endR a b o i j
      if aw then
        i := i - 1; o := o.push (← elem' a i); ca := ca + 1; cb := 0
        if i == 0 then return endR a b o i j
        if ca ≥ mg then break
      else
        j := j - 1; o := o.push (← elem' b j); cb := cb + 1; ca := 0
        if j == 1 then return endS a b o i j
        if cb ≥ mg then break
    rule "list.sort.gallop"
    mg := mg + 1
    for _ in [0:tot] do
      if mg > 1 then mg := mg - 1
      modify fun z => setGal z mg
      let some q ← gallopP false (← elem' b (j - 1)) a 0 i (i - 1) | return endR a b o i j
      let d := i - q
      ca := d
      if d > 0 then
        o := o ++ (a.extract q i).reverse; i := q
        if i == 0 then return endR a b o i j
      j := j - 1; o := o.push (← elem' b j)
      if j == 1 then return endS a b o i j
      let some q ← gallopP true (← elem' a (i - 1)) b 0 j (j - 1) | return endR a b o i j
      let d := j - q
      cb := d
      if d > 0 then
        o := o ++ (b.extract q j).reverse; j := q
        if j == 1 then return endS a b o i j
        if j == 0 then return endR a b o i j
      i := i - 1; o := o.push (← elem' a i)
      if i == 0 then return endR a b o i j
      if ca < 7 && cb < 7 then break
    mg := mg + 1
    modify fun z => setGal z mg
  unsupported "internal:list.sort.merge-bound") := rfl
structure Mrg (k : Keyed->Int) (l o x y : List Keyed) : Prop where
  perm : (o ++ (x ++ y)).Perm l
  so : o.Pairwise fun p q => k p ≤ k q
  sx : x.Pairwise fun p q => k p ≤ k q
  sy : y.Pairwise fun p q => k p ≤ k q
  ox : ∀ p ∈ o, ∀ q ∈ x, k p ≤ k q
  oy : ∀ p ∈ o, ∀ q ∈ y, k p ≤ k q
def Res (k : Keyed->Int) (l r : List Keyed) : Prop := r.Perm l/\r.Pairwise fun p q => k p ≤ k q
section
variable {k : Keyed->Int} {l o x y : List Keyed}
theorem Mrg.swap (h : Mrg k l o x y) : Mrg k l o y x := ⟨(List.Perm.append_left o List.perm_append_comm).trans h.perm, h.so, h.sy, h.sx, h.oy, h.ox⟩
theorem Mrg.takeX (h : Mrg k l o x y) (n : Nat) (c : ∀ p ∈ x.take n, ∀ q ∈ y, k p ≤ k q) : Mrg k l (o ++ x.take n) (x.drop n) y := by
  have e : x = x.take n ++ x.drop n := (List.take_append_drop n x).symm
  have sx := h.sx
  rw [e, List.pairwise_append] at sx
  have mt : ∀ p, p ∈ x.take n->p ∈ x := fun p hp => List.mem_of_mem_take hp
  have md : ∀ p, p ∈ x.drop n->p ∈ x := fun p hp => List.mem_of_mem_drop hp
  refine ⟨?_, List.pairwise_append.mpr ⟨h.so, sx.1, fun p hp q hq => h.ox p hp q (mt q hq)⟩, sx.2.1, h.sy, fun p hp q hq => ?_, fun p hp q hq => ?_⟩
  · have := h.perm
    rw [e] at this
    simpa only [List.append_assoc] using this
  · rcases List.mem_append.mp hp with hp | hp
    · exact h.ox p hp q (md q hq)
    · exact sx.2.2 p hp q hq
  · rcases List.mem_append.mp hp with hp | hp
    · exact h.oy p hp q hq
    · exact c p hp q hq
theorem Mrg.endX (h : Mrg k l o x []) : Res k l (o ++ x) := ⟨by simpa using h.perm, List.pairwise_append.mpr ⟨h.so, h.sx, h.ox⟩⟩
theorem Mrg.endL {z : Keyed} (h : Mrg k l o [z] y) (c : ∀ p ∈ y, k p ≤ k z) : Res k l (o ++ (y ++ [z])) := by
  refine ⟨h.swap.perm, List.pairwise_append.mpr ⟨h.so, List.pairwise_append.mpr ⟨h.sy, h.sx, fun p hp q hq => ?_⟩, fun p hp q hq => ?_⟩⟩
  · rw [List.mem_singleton.mp hq]
    exact c p hp
  · rcases List.mem_append.mp hq with hq | hq
    · exact h.oy p hp q hq
    · exact h.ox p hp q hq
theorem mem_dropA {a : Array Keyed} {i n : Nat} {w : Keyed} (h : w ∈ (a.toList.drop i).take n) : ∃ t, i ≤ t/\t < i + n/\t < a.size/\ky k a t = k w := by
  obtain ⟨t, ht⟩ := List.mem_iff_getElem?.mp h
  rw [List.getElem?_take] at ht
  split at ht
  · rename_i hn
    rw [List.getElem?_drop] at ht
    have hz : i + t < a.toList.length := (List.getElem?_eq_some_iff.mp ht).1
    rw [Array.getElem?_toList] at ht
    exact ⟨i + t, by omega, by omega, by simpa using hz, ky_at ht⟩
  · cases ht
theorem mem_dropB {a : Array Keyed} {i : Nat} {w : Keyed} (h : w ∈ a.toList.drop i) : ∃ t, i ≤ t/\t < a.size/\ky k a t = k w := by
  obtain ⟨t, h1, h2, h3, h4⟩ := mem_dropA (k := k) (n := (a.toList.drop i).length) (by rw [List.take_length]; exact h)
  exact ⟨t, h1, h3, h4⟩
theorem mem_takeA {a : Array Keyed} {i : Nat} {w : Keyed} (h : w ∈ a.toList.take i) : ∃ t, t < i/\t < a.size/\ky k a t = k w := by
  obtain ⟨t, h1, h2, h3, h4⟩ := mem_dropA (k := k) (i := 0) (n := i) (by rw [List.drop_zero]; exact h)
  exact ⟨t, by omega, h3, h4⟩
theorem pw_rise {a : Array Keyed} (h : Rise (ky k a) 0 a.size) : a.toList.Pairwise fun p q => k p ≤ k q := by
  rw [List.pairwise_iff_getElem]
  intro i j hi hj hij
  have hi' : i < a.size := by simpa using hi
  have hj' : j < a.size := by simpa using hj
  have := h i j (Nat.zero_le _) (by omega) hj'
  rw [ky_at (getElem?_pos a i hi'), ky_at (getElem?_pos a j hj')] at this
  simpa using this
theorem rise_pw {a : Array Keyed} (h : a.toList.Pairwise fun p q => k p ≤ k q) : Rise (ky k a) 0 a.size := fun i j _ hij hj => by
  have hi : i < a.size := by omega
  rw [ky_at (getElem?_pos a i hi), ky_at (getElem?_pos a j hj)]
  by_cases e : i = j
  · subst e
    exact Int.le_refl _
  · have := List.pairwise_iff_getElem.mp h i j (by simpa using hi) (by simpa using hj) (by omega)
    simpa using this
end
structure Lo (k : Keyed->Int) (a b o : Array Keyed) (i j : Nat) : Prop where
  m : Mrg k (a.toList ++ b.toList) o.toList (a.toList.drop i) (b.toList.drop j)
  hi : i ≤ a.size
  hj : j ≤ b.size
section
variable {k : Keyed->Int} {a b o : Array Keyed} {i j : Nat}
theorem Lo.swap (h : Lo k a b o i j) : Lo k b a o j i := ⟨⟨h.m.swap.perm.trans List.perm_append_comm, h.m.so, h.m.sy, h.m.sx, h.m.oy, h.m.ox⟩, h.hj, h.hi⟩
theorem Lo.pa (h : Lo k a b o i j) {q : Nat} (hq : i + q ≤ a.size) (c : ∀ t u, i ≤ t->t < i + q->j ≤ u->u < b.size->ky k a t ≤ ky k b u) : Lo k a b (o ++ a.extract i (i + q)) (i + q) j := by
  have := h.m.takeX q fun p hp z hz => by
    obtain ⟨t, h1, h2, h3, h4⟩ := mem_dropA (k := k) hp
    obtain ⟨u, h5, h6, h7⟩ := mem_dropB (k := k) hz
    rw [← h4, ← h7]
    exact c t u h1 h2 h5 h6
  refine ⟨?_, hq, h.hj⟩
  rw [Array.toList_append, Array.toList_extract, List.extract_eq_take_drop, Nat.add_sub_cancel_left]
  rw [List.drop_drop] at this
  exact this
theorem Lo.pa1 (h : Lo k a b o i j) {z : Keyed} (hz : a[i]? = some z) (c : ∀ u, j ≤ u->u < b.size->k z ≤ ky k b u) : Lo k a b (o.push z) (i + 1) j := by
  have hi : i < a.size := (Array.getElem?_eq_some_iff.mp hz).1
  have := h.pa (q := 1) (by omega) fun t u h1 h2 h3 h4 => by
    rw [show t = i by omega, ky_at hz]
    exact c u h3 h4
  have e : o ++ a.extract i (i + 1) = o.push z := by
    apply Array.toList_inj.mp
    rw [Array.toList_append, Array.toList_extract, List.extract_eq_take_drop, Nat.add_sub_cancel_left, Array.toList_push, List.drop_eq_getElem_cons (by simpa using hi)]
    obtain ⟨h1, h2⟩ := Array.getElem?_eq_some_iff.mp hz
    simp [h2]
  rwa [e] at this
theorem Lo.pb (h : Lo k a b o i j) {q : Nat} (hq : j + q ≤ b.size) (c : ∀ t u, j ≤ t->t < j + q->i ≤ u->u < a.size->ky k b t ≤ ky k a u) : Lo k a b (o ++ b.extract j (j + q)) i (j + q) := (h.swap.pa hq c).swap
theorem Lo.pb1 (h : Lo k a b o i j) {z : Keyed} (hz : b[j]? = some z) (c : ∀ u, i ≤ u->u < a.size->k z ≤ ky k a u) : Lo k a b (o.push z) i (j + 1) := (h.swap.pa1 hz c).swap
theorem Lo.endB (h : Lo k a b o i b.size) : Res k (a.toList ++ b.toList) (endP a b o i b.size).toList := by
  have m := h.m
  rw [List.drop_eq_nil_of_le (i := b.size) (as := b.toList) (by simp)] at m
  have := m.endX
  unfold endP
  simpa [Array.toList_append, Array.toList_extract, List.extract_eq_take_drop, List.take_of_length_le] using this
theorem Lo.endA (h : Lo k a b o a.size j) : Res k (a.toList ++ b.toList) (endP a b o a.size j).toList := by
  have m := h.m.swap
  rw [List.drop_eq_nil_of_le (i := a.size) (as := a.toList) (by simp)] at m
  have := m.endX
  unfold endP
  simpa [Array.toList_append, Array.toList_extract, List.extract_eq_take_drop, List.take_of_length_le] using this
theorem Lo.endQ (h : Lo k a b o i j) (hi : i + 1 = a.size) (c : ∀ u, u < b.size->ky k b u ≤ ky k a i) : Res k (a.toList ++ b.toList) (endQ a b o i j).toList := by
  have m := h.m
  have hi' : i < a.toList.length := by simp; omega
  rw [List.drop_eq_getElem_cons hi', List.drop_eq_nil_of_le (i := i + 1) (by simp; omega)] at m
  have := m.endL fun p hp => by
    obtain ⟨u, h5, h6, h7⟩ := mem_dropB (k := k) hp
    have := c u h6
    rw [h7, ky_at (getElem?_pos a i (by omega))] at this
    simpa using this
  unfold Tw.endQ
  rw [Array.toList_append, Array.toList_append, Array.toList_extract, Array.toList_extract, List.extract_eq_take_drop, List.extract_eq_take_drop, List.append_assoc, List.take_of_length_le (by simp), List.take_of_length_le (by simp), List.drop_eq_getElem_cons hi', List.drop_eq_nil_of_le (i := i + 1) (by simp; omega)]
  exact this
end
end Tw
namespace Tw
open PySem PyProof.Rows
abbrev GalS := Option (Array Keyed) × Array Keyed × Nat × Nat × Nat × Nat × Nat
def gal3 (a b o : Array Keyed) (i j mg ca cb : Nat) : StateT SortSt Sem (ForInStep GalS) := do
  let z ← elem' a i
  if i + 1 + 1 == a.size then pure (.done (some (endQ a b (o.push z) (i + 1) j), o.push z, i + 1, j, mg, ca, cb))
  else if ca < 7 && cb < 7 then pure (.done (none, o.push z, i + 1, j, mg, ca, cb)) else pure (.yield (none, o.push z, i + 1, j, mg, ca, cb))
def gal2 (a b o : Array Keyed) (i j mg ca cb : Nat) : StateT SortSt Sem (ForInStep GalS) := do
  let z ← elem' b j
  if j + 1 == b.size then pure (.done (some (endP a b (o.push z) i (j + 1)), o.push z, i, j + 1, mg, ca, cb))
  else
    let some q ← gallopP true (← elem' a i) b (j + 1) (b.size - (j + 1)) 0 | pure (.done (some (endP a b (o.push z) i (j + 1)), o.push z, i, j + 1, mg, ca, cb))
    if q > 0 then
      if j + 1 + q == b.size then pure (.done (some (endP a b (o.push z ++ b.extract (j + 1) (j + 1 + q)) i (j + 1 + q)), o.push z ++ b.extract (j + 1) (j + 1 + q), i, j + 1 + q, mg, ca, q))
      else gal3 a b (o.push z ++ b.extract (j + 1) (j + 1 + q)) i (j + 1 + q) mg ca q
    else gal3 a b (o.push z) i (j + 1) mg ca q
def gal1 (a b o : Array Keyed) (i j mg ca cb : Nat) : StateT SortSt Sem (ForInStep GalS) := do
  modify fun z => setGal z mg
  let some q ← gallopP false (← elem' b j) a i (a.size - i) 0 | pure (.done (some (endP a b o i j), o, i, j, mg, ca, cb))
  if q > 0 then
    if i + q + 1 == a.size then pure (.done (some (endQ a b (o ++ a.extract i (i + q)) (i + q) j), o ++ a.extract i (i + q), i + q, j, mg, q, cb))
    else if i + q == a.size then pure (.done (some (endP a b (o ++ a.extract i (i + q)) (i + q) j), o ++ a.extract i (i + q), i + q, j, mg, q, cb))
    else gal2 a b (o ++ a.extract i (i + q)) (i + q) j mg q cb
  else gal2 a b o i j mg q cb
abbrev OneS := Option (Array Keyed) × Array Keyed × Nat × Nat × Nat × Nat
def one1 (a b o : Array Keyed) (i j ca cb mg : Nat) : StateT SortSt Sem (ForInStep OneS) := do
  let y ← elem' b j
  let x ← elem' a i
  let some bw ← lt' y x | pure (.done (some (endP a b o i j), o, i, j, ca, cb))
  if bw then
    let z ← elem' b j
    if j + 1 == b.size then pure (.done (some (endP a b (o.push z) i (j + 1)), o.push z, i, j + 1, 0, cb + 1)) else if cb + 1 ≥ mg then pure (.done (none, o.push z, i, j + 1, 0, cb + 1)) else pure (.yield (none, o.push z, i, j + 1, 0, cb + 1))
  else
    let z ← elem' a i
    if i + 1 + 1 == a.size then pure (.done (some (endQ a b (o.push z) (i + 1) j), o.push z, i + 1, j, ca + 1, 0)) else if ca + 1 ≥ mg then pure (.done (none, o.push z, i + 1, j, ca + 1, 0)) else pure (.yield (none, o.push z, i + 1, j, ca + 1, 0))
structure Two (k : Keyed->Int) (P : Keyed->Prop) (a b : Array Keyed) : Prop where
  pa : All P a 0 a.size
  pb : All P b 0 b.size
  ra : Rise (ky k a) 0 a.size
  rb : Rise (ky k b) 0 b.size
  la : ∀ u, u < b.size->ky k b u ≤ ky k a (a.size - 1)
  fb : ∀ u, u < a.size->ky k b 0 ≤ ky k a u
  na : 1 ≤ a.size
  nb : 1 ≤ b.size
structure Gal (st st' : SortSt) : Prop where
  kind : kindOf st' = kindOf st
  arr : arrOf st' = arrOf st
  pend : pendingOf st' = pendingOf st
  fail : failedOf st' = failedOf st
theorem Gal.refl (st : SortSt) : Gal st st := ⟨rfl, rfl, rfl, rfl⟩
theorem Gal.set {st st' : SortSt} (h : Gal st st') (g : Nat) : Gal st (setGal st' g) := ⟨h.kind, h.arr, h.pend, h.fail⟩
section
variable {M : Model} {A : Around} {E : Value->Shared->Prop} {s : Shared} {kd : SortKind} {k : Keyed->Int} {P : Keyed->Prop} {a b o : Array Keyed} {i j mg ca cb : Nat} {st : SortSt}
theorem gal3_ok {R : ForInStep GalS->SortSt->Prop} (T : Two k P a b) (L : Lo k a b o i j) (hi : i + 1 < a.size) (hj : j < b.size) (c : ∀ u, j ≤ u->u < b.size->ky k a i ≤ ky k b u) (h1 : ∀ r x, Res k (a.toList ++ b.toList) r.toList->R (.done (some r, x)) st) (h2 : ∀ o' i' j' mg ca cb, Lo k a b o' i' j'->i' + 1 < a.size->j' < b.size->i + j < i' + j'->R (.done (none, o', i', j', mg, ca, cb)) st/\R (.yield (none, o', i', j', mg, ca, cb)) st) : wpS M A E s (gal3 a b o i j mg ca cb) R st := by
  obtain ⟨z, hz, -⟩ := T.pa i (Nat.zero_le _) (by omega)
  rw [ky_at hz] at c
  have L' := L.pa1 hz c
  unfold gal3
  refine wpS_bind (elem_at hz ?_)
  by_cases e : i + 1 + 1 = a.size
  · rw [if_pos (by simp [e])]
    exact wpS_pure (h1 _ _ (L'.endQ e fun u hu => by have := T.la u hu; rwa [show a.size - 1 = i + 1 by omega] at this))
  · rw [if_neg (by simp [e])]
    have := h2 _ _ _ mg ca cb L' (by omega) hj (by omega)
    split
    · exact wpS_pure this.1
    · exact wpS_pure this.2
theorem gal2_ok (C : Ask M A E s kd k P) (hk : kindOf st = kd) {R : ForInStep GalS->SortSt->Prop} (T : Two k P a b) (L : Lo k a b o i j) (hi : i + 1 < a.size) (hj : j < b.size) (c : ∀ u, i ≤ u->u < a.size->ky k b j ≤ ky k a u) (h1 : ∀ r x, Res k (a.toList ++ b.toList) r.toList->R (.done (some r, x)) st) (h2 : ∀ o' i' j' mg ca cb, Lo k a b o' i' j'->i' + 1 < a.size->j' < b.size->i + j < i' + j'->R (.done (none, o', i', j', mg, ca, cb)) st/\R (.yield (none, o', i', j', mg, ca, cb)) st) : wpS M A E s (gal2 a b o i j mg ca cb) R st := by
  obtain ⟨z, hz, -⟩ := T.pb j (Nat.zero_le _) (by omega)
  obtain ⟨x, hx, px⟩ := T.pa i (Nat.zero_le _) (by omega)
  rw [ky_at hz] at c
  have L' := L.pb1 hz c
  unfold gal2
  refine wpS_bind (elem_at hz ?_)
  by_cases e : j + 1 = b.size
  · rw [if_pos (by simp [e])]
    rw [e] at L' ⊢
    exact wpS_pure (h1 _ _ L'.endB)
  rw [if_neg (by simp [e])]
  refine wpS_bind (elem_at hx ?_)
  refine wpS_bind (wpS_gallop (at0 := j + 1) (n := b.size - (j + 1)) (h := 0) C hk px (fun t t1 t2 => T.pb t (Nat.zero_le _) (by omega)) (fun t u t1 t2 t3 => T.rb t u (Nat.zero_le _) t2 (by omega)) (by omega) fun q hq q1 q2 => ?_)
  dsimp only
  have up : ∀ t u, j + 1 ≤ t->t < j + 1 + q->i ≤ u->u < a.size->ky k b t ≤ ky k a u := fun t u t1 t2 t3 t4 => by
    have := q1 (t - (j + 1)) (by omega)
    rw [show j + 1 + (t - (j + 1)) = t by omega] at this
    have := T.ra i u (Nat.zero_le _) t3 t4
    rw [ky_at hx] at this
    omega
  have dn : ∀ u, j + 1 + q ≤ u->u < b.size->ky k a i ≤ ky k b u := fun u t1 t2 => by
    have := q2 (u - (j + 1)) (by omega) (by omega)
    rw [show j + 1 + (u - (j + 1)) = u by omega] at this
    rw [ky_at hx]
    exact this
  by_cases hq0 : q > 0
  · rw [if_pos hq0]
    have L2 := L'.pb (q := q) (by omega) up
    by_cases e2 : j + 1 + q = b.size
    · rw [if_pos (by simp [e2])]
      rw [e2] at L2 ⊢
      exact wpS_pure (h1 _ _ L2.endB)
    · rw [if_neg (by simp [e2])]
      exact gal3_ok T L2 hi (by omega) dn h1 fun o' i' j' mg ca cb x1 x2 x3 x4 => h2 o' i' j' mg ca cb x1 x2 x3 (by omega)
  · rw [if_neg hq0]
    exact gal3_ok T L' hi (by omega) (fun u t1 t2 => dn u (by omega) t2) h1 fun o' i' j' mg ca cb x1 x2 x3 x4 => h2 o' i' j' mg ca cb x1 x2 x3 (by omega)
theorem gal1_ok (C : Ask M A E s kd k P) (hk : kindOf st = kd) {R : ForInStep GalS->SortSt->Prop} (T : Two k P a b) (L : Lo k a b o i j) (hi : i + 1 < a.size) (hj : j < b.size) (h1 : ∀ g r x, Res k (a.toList ++ b.toList) r.toList->R (.done (some r, x)) (setGal st g)) (h2 : ∀ g o' i' j' mg ca cb, Lo k a b o' i' j'->i' + 1 < a.size->j' < b.size->i + j < i' + j'->R (.done (none, o', i', j', mg, ca, cb)) (setGal st g)/\R (.yield (none, o', i', j', mg, ca, cb)) (setGal st g)) : wpS M A E s (gal1 a b o i j mg ca cb) R st := by
  obtain ⟨x, hx, px⟩ := T.pb j (Nat.zero_le _) (by omega)
  unfold gal1
  refine wpS_bind (wpS_modify ?_)
  refine wpS_bind (elem_at hx ?_)
  refine wpS_bind (wpS_gallop (st := setGal st mg) (at0 := i) (n := a.size - i) (h := 0) C (show kindOf (setGal st mg) = kd from hk) px (fun t t1 t2 => T.pa t (Nat.zero_le _) (by omega)) (fun t u t1 t2 t3 => T.ra t u (Nat.zero_le _) t2 (by omega)) (by omega) fun q hq q1 q2 => ?_)
  dsimp only
  have up : ∀ t u, i ≤ t->t < i + q->j ≤ u->u < b.size->ky k a t ≤ ky k b u := fun t u t1 t2 t3 t4 => by
    have := q1 (t - i) (by omega)
    rw [show i + (t - i) = t by omega] at this
    have := T.rb j u (Nat.zero_le _) t3 t4
    rw [ky_at hx] at this
    omega
  have dn : ∀ u, i + q ≤ u->u < a.size->ky k b j ≤ ky k a u := fun u t1 t2 => by
    have := q2 (u - i) (by omega) (by omega)
    rw [show i + (u - i) = u by omega] at this
    rw [ky_at hx]
    exact this
  by_cases hq0 : q > 0
  · rw [if_pos hq0]
    have L2 := L.pa (q := q) (by omega) up
    by_cases e2 : i + q + 1 = a.size
    · rw [if_pos (by simp [e2])]
      exact wpS_pure (h1 _ _ _ (L2.endQ e2 fun u hu => by have := T.la u hu; rwa [show a.size - 1 = i + q by omega] at this))
    rw [if_neg (by simp [e2])]
    by_cases e3 : i + q = a.size
    · rw [if_pos (by simp [e3])]
      rw [e3] at L2 ⊢
      exact wpS_pure (h1 _ _ _ L2.endA)
    · rw [if_neg (by simp [e3])]
      exact gal2_ok (st := setGal st mg) C (show kindOf (setGal st mg) = kd from hk) T L2 (by omega) hj dn (h1 _) fun o' i' j' mg ca cb x1 x2 x3 x4 => h2 _ o' i' j' mg ca cb x1 x2 x3 (by omega)
  · rw [if_neg hq0]
    exact gal2_ok (st := setGal st mg) C (show kindOf (setGal st mg) = kd from hk) T L hi hj (fun u t1 t2 => dn u (by omega) t2) (h1 _) (h2 _)
theorem one1_ok (C : Ask M A E s kd k P) (hk : kindOf st = kd) {R : ForInStep OneS->SortSt->Prop} (T : Two k P a b) (L : Lo k a b o i j) (hi : i + 1 < a.size) (hj : j < b.size) (h1 : ∀ r x, Res k (a.toList ++ b.toList) r.toList->R (.done (some r, x)) st) (h2 : ∀ o' i' j' ca cb, Lo k a b o' i' j'->i' + 1 < a.size->j' < b.size->i + j < i' + j'->R (.done (none, o', i', j', ca, cb)) st/\R (.yield (none, o', i', j', ca, cb)) st) : wpS M A E s (one1 a b o i j ca cb mg) R st := by
  obtain ⟨y, hy, py⟩ := T.pb j (Nat.zero_le _) (by omega)
  obtain ⟨x, hx, px⟩ := T.pa i (Nat.zero_le _) (by omega)
  unfold one1
  refine wpS_bind (elem_at hy (wpS_bind (elem_at hx (wpS_bind (C.ask st y x _ hk py px ?_)))))
  by_cases e : k y < k x
  · simp only [e, decide_true, if_true]
    refine wpS_bind (elem_at hy ?_)
    have L' := L.pb1 hy fun u t1 t2 => by
      have := T.ra i u (Nat.zero_le _) t1 t2
      rw [ky_at hx] at this
      omega
    by_cases e2 : j + 1 = b.size
    · rw [if_pos (by simp [e2])]
      rw [e2] at L' ⊢
      exact wpS_pure (h1 _ _ L'.endB)
    · rw [if_neg (by simp [e2])]
      have := h2 _ _ _ 0 (cb + 1) L' hi (by omega) (by omega)
      split
      · exact wpS_pure this.1
      · exact wpS_pure this.2
  · simp only [e, decide_false, Bool.false_eq_true, if_false]
    refine wpS_bind (elem_at hx ?_)
    have L' := L.pa1 hx fun u t1 t2 => by
      have := T.rb j u (Nat.zero_le _) t1 t2
      rw [ky_at hy] at this
      omega
    by_cases e2 : i + 1 + 1 = a.size
    · rw [if_pos (by simp [e2])]
      exact wpS_pure (h1 _ _ (L'.endQ e2 fun u hu => by have := T.la u hu; rwa [show a.size - 1 = i + 1 by omega] at this))
    · rw [if_neg (by simp [e2])]
      have := h2 _ _ _ (ca + 1) 0 L' (by omega) hj (by omega)
      split
      · exact wpS_pure this.1
      · exact wpS_pure this.2
theorem Two.first (T : Two k P a b) {z : Keyed} (hz : b[0]? = some z) : Lo k a b #[z] 0 1 := by
  have L : Lo k a b #[] 0 0 := ⟨⟨by simp, .nil, by simpa using pw_rise T.ra, by simpa using pw_rise T.rb, by simp, by simp⟩, Nat.zero_le _, Nat.zero_le _⟩
  exact L.pb1 hz fun u _ hu => by rw [← ky_at (k := k) hz]; exact T.fb u hu
theorem wpS_mergeLo (C : Ask M A E s kd k P) (hk : kindOf st = kd) {Q : Array Keyed->SortSt->Prop} (T : Two k P a b) (h : ∀ r st', Gal st st'->Res k (a.toList ++ b.toList) r.toList->Q r st') : wpS M A E s (mergeLoP a b) Q st := by
  have na := T.na
  have nb := T.nb
  rw [mergeLoP_eq]
  refine wpS_bind (wpS_lift (wpAny_rule ⟨rfl, ?_⟩))
  obtain ⟨z, hz, pz⟩ := T.pb 0 (Nat.zero_le _) (by omega)
  have L0 := T.first hz
  refine wpS_bind (elem_at hz ?_)
  dsimp only
  by_cases h1 : 1 = b.size
  · rw [if_pos (by simp [h1])]
    refine wpS_pure (h _ _ (.refl _) ?_)
    have e : endP a b #[z] 0 1 = endP a b #[z] 0 b.size := by rw [h1]
    rw [e]
    rw [h1] at L0
    exact L0.endB
  rw [if_neg (by simp [h1])]
  by_cases h2 : 0 + 1 = a.size
  · rw [if_pos (by simp only [h2, BEq.rfl])]
    exact wpS_pure (h _ _ (.refl _) (L0.endQ h2 fun u hu => by have := T.la u hu; rwa [show a.size - 1 = 0 by omega] at this))
  rw [if_neg (by simp only [beq_iff_eq]; exact h2)]
  refine wpS_bind (wpS_get ?_)
  refine wpS_bind (wpS_mono (wpS_forRange (I := fun x c st' => ∃ o i j mg, c = (none, o, i, j, mg)/\Gal st st'/\Lo k a b o i j/\i + 1 < a.size/\j < b.size/\x + 1 ≤ i + j) (Q := fun c st' => ∃ r x, c = (some r, x)/\Gal st st'/\Res k (a.toList ++ b.toList) r.toList) ?_ ?_ ⟨_, _, _, _, rfl, .refl _, L0, by omega, by omega, by omega⟩) ?_)
  · rintro x c st1 - hx ⟨o, i, j, mg, rfl, g, L, hi, hj, hm⟩
    refine wpS_bind (wpS_mono (wpS_forRange (I := fun _ c st' => ∃ o i j ca cb, c = (none, o, i, j, ca, cb)/\Gal st st'/\Lo k a b o i j/\i + 1 < a.size/\j < b.size/\x + 1 ≤ i + j) (Q := fun c st' => (∃ r x, c = (some r, x)/\Gal st st'/\Res k (a.toList ++ b.toList) r.toList) ∨ ∃ o i j ca cb, c = (none, o, i, j, ca, cb)/\Gal st st'/\Lo k a b o i j/\i + 1 < a.size/\j < b.size/\x + 1 ≤ i + j) ?_ ?_ ⟨_, _, _, _, _, rfl, g, L, hi, hj, hm⟩) ?_)
    · rintro _ c st1 - - ⟨o, i, j, ca, cb, rfl, g, L, hi, hj, hm⟩
      show wpS M A E s (one1 a b o i j ca cb mg) _ _
      refine one1_ok C (by rw [g.kind, hk]) T L hi hj (fun r y hr => .inl ⟨r, y, rfl, g, hr⟩) fun o' i' j' ca cb x1 x2 x3 x4 => ⟨.inr ⟨_, _, _, _, _, rfl, g, x1, x2, x3, by omega⟩, ⟨_, _, _, _, _, rfl, g, x1, x2, x3, by omega⟩⟩
    · rintro c st2 hh
      exact .inr hh
    · rintro c st2 (⟨r, x, rfl, g, hr⟩ | ⟨o, i, j, ca, cb, rfl, g, L, hi, hj, hm⟩)
      · exact wpS_pure ⟨_, _, rfl, g, hr⟩
      · dsimp only
        refine wpS_bind (wpS_lift (wpAny_rule ⟨rfl, ?_⟩))
        refine wpS_bind (wpS_mono (wpS_forRange (I := fun y c st' => ∃ o i j mg ca cb, c = (none, o, i, j, mg, ca, cb)/\Gal st st'/\Lo k a b o i j/\i + 1 < a.size/\j < b.size/\x + 1 + y ≤ i + j) (Q := fun c st' => (∃ r x, c = (some r, x)/\Gal st st'/\Res k (a.toList ++ b.toList) r.toList) ∨ ∃ o i j mg ca cb, c = (none, o, i, j, mg, ca, cb)/\Gal st st'/\Lo k a b o i j/\i + 1 < a.size/\j < b.size/\x + 1 + 1 ≤ i + j) ?_ ?_ ⟨_, _, _, _, _, _, rfl, g, L, hi, hj, by omega⟩) ?_)
        · rintro y c st1 - hy ⟨o, i, j, mg, ca, cb, rfl, g, L, hi, hj, hm⟩
          show wpS M A E s (if mg > 1 then gal1 a b o i j (mg - 1) ca cb else gal1 a b o i j mg ca cb) _ _
          split
          all_goals exact gal1_ok C (by rw [g.kind, hk]) T L hi hj (fun n r z hr => .inl ⟨r, z, rfl, g.set n, hr⟩) fun n o' i' j' mg ca cb x1 x2 x3 x4 => ⟨.inr ⟨_, _, _, _, _, _, rfl, g.set n, x1, x2, x3, by omega⟩, ⟨_, _, _, _, _, _, rfl, g.set n, x1, x2, x3, by omega⟩⟩
        · rintro c st2 ⟨o, i, j, mg, ca, cb, rfl, g, L, hi, hj, hm⟩
          exact .inr ⟨_, _, _, _, _, _, rfl, g, L, hi, hj, by omega⟩
        · rintro c st2 (⟨r, x, rfl, g, hr⟩ | ⟨o, i, j, mg, ca, cb, rfl, g, L, hi, hj, hm⟩)
          · exact wpS_pure ⟨_, _, rfl, g, hr⟩
          · exact wpS_bind (wpS_modify (wpS_pure ⟨_, _, _, _, rfl, g.set _, L, hi, hj, hm⟩))
  · rintro c st2 ⟨o, i, j, mg, rfl, g, L, hi, hj, hm⟩
    omega
  · rintro c st2 ⟨r, x, rfl, g, hr⟩
    exact wpS_pure (h _ _ g hr)
end
end Tw
namespace Tw
open PySem PyProof.Rows
structure Hi (k : Keyed->Int) (a b o : Array Keyed) (i j : Nat) : Prop where
  m : Mrg (fun z => - k z) (a.toList ++ b.toList) o.toList (a.toList.take i).reverse (b.toList.take j).reverse
  hi : i ≤ a.size
  hj : j ≤ b.size
section
variable {k : Keyed->Int} {a b o : Array Keyed} {i j : Nat}
theorem Res.rev {l r : List Keyed} (h : Res (fun z => - k z) l r) : Res k l r.reverse := ⟨(List.reverse_perm r).trans h.1, List.pairwise_reverse.mpr (h.2.imp fun {x y} (hxy : - k x ≤ - k y) => by omega)⟩
theorem Hi.swap (h : Hi k a b o i j) : Hi k b a o j i := ⟨⟨h.m.swap.perm.trans List.perm_append_comm, h.m.so, h.m.sy, h.m.sx, h.m.oy, h.m.ox⟩, h.hj, h.hi⟩
theorem Hi.pa (h : Hi k a b o i j) {q : Nat} (hq : q ≤ i) (c : ∀ t u, q ≤ t->t < i->u < j->ky k b u ≤ ky k a t) : Hi k a b (o ++ (a.extract q i).reverse) q j := by
  have hi := h.hi
  have hl : (a.toList.take i).length = i := by simp; omega
  have e1 : (a.toList.take i).reverse.take (i - q) = ((a.toList.drop q).take (i - q)).reverse := by
    rw [List.take_reverse, hl, show i - (i - q) = q by omega, List.drop_take]
  have e2 : (a.toList.take i).reverse.drop (i - q) = (a.toList.take q).reverse := by
    rw [List.drop_reverse, hl, show i - (i - q) = q by omega, List.take_take, Nat.min_eq_left hq]
  have := h.m.takeX (i - q) fun p hp z hz => by
    rw [e1, List.mem_reverse] at hp
    obtain ⟨t, h1, h2, h3, h4⟩ := mem_dropA (k := k) hp
    obtain ⟨u, h5, h6, h7⟩ := mem_takeA (k := k) (List.mem_reverse.mp hz)
    have := c t u h1 (by omega) h5
    omega
  refine ⟨?_, by omega, h.hj⟩
  rw [e1, e2] at this
  rw [Array.toList_append, Array.toList_reverse, Array.toList_extract, List.extract_eq_take_drop]
  exact this
theorem Hi.pa1 (h : Hi k a b o i j) {z : Keyed} (h1 : 1 ≤ i) (hz : a[i - 1]? = some z) (c : ∀ u, u < j->ky k b u ≤ k z) : Hi k a b (o.push z) (i - 1) j := by
  have := h.pa (q := i - 1) (by omega) fun t u h1 h2 h3 => by
    rw [show t = i - 1 by omega, ky_at hz]
    exact c u h3
  have hi : i - 1 < a.size := (Array.getElem?_eq_some_iff.mp hz).1
  have e : o ++ (a.extract (i - 1) i).reverse = o.push z := by
    apply Array.toList_inj.mp
    rw [Array.toList_append, Array.toList_reverse, Array.toList_extract, List.extract_eq_take_drop, show i - (i - 1) = 1 by omega, Array.toList_push, List.drop_eq_getElem_cons (by simpa using hi)]
    obtain ⟨h1, h2⟩ := Array.getElem?_eq_some_iff.mp hz
    simp [h2]
  rwa [e] at this
theorem Hi.pb (h : Hi k a b o i j) {q : Nat} (hq : q ≤ j) (c : ∀ t u, q ≤ t->t < j->u < i->ky k a u ≤ ky k b t) : Hi k a b (o ++ (b.extract q j).reverse) i q := (h.swap.pa hq c).swap
theorem Hi.pb1 (h : Hi k a b o i j) {z : Keyed} (h1 : 1 ≤ j) (hz : b[j - 1]? = some z) (c : ∀ u, u < i->ky k a u ≤ k z) : Hi k a b (o.push z) i (j - 1) := (h.swap.pa1 h1 hz c).swap
theorem Hi.endA (h : Hi k a b o 0 j) : Res k (a.toList ++ b.toList) (endR a b o 0 j).toList := by
  have m := h.m.swap
  rw [List.take_zero, List.reverse_nil] at m
  have := m.endX.rev
  unfold endR
  simpa [Array.toList_append, Array.toList_extract, List.extract_eq_take_drop] using this
theorem Hi.endB (h : Hi k a b o i 0) : Res k (a.toList ++ b.toList) (endR a b o i 0).toList := by
  have m := h.m
  rw [List.take_zero, List.reverse_nil] at m
  have := m.endX.rev
  unfold endR
  simpa [Array.toList_append, Array.toList_extract, List.extract_eq_take_drop] using this
theorem Hi.endS (h : Hi k a b o i 1) (c : ∀ u, u < a.size->ky k b 0 ≤ ky k a u) : Res k (a.toList ++ b.toList) (endS a b o i 1).toList := by
  have hb : 0 < b.size := h.hj
  have e : b.toList.take 1 = [b[0]] := by
    have h1 : 0 < b.toList.length := by simpa using hb
    have := List.drop_eq_getElem_cons h1
    rw [List.drop_zero] at this
    rw [this]
    simp
  have m := h.m.swap
  rw [e, List.reverse_singleton] at m
  have := (m.endL fun p hp => by
    obtain ⟨u, h5, h6, h7⟩ := mem_takeA (k := k) (List.mem_reverse.mp hp)
    have := c u h6
    rw [h7, ky_at (getElem?_pos b 0 hb)] at this
    omega).rev
  unfold Tw.endS
  rw [Array.toList_append, Array.toList_append, Array.toList_extract, Array.toList_extract, Array.toList_reverse, List.extract_eq_take_drop, List.extract_eq_take_drop, List.drop_zero, List.drop_zero, Nat.sub_zero, Nat.sub_zero, e]
  simpa using this
end
abbrev GalT := Option (Array Keyed) × Nat × Nat × Array Keyed × Nat × Nat × Nat
def hal3 (a b o : Array Keyed) (i j mg ca cb : Nat) : StateT SortSt Sem (ForInStep GalT) := do
  let z ← elem' a (i - 1)
  if i - 1 == 0 then pure (.done (some (endR a b (o.push z) (i - 1) j), i - 1, j, o.push z, mg, ca, cb))
  else if ca < 7 && cb < 7 then pure (.done (none, i - 1, j, o.push z, mg, ca, cb)) else pure (.yield (none, i - 1, j, o.push z, mg, ca, cb))
def hal2 (a b o : Array Keyed) (i j mg ca cb : Nat) : StateT SortSt Sem (ForInStep GalT) := do
  let z ← elem' b (j - 1)
  if j - 1 == 1 then pure (.done (some (endS a b (o.push z) i (j - 1)), i, j - 1, o.push z, mg, ca, cb))
  else
    let some q ← gallopP true (← elem' a (i - 1)) b 0 (j - 1) (j - 1 - 1) | pure (.done (some (endR a b (o.push z) i (j - 1)), i, j - 1, o.push z, mg, ca, cb))
    if j - 1 - q > 0 then
      if q == 1 then pure (.done (some (endS a b (o.push z ++ (b.extract q (j - 1)).reverse) i q), i, q, o.push z ++ (b.extract q (j - 1)).reverse, mg, ca, j - 1 - q))
      else if q == 0 then pure (.done (some (endR a b (o.push z ++ (b.extract q (j - 1)).reverse) i q), i, q, o.push z ++ (b.extract q (j - 1)).reverse, mg, ca, j - 1 - q))
      else hal3 a b (o.push z ++ (b.extract q (j - 1)).reverse) i q mg ca (j - 1 - q)
    else hal3 a b (o.push z) i (j - 1) mg ca (j - 1 - q)
def hal1 (a b o : Array Keyed) (i j mg ca cb : Nat) : StateT SortSt Sem (ForInStep GalT) := do
  modify fun z => setGal z mg
  let some q ← gallopP false (← elem' b (j - 1)) a 0 i (i - 1) | pure (.done (some (endR a b o i j), i, j, o, mg, ca, cb))
  if i - q > 0 then
    if q == 0 then pure (.done (some (endR a b (o ++ (a.extract q i).reverse) q j), q, j, o ++ (a.extract q i).reverse, mg, i - q, cb))
    else hal2 a b (o ++ (a.extract q i).reverse) q j mg (i - q) cb
  else hal2 a b o i j mg (i - q) cb
abbrev OneT := Option (Array Keyed) × Nat × Nat × Array Keyed × Nat × Nat
def hne1 (a b o : Array Keyed) (i j ca cb mg : Nat) : StateT SortSt Sem (ForInStep OneT) := do
  let y ← elem' b (j - 1)
  let x ← elem' a (i - 1)
  let some aw ← lt' y x | pure (.done (some (endR a b o i j), i, j, o, ca, cb))
  if aw then
    let z ← elem' a (i - 1)
    if i - 1 == 0 then pure (.done (some (endR a b (o.push z) (i - 1) j), i - 1, j, o.push z, ca + 1, 0)) else if ca + 1 ≥ mg then pure (.done (none, i - 1, j, o.push z, ca + 1, 0)) else pure (.yield (none, i - 1, j, o.push z, ca + 1, 0))
  else
    let z ← elem' b (j - 1)
    if j - 1 == 1 then pure (.done (some (endS a b (o.push z) i (j - 1)), i, j - 1, o.push z, 0, cb + 1)) else if cb + 1 ≥ mg then pure (.done (none, i, j - 1, o.push z, 0, cb + 1)) else pure (.yield (none, i, j - 1, o.push z, 0, cb + 1))
section
variable {M : Model} {A : Around} {E : Value->Shared->Prop} {s : Shared} {kd : SortKind} {k : Keyed->Int} {P : Keyed->Prop} {a b o : Array Keyed} {i j mg ca cb : Nat} {st : SortSt}
theorem hal3_ok {R : ForInStep GalT->SortSt->Prop} (T : Two k P a b) (L : Hi k a b o i j) (hi : 1 ≤ i) (hj : 2 ≤ j) (c : ∀ u, u < j->ky k b u ≤ ky k a (i - 1)) (h1 : ∀ r x, Res k (a.toList ++ b.toList) r.toList->R (.done (some r, x)) st) (h2 : ∀ o' i' j' mg ca cb, Hi k a b o' i' j'->1 ≤ i'->2 ≤ j'->i' + j' < i + j->R (.done (none, i', j', o', mg, ca, cb)) st/\R (.yield (none, i', j', o', mg, ca, cb)) st) : wpS M A E s (hal3 a b o i j mg ca cb) R st := by
  have bi := L.hi
  obtain ⟨z, hz, -⟩ := T.pa (i - 1) (Nat.zero_le _) (by omega)
  rw [ky_at hz] at c
  have L' := L.pa1 hi hz c
  unfold hal3
  refine wpS_bind (elem_at hz ?_)
  by_cases e : i - 1 = 0
  · rw [if_pos (by simp [e])]
    rw [e] at L' ⊢
    exact wpS_pure (h1 _ _ L'.endA)
  · rw [if_neg (by simpa using e)]
    have := h2 _ _ _ mg ca cb L' (by omega) hj (by omega)
    split
    · exact wpS_pure this.1
    · exact wpS_pure this.2
theorem hal2_ok (C : Ask M A E s kd k P) (hk : kindOf st = kd) {R : ForInStep GalT->SortSt->Prop} (T : Two k P a b) (L : Hi k a b o i j) (hi : 1 ≤ i) (hj : 2 ≤ j) (c : ∀ u, u < i->ky k a u ≤ ky k b (j - 1)) (h1 : ∀ r x, Res k (a.toList ++ b.toList) r.toList->R (.done (some r, x)) st) (h2 : ∀ o' i' j' mg ca cb, Hi k a b o' i' j'->1 ≤ i'->2 ≤ j'->i' + j' < i + j->R (.done (none, i', j', o', mg, ca, cb)) st/\R (.yield (none, i', j', o', mg, ca, cb)) st) : wpS M A E s (hal2 a b o i j mg ca cb) R st := by
  have bi := L.hi
  have bj := L.hj
  obtain ⟨z, hz, -⟩ := T.pb (j - 1) (Nat.zero_le _) (by omega)
  obtain ⟨x, hx, px⟩ := T.pa (i - 1) (Nat.zero_le _) (by omega)
  rw [ky_at hz] at c
  have L' := L.pb1 (by omega) hz c
  unfold hal2
  refine wpS_bind (elem_at hz ?_)
  by_cases e : j - 1 = 1
  · rw [if_pos (by simp [e])]
    rw [e] at L' ⊢
    exact wpS_pure (h1 _ _ (L'.endS T.fb))
  rw [if_neg (by simpa using e)]
  refine wpS_bind (elem_at hx ?_)
  refine wpS_bind (wpS_gallop (at0 := 0) (n := j - 1) (h := j - 1 - 1) C hk px (fun t t1 t2 => T.pb t (Nat.zero_le _) (by omega)) (fun t u t1 t2 t3 => T.rb t u (Nat.zero_le _) t2 (by omega)) (by omega) fun q hq q1 q2 => ?_)
  dsimp only
  have up : ∀ t u, q ≤ t->t < j - 1->u < i->ky k a u ≤ ky k b t := fun t u t1 t2 t3 => by
    have := q2 t t1 t2
    rw [Nat.zero_add] at this
    have := T.ra u (i - 1) (Nat.zero_le _) (by omega) (by omega)
    rw [ky_at hx] at this
    omega
  have dn : ∀ u, u < q->ky k b u ≤ ky k a (i - 1) := fun u t1 => by
    have := q1 u t1
    rw [Nat.zero_add] at this
    rw [ky_at hx]
    exact this
  by_cases hq0 : j - 1 - q > 0
  · rw [if_pos hq0]
    have L2 := L'.pb (q := q) (by omega) up
    by_cases e2 : q = 1
    · rw [if_pos (by simp [e2])]
      subst e2
      exact wpS_pure (h1 _ _ (L2.endS T.fb))
    rw [if_neg (by simpa using e2)]
    by_cases e3 : q = 0
    · rw [if_pos (by simp [e3])]
      subst e3
      exact wpS_pure (h1 _ _ L2.endB)
    · rw [if_neg (by simpa using e3)]
      exact hal3_ok T L2 hi (by omega) dn h1 fun o' i' j' mg ca cb x1 x2 x3 x4 => h2 o' i' j' mg ca cb x1 x2 x3 (by omega)
  · rw [if_neg hq0]
    exact hal3_ok T L' hi (by omega) (fun u t1 => dn u (by omega)) h1 fun o' i' j' mg ca cb x1 x2 x3 x4 => h2 o' i' j' mg ca cb x1 x2 x3 (by omega)
theorem hal1_ok (C : Ask M A E s kd k P) (hk : kindOf st = kd) {R : ForInStep GalT->SortSt->Prop} (T : Two k P a b) (L : Hi k a b o i j) (hi : 1 ≤ i) (hj : 2 ≤ j) (h1 : ∀ g r x, Res k (a.toList ++ b.toList) r.toList->R (.done (some r, x)) (setGal st g)) (h2 : ∀ g o' i' j' mg ca cb, Hi k a b o' i' j'->1 ≤ i'->2 ≤ j'->i' + j' < i + j->R (.done (none, i', j', o', mg, ca, cb)) (setGal st g)/\R (.yield (none, i', j', o', mg, ca, cb)) (setGal st g)) : wpS M A E s (hal1 a b o i j mg ca cb) R st := by
  have bi := L.hi
  have bj := L.hj
  have hk' : kindOf (setGal st mg) = kd := hk
  obtain ⟨x, hx, px⟩ := T.pb (j - 1) (Nat.zero_le _) (by omega)
  unfold hal1
  refine wpS_bind (wpS_modify ?_)
  refine wpS_bind (elem_at hx ?_)
  refine wpS_bind (wpS_gallop (st := setGal st mg) (at0 := 0) (n := i) (h := i - 1) C hk' px (fun t t1 t2 => T.pa t (Nat.zero_le _) (by omega)) (fun t u t1 t2 t3 => T.ra t u (Nat.zero_le _) t2 (by omega)) (by omega) fun q hq q1 q2 => ?_)
  dsimp only
  have up : ∀ t u, q ≤ t->t < i->u < j->ky k b u ≤ ky k a t := fun t u t1 t2 t3 => by
    have := q2 t t1 t2
    rw [Nat.zero_add] at this
    have := T.rb u (j - 1) (Nat.zero_le _) (by omega) (by omega)
    rw [ky_at hx] at this
    omega
  have dn : ∀ u, u < q->ky k a u ≤ ky k b (j - 1) := fun u t1 => by
    have := q1 u t1
    rw [Nat.zero_add] at this
    rw [ky_at hx]
    exact this
  by_cases hq0 : i - q > 0
  · rw [if_pos hq0]
    have L2 := L.pa (q := q) (by omega) up
    by_cases e3 : q = 0
    · rw [if_pos (by simp [e3])]
      subst e3
      exact wpS_pure (h1 _ _ _ L2.endA)
    · rw [if_neg (by simpa using e3)]
      exact hal2_ok (st := setGal st mg) C hk' T L2 (by omega) hj dn (h1 _) fun o' i' j' mg ca cb x1 x2 x3 x4 => h2 _ o' i' j' mg ca cb x1 x2 x3 (by omega)
  · rw [if_neg hq0]
    exact hal2_ok (st := setGal st mg) C hk' T L hi hj (fun u t1 => dn u (by omega)) (h1 _) (h2 _)
theorem hne1_ok (C : Ask M A E s kd k P) (hk : kindOf st = kd) {R : ForInStep OneT->SortSt->Prop} (T : Two k P a b) (L : Hi k a b o i j) (hi : 1 ≤ i) (hj : 2 ≤ j) (h1 : ∀ r x, Res k (a.toList ++ b.toList) r.toList->R (.done (some r, x)) st) (h2 : ∀ o' i' j' ca cb, Hi k a b o' i' j'->1 ≤ i'->2 ≤ j'->i' + j' < i + j->R (.done (none, i', j', o', ca, cb)) st/\R (.yield (none, i', j', o', ca, cb)) st) : wpS M A E s (hne1 a b o i j ca cb mg) R st := by
  have bi := L.hi
  have bj := L.hj
  obtain ⟨y, hy, py⟩ := T.pb (j - 1) (Nat.zero_le _) (by omega)
  obtain ⟨x, hx, px⟩ := T.pa (i - 1) (Nat.zero_le _) (by omega)
  unfold hne1
  refine wpS_bind (elem_at hy (wpS_bind (elem_at hx (wpS_bind (C.ask st y x _ hk py px ?_)))))
  by_cases e : k y < k x
  · simp only [e, decide_true, if_true]
    refine wpS_bind (elem_at hx ?_)
    have L' := L.pa1 hi hx fun u t1 => by
      have := T.rb u (j - 1) (Nat.zero_le _) (by omega) (by omega)
      rw [ky_at hy] at this
      omega
    by_cases e2 : i - 1 = 0
    · rw [if_pos (by simp [e2])]
      rw [e2] at L' ⊢
      exact wpS_pure (h1 _ _ L'.endA)
    · rw [if_neg (by simpa using e2)]
      have := h2 _ _ _ (ca + 1) 0 L' (by omega) hj (by omega)
      split
      · exact wpS_pure this.1
      · exact wpS_pure this.2
  · simp only [e, decide_false, Bool.false_eq_true, if_false]
    refine wpS_bind (elem_at hy ?_)
    have L' := L.pb1 (by omega) hy fun u t1 => by
      have := T.ra u (i - 1) (Nat.zero_le _) (by omega) (by omega)
      rw [ky_at hx] at this
      omega
    by_cases e2 : j - 1 = 1
    · rw [if_pos (by simp [e2])]
      rw [e2] at L' ⊢
      exact wpS_pure (h1 _ _ (L'.endS T.fb))
    · rw [if_neg (by simpa using e2)]
      have := h2 _ _ _ 0 (cb + 1) L' hi (by omega) (by omega)
      split
      · exact wpS_pure this.1
      · exact wpS_pure this.2
theorem Two.last (T : Two k P a b) {z : Keyed} (hz : a[a.size - 1]? = some z) : Hi k a b #[z] (a.size - 1) b.size := by
  have ng : ∀ {l : List Keyed}, (l.Pairwise fun p q => k p ≤ k q)->l.reverse.Pairwise fun p q => - k p ≤ - k q := fun h => List.pairwise_reverse.mpr (h.imp fun {x y} hxy => by omega)
  have e1 : a.toList.take a.size = a.toList := List.take_of_length_le (by simp)
  have e2 : b.toList.take b.size = b.toList := List.take_of_length_le (by simp)
  have L : Hi k a b #[] a.size b.size := ⟨⟨by
    rw [e1, e2]
    exact (List.reverse_perm _).append (List.reverse_perm _), .nil, ng (by rw [e1]; exact pw_rise T.ra), ng (by rw [e2]; exact pw_rise T.rb), by simp, by simp⟩, Nat.le_refl _, Nat.le_refl _⟩
  exact L.pa1 T.na hz fun u hu => by rw [← ky_at (k := k) hz]; exact T.la u hu
theorem wpS_mergeHi (C : Ask M A E s kd k P) (hk : kindOf st = kd) {Q : Array Keyed->SortSt->Prop} (T : Two k P a b) (h : ∀ r st', Gal st st'->Res k (a.toList ++ b.toList) r.toList->Q r st') : wpS M A E s (mergeHiP a b) Q st := by
  have na := T.na
  have nb := T.nb
  rw [mergeHiP_eq]
  refine wpS_bind (wpS_lift (wpAny_rule ⟨rfl, ?_⟩))
  obtain ⟨z, hz, pz⟩ := T.pa (a.size - 1) (Nat.zero_le _) (by omega)
  have L0 := T.last hz
  refine wpS_bind (elem_at hz ?_)
  dsimp only
  by_cases h1 : a.size - 1 = 0
  · rw [if_pos (by simp [h1])]
    refine wpS_pure (h _ _ (.refl _) ?_)
    rw [h1] at L0 ⊢
    exact L0.endA
  rw [if_neg (by simpa using h1)]
  by_cases h2 : b.size = 1
  · rw [if_pos (by simp [h2])]
    refine wpS_pure (h _ _ (.refl _) ?_)
    have e : endS a b #[z] (a.size - 1) b.size = endS a b #[z] (a.size - 1) 1 := by rw [h2]
    rw [e]
    rw [h2] at L0
    exact L0.endS T.fb
  rw [if_neg (by simpa using h2)]
  refine wpS_bind (wpS_get ?_)
  refine wpS_bind (wpS_mono (wpS_forRange (I := fun x c st' => ∃ o i j mg, c = (none, i, j, o, mg)/\Gal st st'/\Hi k a b o i j/\1 ≤ i/\2 ≤ j/\x + 1 + (i + j) ≤ a.size + b.size) (Q := fun c st' => ∃ r x, c = (some r, x)/\Gal st st'/\Res k (a.toList ++ b.toList) r.toList) ?_ ?_ ⟨_, _, _, _, rfl, .refl _, L0, by omega, by omega, by omega⟩) ?_)
  · rintro x c st1 - hx ⟨o, i, j, mg, rfl, g, L, hi, hj, hm⟩
    refine wpS_bind (wpS_mono (wpS_forRange (I := fun _ c st' => ∃ o i j ca cb, c = (none, i, j, o, ca, cb)/\Gal st st'/\Hi k a b o i j/\1 ≤ i/\2 ≤ j/\x + 1 + (i + j) ≤ a.size + b.size) (Q := fun c st' => (∃ r x, c = (some r, x)/\Gal st st'/\Res k (a.toList ++ b.toList) r.toList) ∨ ∃ o i j ca cb, c = (none, i, j, o, ca, cb)/\Gal st st'/\Hi k a b o i j/\1 ≤ i/\2 ≤ j/\x + 1 + (i + j) ≤ a.size + b.size) ?_ ?_ ⟨_, _, _, _, _, rfl, g, L, hi, hj, hm⟩) ?_)
    · rintro _ c st1 - - ⟨o, i, j, ca, cb, rfl, g, L, hi, hj, hm⟩
      show wpS M A E s (hne1 a b o i j ca cb mg) _ _
      refine hne1_ok C (by rw [g.kind, hk]) T L hi hj (fun r y hr => .inl ⟨r, y, rfl, g, hr⟩) fun o' i' j' ca cb x1 x2 x3 x4 => ⟨.inr ⟨_, _, _, _, _, rfl, g, x1, x2, x3, by omega⟩, ⟨_, _, _, _, _, rfl, g, x1, x2, x3, by omega⟩⟩
    · rintro c st2 hh
      exact .inr hh
    · rintro c st2 (⟨r, x, rfl, g, hr⟩ | ⟨o, i, j, ca, cb, rfl, g, L, hi, hj, hm⟩)
      · exact wpS_pure ⟨_, _, rfl, g, hr⟩
      · dsimp only
        refine wpS_bind (wpS_lift (wpAny_rule ⟨rfl, ?_⟩))
        refine wpS_bind (wpS_mono (wpS_forRange (I := fun y c st' => ∃ o i j mg ca cb, c = (none, i, j, o, mg, ca, cb)/\Gal st st'/\Hi k a b o i j/\1 ≤ i/\2 ≤ j/\x + 1 + y + (i + j) ≤ a.size + b.size) (Q := fun c st' => (∃ r x, c = (some r, x)/\Gal st st'/\Res k (a.toList ++ b.toList) r.toList) ∨ ∃ o i j mg ca cb, c = (none, i, j, o, mg, ca, cb)/\Gal st st'/\Hi k a b o i j/\1 ≤ i/\2 ≤ j/\x + 1 + 1 + (i + j) ≤ a.size + b.size) ?_ ?_ ⟨_, _, _, _, _, _, rfl, g, L, hi, hj, by omega⟩) ?_)
        · rintro y c st1 - hy ⟨o, i, j, mg, ca, cb, rfl, g, L, hi, hj, hm⟩
          show wpS M A E s (if mg > 1 then hal1 a b o i j (mg - 1) ca cb else hal1 a b o i j mg ca cb) _ _
          split
          all_goals exact hal1_ok C (by rw [g.kind, hk]) T L hi hj (fun n r z hr => .inl ⟨r, z, rfl, g.set n, hr⟩) fun n o' i' j' mg ca cb x1 x2 x3 x4 => ⟨.inr ⟨_, _, _, _, _, _, rfl, g.set n, x1, x2, x3, by omega⟩, ⟨_, _, _, _, _, _, rfl, g.set n, x1, x2, x3, by omega⟩⟩
        · rintro c st2 ⟨o, i, j, mg, ca, cb, rfl, g, L, hi, hj, hm⟩
          exact .inr ⟨_, _, _, _, _, _, rfl, g, L, hi, hj, by omega⟩
        · rintro c st2 (⟨r, x, rfl, g, hr⟩ | ⟨o, i, j, mg, ca, cb, rfl, g, L, hi, hj, hm⟩)
          · exact wpS_pure ⟨_, _, rfl, g, hr⟩
          · exact wpS_bind (wpS_modify (wpS_pure ⟨_, _, _, _, rfl, g.set _, L, hi, hj, hm⟩))
  · rintro c st2 ⟨o, i, j, mg, rfl, g, L, hi, hj, hm⟩
    omega
  · rintro c st2 ⟨r, x, rfl, g, hr⟩
    exact wpS_pure (h _ _ g hr)
end
end Tw
namespace Tw
open PySem PyProof.Rows
def putP (xs r : Array Keyed) (at0 : Nat) : Array Keyed := r.toList.zipIdx.foldl (fun z (p, j) => z.setIfInBounds (at0 + j) p) xs
theorem mergeAtP_eq (i : Nat) : mergeAt' i = (do
  let st ← get
  let (some (u, n, pw), some (v, m, _)) := ((pendingOf st)[i]?, (pendingOf st)[i + 1]?) | unsupported "internal:list.sort.pending"
  set (setPending st (((pendingOf st).setIfInBounds i (u, n + m, pw)).eraseIdxIfInBounds (i + 1)))
  let some q ← gallopP false (← elem' (arrOf st) v) (arrOf st) u n 0 | return false
  let (u, n) := (u + q, n - q)
  if n == 0 then return true
  let some m ← gallopP true (← elem' (arrOf st) (u + n - 1)) (arrOf st) v m (m - 1) | return false
  if m == 0 then return true
  let x := (arrOf st).extract u v
  let y := (arrOf st).extract v (v + m)
  let r ← if n ≤ m then mergeLoP x y else mergeHiP x y
  modify fun z => setArr z (putP (arrOf z) r u)
  return (failedOf (← get)).isNone) := rfl
theorem put_go (at0 : Nat) : ∀ (l : List Keyed) (n : Nat) (xs : Array Keyed), at0 + n + l.length ≤ xs.size->∀ i, ((l.zipIdx n).foldl (fun z (p, j) => z.setIfInBounds (at0 + j) p) xs)[i]? = if at0 + n ≤ i/\i < at0 + n + l.length then l[i - (at0 + n)]? else xs[i]?
  | [], n, xs, _, i => by
    rw [List.zipIdx_nil, List.foldl_nil, if_neg (by simp only [List.length_nil]; omega)]
  | p :: l, n, xs, h, i => by
    rw [List.length_cons] at h
    rw [List.zipIdx_cons, List.foldl_cons, put_go at0 l (n + 1) _ (by rw [Array.size_setIfInBounds]; omega), List.length_cons, Array.getElem?_setIfInBounds]
    by_cases h1 : i = at0 + n
    · subst h1
      rw [if_neg (by omega), if_pos rfl, if_pos (by omega), if_pos (by omega), Nat.sub_self]
      rfl
    · by_cases h2 : at0 + n ≤ i/\i < at0 + n + (l.length + 1)
      · rw [if_pos (by omega), if_pos h2, show i - (at0 + n) = (i - (at0 + (n + 1))) + 1 by omega, List.getElem?_cons_succ]
      · rw [if_neg (by omega), if_neg h2, if_neg (by omega)]
theorem put_get {xs r : Array Keyed} {at0 : Nat} (h : at0 + r.size ≤ xs.size) (i : Nat) : (putP xs r at0)[i]? = if at0 ≤ i/\i < at0 + r.size then r[i - at0]? else xs[i]? := by
  have := put_go at0 r.toList 0 xs (by simpa using h) i
  unfold putP
  simpa using this
theorem put_list {xs r : Array Keyed} {at0 : Nat} (h : at0 + r.size ≤ xs.size) : (putP xs r at0).toList = xs.toList.take at0 ++ (r.toList ++ xs.toList.drop (at0 + r.size)) := by
  apply List.ext_getElem?
  intro i
  have := put_get h i
  rw [← Array.getElem?_toList, ← Array.getElem?_toList, ← Array.getElem?_toList] at this
  rw [this]
  by_cases h1 : i < at0
  · rw [if_neg (by omega), List.getElem?_append_left (by simp; omega), List.getElem?_take, if_pos h1]
  · rw [List.getElem?_append_right (by simp; omega)]
    have e : (xs.toList.take at0).length = at0 := by simp; omega
    rw [e]
    by_cases h2 : i < at0 + r.size
    · rw [if_pos (by omega), List.getElem?_append_left (by simp; omega)]
    · rw [if_neg (by omega), List.getElem?_append_right (by simp; omega), List.getElem?_drop]
      congr 1
      simp
      omega
theorem put_perm {xs r : Array Keyed} {at0 : Nat} (h : at0 + r.size ≤ xs.size) (p : r.toList.Perm ((xs.toList.drop at0).take r.size)) : (putP xs r at0).Perm xs := by
  rw [Array.perm_iff_toList_perm]
  rw [put_list h]
  have e : xs.toList = xs.toList.take at0 ++ ((xs.toList.drop at0).take r.size ++ xs.toList.drop (at0 + r.size)) := by
    rw [← List.drop_drop, List.take_append_drop, List.take_append_drop]
  exact ((p.append_right _).append_left _).trans (.of_eq e.symm)
theorem ky_cut {k : Keyed->Int} {xs : Array Keyed} {a b t : Nat} (h : t < b - a) (hb : b ≤ xs.size) : (xs.extract a b)[t]? = xs[a + t]? := by
  rw [Array.getElem?_extract, if_pos (by omega)]
section
variable {M : Model} {A : Around} {E : Value->Shared->Prop} {s : Shared} {kd : SortKind} {k : Keyed->Int} {P : Keyed->Prop} {st : SortSt}
theorem wpS_set {σ : Type} {x st : σ} {Q : PUnit->σ->Prop} (h : Q ⟨⟩ x) : wpS M A E s (set x : StateT σ Sem PUnit) Q st := by
  unfold wpS; rw [StateT.run_set]; exact wpAny_pure ⟨rfl, h⟩
theorem wpS_mergeAt (C : Ask M A E s kd k P) (hk : kindOf st = kd) (hI : Its P (arrOf st)) {i u n pw v m g : Nat} {Q : Bool->SortSt->Prop} (p1 : (pendingOf st)[i]? = some (u, n, pw)) (p2 : (pendingOf st)[i + 1]? = some (v, m, g)) (hv : v = u + n) (hn : 1 ≤ n) (hm : 1 ≤ m) (hz : v + m ≤ (arrOf st).size) (hf : failedOf st = none) (r1 : Rise (ky k (arrOf st)) u v) (r2 : Rise (ky k (arrOf st)) v (v + m)) (h : ∀ st', Chg (setPending st (((pendingOf st).setIfInBounds i (u, n + m, pw)).eraseIdxIfInBounds (i + 1))) st' u (v + m)->Rise (ky k (arrOf st')) u (v + m)->Q true st') : wpS M A E s (mergeAt' i) Q st := by
  rw [mergeAtP_eq]
  refine wpS_bind (wpS_get ?_)
  rw [p1, p2]
  dsimp only
  obtain ⟨st0, hst⟩ : ∃ st0, st0 = setPending st (((pendingOf st).setIfInBounds i (u, n + m, pw)).eraseIdxIfInBounds (i + 1)) := ⟨_, rfl⟩
  have ha : arrOf st = arrOf st0 := by rw [hst]
  have hk0 : kindOf st0 = kd := by rw [hst]; exact hk
  have hf0 : failedOf st0 = none := by rw [hst]; exact hf
  rw [← hst] at h
  refine wpS_bind ?_
  rw [← hst, ha]
  rw [ha] at hI hz r1 r2
  clear ha hst hk hf p1 p2
  refine wpS_set ?_
  obtain ⟨z, hz1, pz⟩ := hI.all hz v (Nat.le_refl _) (by omega)
  refine wpS_bind (elem_at hz1 ?_)
  have ez : k z = ky k (arrOf st0) v := (ky_at hz1).symm
  refine wpS_bind (wpS_gallop (at0 := u) (n := n) (h := 0) C hk0 pz (fun t t1 t2 => hI.all hz t t1 (by omega)) (fun a b x1 x2 x3 => r1 a b x1 x2 (by omega)) (by omega) fun q hq q1 q2 => ?_)
  dsimp only
  rw [ez] at q1 q2
  have lft : ∀ t, u ≤ t->t < u + q->ky k (arrOf st0) t ≤ ky k (arrOf st0) v := fun t t1 t2 => by
    have := q1 (t - u) (by omega)
    rwa [show u + (t - u) = t by omega] at this
  have mid : ∀ t, u + q ≤ t->t < v->ky k (arrOf st0) v ≤ ky k (arrOf st0) t := fun t t1 t2 => by
    have := q2 (t - u) (by omega) (by omega)
    rwa [show u + (t - u) = t by omega] at this
  clear q1 q2
  by_cases e1 : n - q = 0
  · rw [if_pos (by simp [e1])]
    refine wpS_pure (h _ (.refl _ _ _) fun a b x1 x2 x3 => ?_)
    by_cases y1 : b < v
    · exact r1 a b x1 x2 y1
    · by_cases y2 : a < v
      · have := lft a x1 (by omega)
        have := r2 v b (Nat.le_refl _) (by omega) x3
        omega
      · exact r2 a b (by omega) x2 x3
  rw [if_neg (by simpa using e1)]
  obtain ⟨y, hy1, py⟩ := hI.all hz (u + q + (n - q) - 1) (Nat.zero_le _) (by omega)
  refine wpS_bind (elem_at hy1 ?_)
  have ey : k y = ky k (arrOf st0) (v - 1) := by rw [← ky_at (k := k) hy1]; congr 1; omega
  refine wpS_bind (wpS_gallop (at0 := v) (n := m) (h := m - 1) C hk0 py (fun t t1 t2 => hI.all hz t (Nat.zero_le _) t2) r2 (by omega) fun w hw q1 q2 => ?_)
  dsimp only
  rw [ey] at q1 q2
  have low : ∀ t, v ≤ t->t < v + w->ky k (arrOf st0) t ≤ ky k (arrOf st0) (v - 1) := fun t t1 t2 => by
    have := q1 (t - v) (by omega)
    rwa [show v + (t - v) = t by omega] at this
  have rgt : ∀ t, v + w ≤ t->t < v + m->ky k (arrOf st0) (v - 1) ≤ ky k (arrOf st0) t := fun t t1 t2 => by
    have := q2 (t - v) (by omega) (by omega)
    rwa [show v + (t - v) = t by omega] at this
  clear q1 q2
  by_cases e2 : w = 0
  · rw [if_pos (by simp [e2])]
    refine wpS_pure (h _ (.refl _ _ _) fun a b x1 x2 x3 => ?_)
    by_cases y1 : b < v
    · exact r1 a b x1 x2 y1
    · by_cases y2 : a < v
      · have := r1 a (v - 1) x1 (by omega) (by omega)
        have := rgt b (by omega) x3
        omega
      · exact r2 a b (by omega) x2 x3
  rw [if_neg (by simpa using e2)]
  have sx : ((arrOf st0).extract (u + q) v).size = v - (u + q) := by rw [Array.size_extract]; omega
  have sy : ((arrOf st0).extract v (v + w)).size = w := by rw [Array.size_extract]; omega
  have kx : ∀ t, t < v - (u + q)->((arrOf st0).extract (u + q) v)[t]? = (arrOf st0)[u + q + t]? := fun t ht => ky_cut (k := k) ht (by omega)
  have kyy : ∀ t, t < w->((arrOf st0).extract v (v + w))[t]? = (arrOf st0)[v + t]? := fun t ht => ky_cut (k := k) (by omega) (by omega)
  have T : Two k P ((arrOf st0).extract (u + q) v) ((arrOf st0).extract v (v + w)) := by
    refine ⟨fun t _ ht => ?_, fun t _ ht => ?_, fun a b x1 x2 x3 => ?_, fun a b x1 x2 x3 => ?_, fun t ht => ?_, fun t ht => ?_, by omega, by omega⟩
    · rw [kx t (by omega)]
      exact hI.all hz _ (Nat.zero_le _) (by omega)
    · rw [kyy t (by omega)]
      exact hI.all hz _ (Nat.zero_le _) (by omega)
    · rw [ky_congr (kx a (by omega)), ky_congr (kx b (by omega))]
      exact r1 _ _ (by omega) (by omega) (by omega)
    · rw [ky_congr (kyy a (by omega)), ky_congr (kyy b (by omega))]
      exact r2 _ _ (by omega) (by omega) (by omega)
    · rw [ky_congr (kyy t (by omega)), ky_congr (kx _ (by omega)), sx, show u + q + (v - (u + q) - 1) = v - 1 by omega]
      exact low _ (by omega) (by omega)
    · rw [ky_congr (kyy 0 (by omega)), ky_congr (kx t (by omega))]
      exact mid _ (by omega) (by omega)
  have fin : ∀ r st', Gal st0 st'->Res k (((arrOf st0).extract (u + q) v).toList ++ ((arrOf st0).extract v (v + w)).toList) r.toList->Q (failedOf (setArr st' (putP (arrOf st') r (u + q)))).isNone (setArr st' (putP (arrOf st') r (u + q))) := fun r st' G hr => by
    have el : ((arrOf st0).extract (u + q) v).toList ++ ((arrOf st0).extract v (v + w)).toList = ((arrOf st0).toList.drop (u + q)).take (v + w - (u + q)) := by
      rw [Array.toList_extract, Array.toList_extract, List.extract_eq_take_drop, List.extract_eq_take_drop, show v + w - v = w by omega, show v + w - (u + q) = (v - (u + q)) + w by omega, List.take_add, List.drop_drop, show u + q + (v - (u + q)) = v by omega]
    rw [el] at hr
    have hsz : r.size = v + w - (u + q) := by
      have := hr.1.length_eq
      simp at this
      omega
    have hin : u + q + r.size ≤ (arrOf st0).size := by omega
    have e3 : (failedOf (setArr st' (putP (arrOf st') r (u + q)))).isNone = true := by
      show (failedOf st').isNone = true
      rw [G.fail, hf0]
      rfl
    rw [e3]
    refine h _ ⟨G.kind, G.pend, G.fail, ?_, fun t ht => ?_⟩ ?_
    · show (putP (arrOf st') r (u + q)).Perm (arrOf st0)
      rw [G.arr]
      exact put_perm hin (by rw [hsz]; exact hr.1)
    · show (putP (arrOf st') r (u + q))[t]? = _
      rw [G.arr, put_get hin, if_neg (by omega)]
    · show Rise (ky k (putP (arrOf st') r (u + q))) u (v + m)
      rw [G.arr]
      have kp : ∀ t, ky k (putP (arrOf st0) r (u + q)) t = if u + q ≤ t/\t < v + w then ky k r (t - (u + q)) else ky k (arrOf st0) t := fun t => by
        have := put_get hin t
        rw [hsz, show u + q + (v + w - (u + q)) = v + w by omega] at this
        split
        · rename_i c
          rw [if_pos c] at this
          exact ky_congr this
        · rename_i c
          rw [if_neg c] at this
          exact ky_congr this
      have src : ∀ t, t < r.size->∃ t', u + q ≤ t'/\t' < v + w/\ky k (arrOf st0) t' = ky k r t := fun t ht => by
        have hm : r[t] ∈ ((arrOf st0).toList.drop (u + q)).take (v + w - (u + q)) := hr.1.mem_iff.mp (by simp)
        obtain ⟨t', h1, h2, h3, h4⟩ := mem_dropA (k := k) hm
        exact ⟨t', h1, by omega, by rw [h4, ky_at (getElem?_pos r t ht)]⟩
      have rr := rise_pw hr.2
      intro a b x1 x2 x3
      rw [kp, kp]
      by_cases c1 : u + q ≤ a/\a < v + w
      · rw [if_pos c1]
        by_cases c2 : u + q ≤ b/\b < v + w
        · rw [if_pos c2]
          exact rr _ _ (Nat.zero_le _) (by omega) (by omega)
        · rw [if_neg c2]
          obtain ⟨t', h1, h2, h3⟩ := src (a - (u + q)) (by omega)
          rw [← h3]
          by_cases c3 : t' < v
          · have := r1 t' (v - 1) (by omega) (by omega) (by omega)
            have := rgt b (by omega) x3
            omega
          · exact r2 t' b (by omega) (by omega) x3
      · rw [if_neg c1]
        by_cases c2 : u + q ≤ b/\b < v + w
        · rw [if_pos c2]
          obtain ⟨t', h1, h2, h3⟩ := src (b - (u + q)) (by omega)
          rw [← h3]
          by_cases c3 : t' < v
          · exact r1 a t' x1 (by omega) c3
          · have := lft a x1 (by omega)
            have := r2 v t' (Nat.le_refl _) (by omega) (by omega)
            omega
        · rw [if_neg c2]
          by_cases y1 : b < v
          · exact r1 a b x1 x2 y1
          · by_cases y2 : a < v
            · have := lft a x1 (by omega)
              have := r2 v b (Nat.le_refl _) (by omega) x3
              omega
            · exact r2 a b (by omega) x2 x3
  by_cases c : n - q ≤ w
  · rw [if_pos c]
    exact wpS_bind (wpS_mergeLo C hk0 T fun r st' G hr => wpS_bind (wpS_modify (wpS_bind (wpS_get (wpS_pure (fin r st' G hr))))))
  · rw [if_neg c]
    exact wpS_bind (wpS_mergeHi C hk0 T fun r st' G hr => wpS_bind (wpS_modify (wpS_bind (wpS_get (wpS_pure (fin r st' G hr))))))
end
end Tw
namespace Tw
open PySem PyProof.Rows
def Tile (f : Nat->Int) : List (Nat × Nat × Nat)->Nat->Nat->Prop
  | [], a, b => a = b
  | x :: r, a, b => x.1 = a/\1 ≤ x.2.1/\Rise f a (a + x.2.1)/\Tile f r (a + x.2.1) b
theorem Tile.le {f : Nat->Int} : ∀ {p : List (Nat × Nat × Nat)} {a b : Nat}, Tile f p a b->a + p.length ≤ b
  | [], a, b, h => by cases h; exact Nat.le_refl _
  | x :: r, a, b, h => by
    have := Tile.le h.2.2.2
    have := h.2.1
    rw [List.length_cons]
    omega
theorem tile_app {f : Nat->Int} : ∀ {p q : List (Nat × Nat × Nat)} {a b : Nat}, Tile f (p ++ q) a b<->∃ c, Tile f p a c/\Tile f q c b
  | [], q, a, b => ⟨fun h => ⟨a, rfl, h⟩, fun ⟨c, h1, h2⟩ => by cases h1; exact h2⟩
  | x :: r, q, a, b => ⟨fun h => by
      obtain ⟨c, h1, h2⟩ := tile_app.mp h.2.2.2
      exact ⟨c, ⟨h.1, h.2.1, h.2.2.1, h1⟩, h2⟩, fun ⟨c, h1, h2⟩ => ⟨h1.1, h1.2.1, h1.2.2.1, tile_app.mpr ⟨c, h1.2.2.2, h2⟩⟩⟩
theorem Tile.congr {f g : Nat->Int} : ∀ {p : List (Nat × Nat × Nat)} {a b : Nat}, Tile f p a b->(∀ t, a ≤ t->t < b->g t = f t)->Tile g p a b
  | [], a, b, h, _ => h
  | x :: r, a, b, h, e => by
    have l := h.2.2.2.le
    exact ⟨h.1, h.2.1, fun i j h1 h2 h3 => by rw [e i h1 (by omega), e j (by omega) (by omega)]; exact h.2.2.1 i j h1 h2 h3, h.2.2.2.congr fun t h1 h2 => e t (by omega) h2⟩
theorem Tile.mod {f : Nat->Int} {pw : Nat} : ∀ {p : List (Nat × Nat × Nat)} {a b i : Nat}, Tile f p a b->Tile f (p.modify i fun x => (x.1, x.2.1, pw)) a b
  | [], a, b, i, h => by rw [List.modify_nil]; exact h
  | x :: r, a, b, 0, h => by rw [List.modify_zero_cons]; exact h
  | x :: r, a, b, i + 1, h => by rw [List.modify_succ_cons]; exact ⟨h.1, h.2.1, h.2.2.1, h.2.2.2.mod⟩
theorem two_at {α : Type} {p : List α} {i : Nat} {x y : α} (h1 : p[i]? = some x) (h2 : p[i + 1]? = some y) : p = p.take i ++ x :: y :: p.drop (i + 1 + 1) := by
  obtain ⟨l1, e1⟩ := List.getElem?_eq_some_iff.mp h1
  obtain ⟨l2, e2⟩ := List.getElem?_eq_some_iff.mp h2
  have a1 := List.drop_eq_getElem_cons l1
  have a2 := List.drop_eq_getElem_cons l2
  rw [e1] at a1
  rw [e2] at a2
  rw [← a2, ← a1, List.take_append_drop]
theorem merge_list {p : List (Nat × Nat × Nat)} {i : Nat} {x y z : Nat × Nat × Nat} (h1 : p[i]? = some x) (h2 : p[i + 1]? = some y) : (p.set i z).eraseIdx (i + 1) = p.take i ++ z :: p.drop (i + 1 + 1) := by
  have e := two_at h1 h2
  obtain ⟨l1, -⟩ := List.getElem?_eq_some_iff.mp h1
  have hl : (p.take i).length = i := by simp; omega
  generalize p.take i = a at e hl
  generalize p.drop (i + 1 + 1) = b at e ⊢
  subst e
  rw [List.set_append_right _ _ (by omega), List.eraseIdx_append_of_length_le (by omega), hl, Nat.sub_self, show i + 1 - i = 1 by omega]
  rfl
structure SB (k : Keyed->Int) (kd : SortKind) (a₀ : Array Keyed) (st : SortSt) (lo : Nat) : Prop where
  kind : kindOf st = kd
  perm : (arrOf st).Perm a₀
  fail : failedOf st = none
  tile : Tile (ky k (arrOf st)) (pendingOf st).toList 0 lo
  lim : lo ≤ a₀.size
section
variable {M : Model} {A : Around} {E : Value->Shared->Prop} {s : Shared} {kd : SortKind} {k : Keyed->Int} {a₀ : Array Keyed} {st : SortSt} {lo : Nat}
theorem SB.its (B : SB k kd a₀ st lo) : Its (· ∈ a₀) (arrOf st) := fun y hy => B.perm.mem_iff.mp hy
theorem SB.size (B : SB k kd a₀ st lo) : (arrOf st).size = a₀.size := B.perm.size_eq
theorem SB.mergeAt (C : Ask M A E s kd k (· ∈ a₀)) (B : SB k kd a₀ st lo) {i : Nat} {Q : Bool->SortSt->Prop} (hi : i + 1 < (pendingOf st).size) (h : ∀ st', SB k kd a₀ st' lo->(∀ t, lo ≤ t->(arrOf st')[t]? = (arrOf st)[t]?)->(pendingOf st').size + 1 = (pendingOf st).size->Q true st') : wpS M A E s (mergeAt' i) Q st := by
  have q1 : (pendingOf st).toList[i]? = some (pendingOf st)[i] := by rw [Array.getElem?_toList, getElem?_pos _ i (by omega)]
  have q2 : (pendingOf st).toList[i + 1]? = some (pendingOf st)[i + 1] := by rw [Array.getElem?_toList, getElem?_pos _ (i + 1) hi]
  generalize (pendingOf st)[i] = x at q1
  generalize (pendingOf st)[i + 1] = y at q2
  obtain ⟨u, n, pw⟩ := x
  obtain ⟨v, m, g⟩ := y
  have e := two_at q1 q2
  have T := B.tile
  rw [e] at T
  obtain ⟨c, t1, t2⟩ := tile_app.mp T
  obtain ⟨rfl, n1, ri1, rfl, m1, ri2, t3⟩ := t2
  dsimp only at *
  have le := t3.le
  have lim := B.lim
  have sz := B.size
  refine wpS_mergeAt C B.kind B.its (by rw [← Array.getElem?_toList]; exact q1) (by rw [← Array.getElem?_toList]; exact q2) rfl n1 m1 (by omega) B.fail ri1 ri2 fun st' g rise => ?_
  have hp : (pendingOf st').toList = (pendingOf st).toList.take i ++ (u, n + m, pw) :: (pendingOf st).toList.drop (i + 1 + 1) := by
    rw [g.pend]
    show (((pendingOf st).setIfInBounds i (u, n + m, pw)).eraseIdxIfInBounds (i + 1)).toList = _
    rw [Array.toList_eraseIdxIfInBounds, Array.toList_setIfInBounds]
    exact merge_list q1 q2
  refine h st' ⟨g.kind.trans B.kind, g.perm.trans B.perm, g.fail.trans B.fail, ?_, lim⟩ (fun t ht => g.out t (.inr (by omega))) ?_
  · rw [hp]
    refine tile_app.mpr ⟨u, t1.congr fun t h1 h2 => ky_congr (g.out t (.inl h2)), rfl, by show 1 ≤ n + m; omega, ?_, ?_⟩
    · show Rise (ky k (arrOf st')) u (u + (n + m))
      rw [← Nat.add_assoc]
      exact rise
    · show Tile _ _ (u + (n + m)) lo
      rw [← Nat.add_assoc]
      exact t3.congr fun t h1 h2 => ky_congr (g.out t (.inr h1))
  · have := congrArg List.length hp
    simp at this
    omega
theorem SB.pushed (B : SB k kd a₀ st lo) {n : Nat} (h1 : 1 ≤ n) (h2 : lo + n ≤ a₀.size) (r : Rise (ky k (arrOf st)) lo (lo + n)) : SB k kd a₀ (setPending st ((pendingOf st).push (lo, n, 0))) (lo + n) :=
  ⟨B.kind, B.perm, B.fail, by
    show Tile _ ((pendingOf st).push (lo, n, 0)).toList 0 (lo + n)
    rw [Array.toList_push]
    exact tile_app.mpr ⟨lo, B.tile, rfl, h1, r, rfl⟩, h2⟩
theorem SB.powered (B : SB k kd a₀ st lo) {pw i : Nat} : SB k kd a₀ (setPending st ((pendingOf st).modify i fun x => (x.1, x.2.1, pw))) lo :=
  ⟨B.kind, B.perm, B.fail, by
    show Tile _ ((pendingOf st).modify i fun x => (x.1, x.2.1, pw)).toList 0 lo
    rw [Array.toList_modify]
    exact B.tile.mod, B.lim⟩
theorem SB.moved (B : SB k kd a₀ st lo) {st' : SortSt} {b : Nat} (g : Chg st st' lo b) : SB k kd a₀ st' lo :=
  ⟨g.kind.trans B.kind, g.perm.trans B.perm, g.fail.trans B.fail, by
    rw [g.pend]
    exact B.tile.congr fun t _ h => ky_congr (g.out t (.inl h)), B.lim⟩
theorem wpS_runs (C : Ask M A E s kd k (· ∈ a₀)) {Q : Unit->SortSt->Prop} (hk : kindOf st = kd) (hp : (arrOf st).Perm a₀) (hf : failedOf st = none) (hq : pendingOf st = #[]) (h2 : 2 ≤ a₀.size) (h : ∀ st', (arrOf st').Perm a₀->failedOf st' = none->Rise (ky k (arrOf st')) 0 a₀.size->Q () st') : wpS M A E s sortRuns' Q st := by
  have B0 : SB k kd a₀ st 0 := ⟨hk, hp, hf, by rw [hq]; rfl, Nat.zero_le _⟩
  rw [sortRuns'_eq]
  refine wpS_bind (wpS_get ?_)
  dsimp only
  rw [B0.size]
  generalize minRun' a₀.size a₀.size 0 = mr
  refine wpS_bind (wpS_mono (wpS_forRange (I := fun x c st' => ∃ lo, c = (none, lo)/\SB k kd a₀ st' lo/\x ≤ lo) (Q := fun c st' => c = (none, a₀.size)/\SB k kd a₀ st' a₀.size) ?_ ?_ ⟨0, rfl, B0, Nat.le_refl _⟩) ?_)
  · rintro x c st1 - hx ⟨lo, rfl, B, hlo⟩
    dsimp only
    have lim := B.lim
    have sz := B.size
    by_cases c1 : lo ≥ a₀.size
    · rw [if_pos c1]
      have e : lo = a₀.size := by omega
      subst e
      exact wpS_pure ⟨rfl, B⟩
    rw [if_neg c1]
    refine wpS_bind (wpS_count C B.kind B.its (by omega) (by omega) fun n st2 n1 n2 g r => ?_)
    dsimp only
    have B2 := B.moved g
    have go : ∀ (n : Nat) (st2 : SortSt), 1 ≤ n->lo + n ≤ a₀.size->SB k kd a₀ st2 lo->Rise (ky k (arrOf st2)) lo (lo + n)->SB k kd a₀ (setPending st2 ((pendingOf st2).push (lo, n, 0))) (lo + n)/\x + 1 ≤ lo + n := fun n st2 x1 x2 x3 x4 => ⟨x3.pushed x1 x2 x4, by omega⟩
    by_cases c2 : n < mr
    · rw [if_pos c2]
      refine wpS_bind (wpS_lift (wpAny_rule ⟨rfl, ?_⟩))
      refine wpS_bind (wpS_bins C B2.kind B2.its (by omega) (by omega) (by rw [B2.size]; omega) r fun st3 g3 r3 => ?_)
      simp only [Bool.not_true, Bool.false_eq_true, if_false]
      have B3 := B2.moved g3
      have f1 : 1 ≤ min (a₀.size - lo) mr := by omega
      have f2 : lo + min (a₀.size - lo) mr ≤ a₀.size := by omega
      generalize min (a₀.size - lo) mr = f at f1 f2 r3
      refine wpS_bind (wpS_get ?_)
      cases hb : (pendingOf st3).back? with
      | none =>
        dsimp only
        have := go f st3 f1 f2 B3 r3
        exact wpS_bind (wpS_modify (wpS_pure ⟨_, rfl, this.1, this.2⟩))
      | some y =>
        obtain ⟨s1, m1, w1⟩ := y
        dsimp only
        generalize power' a₀.size (2 * s1 + m1) (2 * s1 + m1 + m1 + f) a₀.size = pw
        refine wpS_bind (wpS_mono (wpS_forRange (I := fun _ c st' => c = (none, ())/\SB k kd a₀ st' lo/\Rise (ky k (arrOf st')) lo (lo + f)) (Q := fun c st' => c = (none, ())/\SB k kd a₀ st' lo/\Rise (ky k (arrOf st')) lo (lo + f)) ?_ (fun c st' hh => hh) ⟨rfl, B3, r3⟩) ?_)
        · rintro _ c st4 - - ⟨rfl, B4, r4⟩
          refine wpS_bind (wpS_get ?_)
          by_cases c3 : (pendingOf st4).size > 1
          · rw [if_pos c3, getElem?_pos (pendingOf st4) ((pendingOf st4).size - 2) (by omega)]
            generalize (pendingOf st4)[(pendingOf st4).size - 2] = y
            obtain ⟨y1, y2, y3⟩ := y
            dsimp only
            by_cases c4 : y3 ≤ pw
            · rw [if_pos c4]
              exact wpS_pure ⟨rfl, B4, r4⟩
            · rw [if_neg c4]
              refine wpS_bind (B4.mergeAt C (by omega) fun st5 B5 o5 _ => ?_)
              simp only [Bool.not_true, Bool.false_eq_true, if_false]
              refine wpS_pure ⟨rfl, B5, fun i j h1 h2 h3 => ?_⟩
              rw [ky_congr (o5 i h1), ky_congr (o5 j (by omega))]
              exact r4 i j h1 h2 h3
          · rw [if_neg c3]
            exact wpS_pure ⟨rfl, B4, r4⟩
        · rintro c st4 ⟨rfl, B4, r4⟩
          dsimp only
          refine wpS_bind (wpS_modify ?_)
          have := go f _ f1 f2 (B4.powered (pw := pw) (i := (pendingOf st4).size - 1)) r4
          exact wpS_bind (wpS_modify (wpS_pure ⟨_, rfl, this.1, this.2⟩))
    · rw [if_neg c2]
      have n3 : lo + n ≤ a₀.size := by omega
      refine wpS_bind (wpS_get ?_)
      cases hb : (pendingOf st2).back? with
      | none =>
        dsimp only
        have := go n st2 n1 n3 B2 r
        exact wpS_bind (wpS_modify (wpS_pure ⟨_, rfl, this.1, this.2⟩))
      | some y =>
        obtain ⟨s1, m1, w1⟩ := y
        dsimp only
        generalize power' a₀.size (2 * s1 + m1) (2 * s1 + m1 + m1 + n) a₀.size = pw
        refine wpS_bind (wpS_mono (wpS_forRange (I := fun _ c st' => c = (none, ())/\SB k kd a₀ st' lo/\Rise (ky k (arrOf st')) lo (lo + n)) (Q := fun c st' => c = (none, ())/\SB k kd a₀ st' lo/\Rise (ky k (arrOf st')) lo (lo + n)) ?_ (fun c st' hh => hh) ⟨rfl, B2, r⟩) ?_)
        · rintro _ c st4 - - ⟨rfl, B4, r4⟩
          refine wpS_bind (wpS_get ?_)
          by_cases c3 : (pendingOf st4).size > 1
          · rw [if_pos c3, getElem?_pos (pendingOf st4) ((pendingOf st4).size - 2) (by omega)]
            generalize (pendingOf st4)[(pendingOf st4).size - 2] = y
            obtain ⟨y1, y2, y3⟩ := y
            dsimp only
            by_cases c4 : y3 ≤ pw
            · rw [if_pos c4]
              exact wpS_pure ⟨rfl, B4, r4⟩
            · rw [if_neg c4]
              refine wpS_bind (B4.mergeAt C (by omega) fun st5 B5 o5 _ => ?_)
              simp only [Bool.not_true, Bool.false_eq_true, if_false]
              refine wpS_pure ⟨rfl, B5, fun i j h1 h2 h3 => ?_⟩
              rw [ky_congr (o5 i h1), ky_congr (o5 j (by omega))]
              exact r4 i j h1 h2 h3
          · rw [if_neg c3]
            exact wpS_pure ⟨rfl, B4, r4⟩
        · rintro c st4 ⟨rfl, B4, r4⟩
          dsimp only
          refine wpS_bind (wpS_modify ?_)
          have := go n _ n1 n3 (B4.powered (pw := pw) (i := (pendingOf st4).size - 1)) r4
          exact wpS_bind (wpS_modify (wpS_pure ⟨_, rfl, this.1, this.2⟩))
  · rintro c st1 ⟨lo, rfl, B, hlo⟩
    have lim := B.lim
    have e : lo = a₀.size := by omega
    subst e
    exact ⟨rfl, B⟩
  · rintro c st1 ⟨rfl, B⟩
    dsimp only
    refine wpS_bind (wpS_mono (wpS_forRange (I := fun x c st' => c = (none, ())/\SB k kd a₀ st' a₀.size/\(pendingOf st').size ≤ max 1 (a₀.size - x)) (Q := fun c st' => c = (none, ())/\SB k kd a₀ st' a₀.size/\(pendingOf st').size ≤ 1) ?_ ?_ ⟨rfl, B, ?_⟩) ?_)
    · rintro x c st2 - hx ⟨rfl, B2, hs⟩
      refine wpS_bind (wpS_get ?_)
      by_cases c1 : (pendingOf st2).size ≤ 1
      · rw [if_pos c1]
        exact wpS_pure ⟨rfl, B2, c1⟩
      · rw [if_neg c1]
        refine wpS_bind (B2.mergeAt C ?_ fun st3 B3 _ hz => ?_)
        · have pk : ∀ (c : Bool) (p : Nat), 2 ≤ p->(if c = true then p - 2 - 1 else p - 2) + 1 < p := fun c p hp => by
            cases c
            · rw [if_neg (by decide)]; omega
            · rw [if_pos rfl]; omega
          exact pk _ _ (by omega)
        · simp only [Bool.not_true, Bool.false_eq_true, if_false]
          exact wpS_pure ⟨rfl, B3, by omega⟩
    · rintro c st2 ⟨rfl, B2, hs⟩
      exact ⟨rfl, B2, by omega⟩
    · have := B.tile.le
      simp at this
      omega
    · rintro c st2 ⟨rfl, B2, hs⟩
      refine wpS_pure (h _ B2.perm B2.fail ?_)
      have T := B2.tile
      have hl : (pendingOf st2).toList.length ≤ 1 := by simpa using hs
      generalize (pendingOf st2).toList = p at T hl
      match p, T, hl with
      | [], T, _ =>
        have : 0 = a₀.size := T
        omega
      | [y], T, _ =>
        obtain ⟨t1, t2, t3, t4⟩ := T
        have t4 : 0 + y.2.1 = a₀.size := t4
        rw [t4] at t3
        exact t3
end
end Tw
namespace L2
open PySem PySem.Spec PyProof.Rows Tw
section
variable {prog : Program} {w : World} {A : Around} {E : Value->Shared->Prop} {s : Shared} {g0 : Heap} {L : Addr} {mm : Str->Option Value} {ws : List (Addr × Obj)} {D kS : Addr} {b : Bool} {us : List Value} {zs : List Int} {ks : Array Value} {e e1 : Nat} {R : PySem.Fin->Shared->Prop}
end
end L2
namespace L2
open PySem PySem.Spec PyProof.Rows Tw
section
variable {prog : Program} {w : World} {A : Around} {E : Value->Shared->Prop} {s : Shared}
end
section
variable {X : Cx}
end
end L2
namespace L2
open PySem PySem.Spec PyProof.Rows Tw
theorem firstOfTuple'_eq (v : Value) : firstOfTuple' v = (do
    if (← typeOf v) != .type "tuple" then return none
    return (← Builtin.List.listItems v)[0]?) := rfl
section
variable {prog : Program} {w : World} {A : Around} {E : Value->Shared->Prop} {s : Shared}
theorem mapM_wp {α β : Type} {f : α->Sem β} {R : α->β->Prop} : ∀ (l : List α) {Q : List β->Shared->Prop}, (∀ x ∈ l, ∀ (Q' : β->Shared->Prop), (∀ y, R x y->Q' y s)->wpAny (model prog w) A (f x) Q' E s)->(∀ ys, ys.length = l.length->(∀ y ∈ ys, ∃ x ∈ l, R x y)->Q ys s)->wpAny (model prog w) A (l.mapM f) Q E s
  | [], Q, _, q => by
    rw [List.mapM_nil]
    exact wpAny_pure (q [] rfl fun y h => nomatch h)
  | x :: l, Q, h, q => by
    rw [List.mapM_cons]
    refine wpAny_bind (h x (List.mem_cons_self ..) _ fun y hy => wpAny_bind (mapM_wp l (fun z hz => h z (List.mem_cons_of_mem _ hz)) fun ys e1 e2 => wpAny_pure (q (y :: ys) (by rw [List.length_cons, List.length_cons, e1]) fun z hz => ?_)))
    rcases List.mem_cons.mp hz with rfl | hz
    · exact ⟨x, List.mem_cons_self .., hy⟩
    · obtain ⟨u, hu, r⟩ := e2 z hz
      exact ⟨u, List.mem_cons_of_mem _ hu, r⟩
end
section
variable {X : Cx}
def refOf : Value->Addr
  | .ref t => t
  | _ => 0
end
end L2
namespace L2
open PySem PySem.Spec PyProof.Rows Tw
open PySem.AutoSeq1 (wpAny_loadPart')
open PySem.MeetsSeq PySem.MeetsSeq2 PySem.MeetsSeq3
def lexB : List Int->List Int->Bool
  | [], [] => false
  | [], _ :: _ => true
  | _ :: _, [] => false
  | x :: a, y :: b => if x = y then lexB a b else decide (x < y)
theorem lt_loopL {l b : Addr} {items items2 : Array Value} {n n2 : Nat} {dd dd2 : Option Addr} {sl sl2 : Array (Option Value)} {xs ys : List Int} (h1 : IntsAre items.toList xs) (h2 : IntsAre items2.toList ys) (k : Nat) : ∀ i : Nat, items.size - i = k->i ≤ items.size->i ≤ items2.size->Meets (Builtin.«list.__eq__.loop» ⟨[.ref l, .ref b, rawInt i, rawInt 0], []⟩) (fun A R s => s.heap.get? l = some { cls := .type "list", dict := dd, data := .seq items n, slots := sl }/\s.heap.get? b = some { cls := .type "list", dict := dd2, data := .seq items2 n2, slots := sl2 } ∧
        R (.ok (.ret (.bool (lexB (xs.drop i) (ys.drop i))))) s) := by
  have l1 := h1.length
  have l2 := h2.length
  rw [Array.length_toList] at l1 l2
  induction k with
  | zero =>
    intro i hk le1 le2 prog w A R s h
    obtain ⟨hp, g, d, tk, os⟩ := s; obtain ⟨hl, hb, h⟩ := h
    wp_walk using wpAny_loadPart' hl, wpAny_loadPart' hb
    have hi1 : items[((i : Nat) : Int).toNat]? = none := by simp; omega
    rw [hi1]
    wp_walk using wpAny_loadPart' hl, wpAny_loadPart' hb
    show R (.ok (.ret (.bool (decide (items.size < items2.size))))) _
    have e1 : xs.drop i = [] := List.drop_eq_nil_of_le (by omega)
    rw [e1] at h
    have e2 : lexB [] (ys.drop i) = decide (items.size < items2.size) := by
      by_cases c : i < ys.length
      · rw [List.drop_eq_getElem_cons c, decide_eq_true (by omega)]
        rfl
      · rw [List.drop_eq_nil_of_le (by omega), decide_eq_false (by omega)]
        rfl
    rw [e2] at h
    exact h
  | succ k ih =>
    intro i hk le1 le2 prog w A R s h
    obtain ⟨hp, g, d, tk, os⟩ := s; obtain ⟨hl, hb, h⟩ := h
    wp_walk using wpAny_loadPart' hl, wpAny_loadPart' hb
    have hlt : i < items.size := by omega
    have hi1 : items[((i : Nat) : Int).toNat]? = some items[i] := by simp [hlt]
    have hc : ((i : Int) + 1) = ((i + 1 : Nat) : Int) := by push_cast; rfl
    by_cases hlt2 : i < items2.size
    · have hi2 : items2[((i : Nat) : Int).toNat]? = some items2[i] := by simp [hlt2]
      rw [hi1, hi2]
      obtain ⟨t1, e1⟩ := h1.int_at i items[i] (by rw [Array.getElem?_toList]; exact Array.getElem?_eq_getElem hlt)
      obtain ⟨t2, e2⟩ := h2.int_at i items2[i] (by rw [Array.getElem?_toList]; exact Array.getElem?_eq_getElem hlt2)
      have d1 : xs.drop i = xs.getD i 0 :: xs.drop (i + 1) := by rw [List.drop_eq_getElem_cons (by omega), List.getD_eq_getElem?_getD, List.getElem?_eq_getElem (by omega)]; rfl
      have d2 : ys.drop i = ys.getD i 0 :: ys.drop (i + 1) := by rw [List.drop_eq_getElem_cons (by omega), List.getD_eq_getElem?_getD, List.getElem?_eq_getElem (by omega)]; rfl
      rw [d1, d2] at h
      have h : R (.ok (.ret (.bool (if xs.getD i 0 = ys.getD i 0 then lexB (xs.drop (i + 1)) (ys.drop (i + 1)) else decide (xs.getD i 0 < ys.getD i 0))))) ⟨hp, g, d, tk, os⟩ := h
      rw [e1, e2]
      refine wpAny_bind (wpAny_eqBool_int ?_)
      by_cases c : xs.getD i 0 = ys.getD i 0
      · rw [if_pos c] at h
        rw [show (xs.getD i 0 == ys.getD i 0) = true from beq_iff_eq.mpr c]
        wp_walk
        rw [hc]
        exact ⟨plainId_quiet plain_eq_loop _, codeAny_builtin entry_eq_loop (by
          rw [Around.under_plainId plain_eq_loop _]
          exact ih (i + 1) (by omega) (by omega) (by omega) prog w A R _ ⟨hl, hb, h⟩)⟩
      · rw [if_neg c] at h
        rw [show (xs.getD i 0 == ys.getD i 0) = false from beq_eq_false_iff_ne.mpr c]
        wp_walk using wpAny_loadPart' hl, wpAny_loadPart' hb
        rw [hi1, hi2, e1, e2]
        refine wpAny_bind ?_
        show wpAny (model prog w) _ (compareOp .Lt (.int (xs.getD i 0) t1) (.int (ys.getD i 0) t2)) _ _ _
        exact lt_int (wpAny_pure h)
    · have hi2 : items2[((i : Nat) : Int).toNat]? = none := by simp; omega
      rw [hi1, hi2]
      wp_walk using wpAny_loadPart' hl, wpAny_loadPart' hb
      show R (.ok (.ret (.bool (decide (items.size < items2.size))))) _
      have d1 : xs.drop i = xs.getD i 0 :: xs.drop (i + 1) := by rw [List.drop_eq_getElem_cons (by omega), List.getD_eq_getElem?_getD, List.getElem?_eq_getElem (by omega)]; rfl
      have d2 : ys.drop i = [] := List.drop_eq_nil_of_le (by omega)
      rw [d1, d2] at h
      rw [decide_eq_false (by omega)]
      exact h
def ListI (h : Heap) (v : Value) (l : List Int) : Prop := ∃ (t : Addr) (items : Array Value) (n : Nat) (dd : Option Addr) (sl : Array (Option Value)), v = .ref t/\h.get? t = some { cls := .type "list", dict := dd, data := .seq items n, slots := sl }/\IntsAre items.toList l
section
variable {prog : Program} {w : World} {A : Around} {E : Value->Shared->Prop} {s : Shared}
theorem oneLt_list {x y : Value} {a b : List Int} {Q : Bool->Shared->Prop} (hu : A.units < cLine) (hx : ListI s.heap x a) (hy : ListI s.heap y b) (h : Q (lexB a b) s) : wpAny (model prog w) A (oneLt' true x y) Q E s := by
  obtain ⟨t, items, n, dd, sl, rfl, ho, hi⟩ := hx
  obtain ⟨t', items', n', dd', sl', rfl, ho', hi'⟩ := hy
  rw [oneLt'_eq]
  simp only [if_true]
  refine wpAny_bind (wpAny_cRoomFor hu ?_)
  refine wpAny_bind (wpAny_callSpecialIfBound?_slot (T := "list") ⟨_, ho, rfl⟩ PySem.F.slot_list_lt (call_meets PySem.F.slot_list_lt ⟨_, ho, rfl⟩ PySem.F.entry_list_lt (PySem.F.args_list_lt_2 _ _) (S := fun A R s => s.heap.get? t = some { cls := .type "list", dict := dd, data := .seq items n, slots := sl }/\s.heap.get? t' = some { cls := .type "list", dict := dd', data := .seq items' n', slots := sl' }/\R (.ok (.ret (.bool (lexB a b)))) s) ?_ ⟨ho, ho', ?_⟩))
  · intro prog w A R s h
    obtain ⟨hp, g, d, tk, os⟩ := s; obtain ⟨hl, hb, h⟩ := h
    have f3 := PySem.AutoSeq1.sub_list_list
    wp_walk using wpAny_loadPart' hl, wpAny_loadPart' hb
    exact ⟨plainId_quiet plain_eq_loop _, codeAny_builtin entry_eq_loop (by
      rw [Around.under_plainId plain_eq_loop _]
      exact lt_loopL hi hi' _ 0 rfl (Nat.zero_le _) (Nat.zero_le _) prog w A R _ ⟨hl, hb, h⟩)⟩
  · exact wpAny_truthy_bool h
end
end L2
namespace Tw
open L2
def enc : Nat->List Int->Int
  | _, [] => 0
  | 0, _ :: _ => 0
  | m + 1, x :: r => (x + 1) * 13 ^ m + enc m r
def Short (m : Nat) (l : List Int) : Prop := l.length ≤ m/\∀ x ∈ l, 0 ≤ x/\x < 12
theorem pow13 (m : Nat) : (0 : Int) < 13 ^ m := Int.pow_pos (by decide)
theorem Short.tail {m : Nat} {x : Int} {l : List Int} (h : Short (m + 1) (x :: l)) : Short m l := ⟨by have := h.1; rw [List.length_cons] at this; omega, fun y hy => h.2 y (List.mem_cons_of_mem _ hy)⟩
theorem enc_bd : ∀ {m : Nat} {l : List Int}, Short m l->0 ≤ enc m l/\enc m l < 13 ^ m
  | m, [], _ => ⟨by cases m <;> exact Int.le_refl _, by cases m <;> exact pow13 _⟩
  | 0, x :: l, h => absurd h.1 (by simp)
  | m + 1, x :: l, h => by
    have ih := enc_bd h.tail
    have hx := h.2 x (List.mem_cons_self ..)
    have p := pow13 m
    show 0 ≤ (x + 1) * 13 ^ m + enc m l/\(x + 1) * 13 ^ m + enc m l < 13 ^ (m + 1)
    have e : (13 : Int) ^ (m + 1) = 13 * 13 ^ m := by rw [Int.pow_succ, Int.mul_comm]
    rw [e]
    have a := Int.mul_le_mul_of_nonneg_right (show x + 1 ≤ 12 by omega) (Int.le_of_lt p)
    have b := Int.mul_nonneg (show 0 ≤ x + 1 by omega) (Int.le_of_lt p)
    exact ⟨by omega, by omega⟩
theorem lex_enc : ∀ {m : Nat} {a b : List Int}, Short m a->Short m b->lexB a b = decide (enc m a < enc m b)
  | m, [], [], _, _ => by
    have : ¬ enc m [] < enc m [] := Int.lt_irrefl _
    rw [decide_eq_false this]; rfl
  | 0, [], y :: b, _, h => absurd h.1 (by simp)
  | m + 1, [], y :: b, _, h => by
    have p := pow13 m
    have hy := h.2 y (List.mem_cons_self ..)
    have bb := enc_bd h.tail
    have b1 := Int.mul_le_mul_of_nonneg_right (show (1 : Int) ≤ y + 1 by omega) (Int.le_of_lt p)
    have : enc (m + 1) [] < enc (m + 1) (y :: b) := by
      show (0 : Int) < (y + 1) * 13 ^ m + enc m b
      omega
    rw [decide_eq_true this]; rfl
  | 0, x :: a, _, h, _ => absurd h.1 (by simp)
  | m + 1, x :: a, [], h, _ => by
    have p := pow13 m
    have hx := h.2 x (List.mem_cons_self ..)
    have aa := enc_bd h.tail
    have b1 := Int.mul_nonneg (show (0 : Int) ≤ x + 1 by omega) (Int.le_of_lt p)
    have : ¬ enc (m + 1) (x :: a) < enc (m + 1) [] := by
      show ¬ (x + 1) * 13 ^ m + enc m a < (0 : Int)
      omega
    rw [decide_eq_false this]; rfl
  | m + 1, x :: a, y :: b, ha, hb => by
    have p := pow13 m
    have ba := enc_bd ha.tail
    have bb := enc_bd hb.tail
    show (if x = y then lexB a b else decide (x < y)) = decide ((x + 1) * 13 ^ m + enc m a < (y + 1) * 13 ^ m + enc m b)
    by_cases e : x = y
    · rw [if_pos e, lex_enc ha.tail hb.tail, e, decide_eq_decide]
      omega
    · rw [if_neg e, decide_eq_decide]
      constructor
      · intro h
        have := Int.mul_le_mul_of_nonneg_right (show x + 1 + 1 ≤ y + 1 by omega) (Int.le_of_lt p)
        rw [Int.add_mul (x + 1) 1] at this
        omega
      · intro h
        refine Int.not_le.mp fun h' => ?_
        have := Int.mul_le_mul_of_nonneg_right (show y + 1 + 1 ≤ x + 1 by omega) (Int.le_of_lt p)
        rw [Int.add_mul (y + 1) 1] at this
        omega
end Tw
namespace L2
open PySem PySem.Spec PyProof.Rows Tw
section
variable {prog : Program} {w : World} {A : Around} {E : Value->Shared->Prop} {s : Shared}
theorem ask_lists {P : Keyed->Prop} {lf : Value->List Int} (hu : A.units < cLine) (hP : ∀ p, P p->ListI s.heap p.1 (lf p.1)/\Short 12 (lf p.1)) : Ask (model prog w) A E s oneType' (fun p => enc 12 (lf p.1)) P := ⟨fun st x y Q hk px py h => by
  obtain ⟨h1, h2⟩ := hP x px
  obtain ⟨h3, h4⟩ := hP y py
  rw [← lex_enc h2 h4] at h
  rw [lt'_eq]
  refine wpS_bind (wpS_get ?_)
  rw [hk, keyLt'_oneType]
  exact wpS_bind (wpS_lift (wpAny_attempt (oneLt_list hu h1 h3 ⟨rfl, wpS_pure h⟩)))⟩
theorem kind_lists {vs : List Value} {Q : SortKind->Shared->Prop} (h2 : 2 ≤ vs.length) (hv : ∀ v ∈ vs, ∃ l, ListI s.heap v l) (h : Q oneType' s) : wpAny (model prog w) A (keyKind' vs.toArray) Q E s := by
  rw [keyKind'_eq, List.mapM_toArray]
  refine wpAny_bind ?_
  rw [map_eq_pure_bind]
  refine wpAny_bind (mapM_wp (R := fun _ y => y = none) vs (fun v hv' Q' q => ?_) fun ys l1 e1 => wpAny_pure ?_)
  · obtain ⟨l, t, items, n, dd, sl, rfl, ho, hi⟩ := hv v hv'
    rw [firstOfTuple'_eq]
    refine wpAny_bind (wpAny_typeOf (T := "list") ⟨_, ho, rfl⟩ ?_)
    rw [if_pos (by decide)]
    exact wpAny_pure (q _ rfl)
  · cases ys with
    | nil => rw [List.length_nil] at l1; omega
    | cons y ys =>
      obtain ⟨_, _, rfl⟩ := e1 y (List.mem_cons_self ..)
      rw [if_neg (by simp), if_neg (by simp)]
      refine wpAny_bind ?_
      rw [oneTypeOnly'_eq, List.mapM_toArray]
      refine wpAny_bind ?_
      rw [map_eq_pure_bind]
      refine wpAny_bind (mapM_wp (R := fun _ y => y = Value.type "list") vs (fun v hv' Q' q => ?_) fun ts l2 e2 => wpAny_pure ?_)
      · obtain ⟨l, t, items, n, dd, sl, rfl, ho, hi⟩ := hv v hv'
        exact wpAny_typeOf (T := "list") ⟨_, ho, rfl⟩ (q _ rfl)
      · cases ts with
        | nil => rw [List.length_nil] at l2; omega
        | cons z l =>
          obtain ⟨_, _, rfl⟩ := e2 z (List.mem_cons_self ..)
          have all2 : ((Value.type "list" :: l).toArray.all fun x => x == Value.type "list") = true := by
            rw [List.all_toArray, List.all_eq_true]
            intro z hz
            obtain ⟨_, _, rfl⟩ := e2 z hz
            rfl
          show wpAny _ _ (pure (if ((Value.type "list" :: l).toArray.all fun x => x == Value.type "list") = true then some (Value.type "list") else none)) _ _ s
          rw [if_pos all2]
          exact wpAny_pure (wpAny_pure h)
end
section
variable {prog : Program} {w : World} {A : Around} {E : Value->Shared->Prop} {s : Shared} {g0 : Heap} {L : Addr} {mm : Str->Option Value} {ws : List (Addr × Obj)} {D kS : Addr} {us : List Value} {ks : Array Value} {e e1 : Nat} {R : PySem.Fin->Shared->Prop} {lf : Value->List Int}
theorem outL {st : SortSt} {m : Nat} (hl : ks.size = us.length) (hp : (arrOf st).Perm (ks.zip us.toArray)) (so : Rise (ky (fun p => enc 12 (lf p.1)) (arrOf st)) 0 m) (hm : m = us.length) : KskOut false (ks.toList.map fun v => enc 12 (lf v)) us ((arrOf st).map (·.2)).toList := by
  have hp' : (arrOf st).toList.Perm (ks.toList.zip us) := by
    have := Array.perm_iff_toList_perm.mp hp
    rw [Array.toList_zip, List.toList_toArray] at this
    exact this
  refine ⟨(arrOf st).toList.map fun p => (enc 12 (lf p.1), p.2), ?_, ?_, ?_⟩
  · have := hp'.map fun p : Value × Value => (enc 12 (lf p.1), p.2)
    rw [List.zip_map_left]
    exact this
  · rw [Array.toList_map, List.map_map]; rfl
  · rw [List.pairwise_map, List.pairwise_iff_getElem]
    intro i j hi hj hij
    have hsz : (arrOf st).toList.length = us.length := by
      rw [hp'.length_eq, List.length_zip, Array.length_toList]; omega
    have := so i j (Nat.zero_le _) (by omega) (by rw [hm, ← hsz]; exact hj)
    rw [ky_at (y := (arrOf st).toList[i]) (by rw [← Array.getElem?_toList]; exact List.getElem?_eq_getElem hi), ky_at (y := (arrOf st).toList[j]) (by rw [← Array.getElem?_toList]; exact List.getElem?_eq_getElem hj)] at this
    exact this
theorem tailL {st : SortSt} (F : Fr g0 L s.heap mm) (N : News g0 L s.heap (ws ++ [(kS, seqObj "list" ks e), (D, seqObj "list" #[] e1)])) (n1 : kS ≠ D) (n2 : ∀ q ∈ ws, q.1 ≠ kS) (n3 : ∀ q ∈ ws, q.1 ≠ D) (zk : ks.size = us.length) (lim : us.length < 1000) (hp : (arrOf st).Perm (ks.zip us.toArray)) (nf : failedOf st = none) (ko : KskOut false (ks.toList.map fun v => enc 12 (lf v)) us ((arrOf st).map (·.2)).toList) (h : ∀ h2 tk o c, Fr g0 L h2 mm->News g0 L h2 ((D, seqObj "list" o c) :: ws)->KskOut false (ks.toList.map fun v => enc 12 (lf v)) us o.toList->R (.done (.ret .none)) { s with heap := h2, toks := tk }) : wpAny (model prog w) A (ksk_tail D false e1 (.ref kS) st) R E s := by
  have x1 := N (kS, seqObj "list" ks e) (List.mem_append_right _ (.head _))
  have x2 := N (D, seqObj "list" #[] e1) (List.mem_append_right _ (.tail _ (.head _)))
  have za : (arrOf st).size = us.length := by rw [hp.size_eq, Array.size_zip, zk, List.size_toArray, Nat.min_self]
  generalize ho : (arrOf st).map (·.2) = o at ko
  have zo : o.size = us.length := by rw [← ho, Array.size_map, za]
  have t1 := Heap.SameBut.update s.heap kS (Obj.mapSeq fun _ => (#[] : Array Value))
  have y2 : (s.heap.update kS (Obj.mapSeq fun _ => (#[] : Array Value))).get? D = some (seqObj "list" #[] e1) := (t1.2 D n1.symm).trans x2.1
  have t2 := Heap.SameBut.update (s.heap.update kS (Obj.mapSeq fun _ => (#[] : Array Value))) D (Obj.mapSeq fun _ => o)
  obtain ⟨c2, y3⟩ : ∃ c2, ((s.heap.update kS (Obj.mapSeq fun _ => (#[] : Array Value))).update D (Obj.mapSeq fun _ => o)).get? D = some (seqObj "list" o c2) := ⟨_, get?_update_seq y2 fun _ => o⟩
  have N2 := ksk_news (ksk_news (fun q hq => N q (List.mem_append_left _ hq) : News g0 L s.heap ws) t1 n2) t2 n3
  unfold ksk_tail
  dsimp only
  refine wpAny_bind (listUpdate_at x1.1 rfl ?_ (by rw [zk, sizeLine_eq]; omega) (Nat.zero_le _))
  refine wpAny_bind (wpAny_letGo (wpAny_bind (seqEpoch_at y2 rfl ?_)))
  rw [if_neg (by simp), ho]
  refine wpAny_bind (listUpdate_at y2 rfl ?_ (Nat.zero_le _) (Nat.le_trans (Nat.le_of_eq zo) (by rw [sizeLine_eq]; omega)))
  rw [nf]
  simp only [bne_self_eq_false, Bool.false_eq_true, if_false]
  refine wpAny_pure (h _ _ o c2 (ksk_fr (ksk_fr F t1 x1.2.1 x1.2.2) t2 x2.2.1 x2.2.2) (fun q hq => ?_) ko)
  rcases List.mem_cons.mp hq with rfl | hq
  · exact ⟨y3, x2.2⟩
  · exact N2 q hq
theorem endL (hu : A.units < cLine) (F : Fr g0 L s.heap mm) (N : News g0 L s.heap (ws ++ [(kS, seqObj "list" ks e), (D, seqObj "list" #[] e1)])) (n1 : kS ≠ D) (n2 : ∀ q ∈ ws, q.1 ≠ kS) (n3 : ∀ q ∈ ws, q.1 ≠ D) (zk : ks.size = us.length) (hk : ∀ v ∈ ks.toList, ListI s.heap v (lf v)/\Short 12 (lf v)) (lim : us.length < 1000) (h : ∀ h2 tk o c, Fr g0 L h2 mm->News g0 L h2 ((D, seqObj "list" o c) :: ws)->KskOut false (ks.toList.map fun v => enc 12 (lf v)) us o.toList->R (.done (.ret .none)) { s with heap := h2, toks := tk }) : wpAny (model prog w) A (ksk_end D false us.toArray e1 (.ref kS) ks) R E s := by
  have zz : (ks.zip us.toArray).size = us.length := by rw [Array.size_zip, zk, List.size_toArray, Nat.min_self]
  unfold ksk_end
  dsimp only
  simp only [Bool.false_eq_true, if_false]
  by_cases c : us.toArray.size < 2
  · rw [if_pos c, if_pos c]
    refine wpAny_bind (wpAny_pure ?_)
    rw [StateT.run_pure]
    have c' := c
    rw [List.size_toArray] at c'
    refine wpAny_bind (wpAny_pure (tailL (lf := lf) (st := SortSt.mk' general' (ks.zip us.toArray) #[] 7 none) F N n1 n2 n3 zk lim (.refl _) rfl (outL (m := us.length) zk (.refl _) (fun i j _ hij hj => ?_) rfl) h))
    rw [show i = j by omega]
    exact Int.le_refl _
  · rw [if_neg c, if_neg c]
    rw [List.size_toArray] at c
    have ek : ks = ks.toList.toArray := by rw [Array.toArray_toList]
    have kk : ∀ {Q : SortKind->Shared->Prop}, Q oneType' s->wpAny (model prog w) A (keyKind' ks) Q E s := fun {Q} q => by
      rw [ek]
      exact kind_lists (by rw [Array.length_toList]; omega) (fun v hv => ⟨_, (hk v hv).1⟩) q
    refine wpAny_bind (kk (wpAny_bind ?_))
    have go := wpS_runs (a₀ := ks.zip us.toArray) (st := SortSt.mk' oneType' (ks.zip us.toArray) #[] 7 none) (Q := fun _ st2 => (arrOf st2).Perm (ks.zip us.toArray)/\failedOf st2 = none/\Rise (ky (fun p => enc 12 (lf p.1)) (arrOf st2)) 0 (ks.zip us.toArray).size)
      (ask_lists (prog := prog) (w := w) (A := A) (E := E) (s := s) (lf := lf) hu fun p hp => by
        have hp' := Array.mem_toList_iff.mpr hp
        rw [Array.toList_zip, List.toList_toArray] at hp'
        exact hk _ (List.of_mem_zip (a := p.1) (b := p.2) hp').1) rfl (.refl _) rfl rfl (by omega) fun st2 a1 a2 a3 => ⟨a1, a2, a3⟩
    refine wpAny_mono go ?_ fun _ _ z => z
    rintro ⟨⟨⟩, st2⟩ s2 ⟨rfl, q1, q2, q3⟩
    exact tailL F N n1 n2 n3 zk lim q1 q2 (outL zk q1 q3 zz) h
end
end L2
namespace L2
open PySem PySem.Spec PyProof.Rows Tw
open PySem.W (tabObj CodeHd kla_obj kla_fn envX)
theorem perm_map_inv {α β : Type} {g : α->β} {ps qs : List β} (h : ps.Perm qs) : ∀ l : List α, l.map g = qs->∃ l' : List α, l'.Perm l/\l'.map g = ps := by
  induction h with
  | nil => intro l e; exact ⟨l, .refl _, e⟩
  | cons x _ ih =>
    intro l e
    cases l with
    | nil => cases e
    | cons y l =>
      rw [List.map_cons] at e
      injection e with e1 e2
      obtain ⟨l', p, e'⟩ := ih l e2
      exact ⟨y :: l', p.cons y, by rw [List.map_cons, e1, e']⟩
  | swap x y r =>
    intro l e
    match l, e with
    | [], e => cases e
    | [_], e => simp at e
    | a :: b :: l, e =>
      simp only [List.map_cons, List.cons.injEq] at e
      exact ⟨b :: a :: l, List.Perm.swap _ _ _, by simp only [List.map_cons, e.1, e.2.1, e.2.2]⟩
  | trans _ _ ih1 ih2 =>
    intro l e
    obtain ⟨l2, p2, e2⟩ := ih2 l e
    obtain ⟨l1, p1, e1⟩ := ih1 l2 e2
    exact ⟨l1, p1.trans p2, e1⟩
theorem sort_out {b : Bool} {kf : V->Int} {xs : List V} {its out : List Value} (rv : Vals xs its) (h : KskOut b (xs.map kf) its out) : ∃ ys : List V, ys.Perm xs/\Vals ys out/\ys.Pairwise fun y z => if b then kf z ≤ kf y else kf y ≤ kf z := by
  obtain ⟨ps, p, rfl, w⟩ := h
  have hl := rv.length
  have e : (xs.zip its).map (fun q => (kf q.1, q.2)) = (xs.map kf).zip its := by
    rw [List.zip_map_left]; rfl
  obtain ⟨l', p', e'⟩ := perm_map_inv (g := fun q : V × Value => (kf q.1, q.2)) p (xs.zip its) e
  refine ⟨l'.map (·.1), ?_, ?_, ?_⟩
  · have := p'.map (·.1)
    rw [List.map_fst_zip (by omega)] at this
    exact this
  · have mem : ∀ q ∈ l', RelV q.1 q.2 := fun q hq => by
      have hm := p'.mem_iff.mp hq
      obtain ⟨i, hi⟩ := List.mem_iff_getElem?.mp hm
      rw [List.getElem?_zip_eq_some] at hi
      obtain ⟨u, hu, r⟩ := rv.get hi.1
      rw [hi.2] at hu; cases hu; exact r
    rw [← e', List.map_map]
    clear e' p' w p
    induction l' with
    | nil => exact .nil
    | cons q r ih => exact .cons (mem q (.head _)) (ih fun z hz => mem z (.tail _ hz))
  · rw [← e', List.pairwise_map] at w
    rw [List.pairwise_map]
    exact w
section
variable {X : Cx} {pins : List (Addr × Obj)} {σ : St} {H : Hp} {s : Shared} {h' : Heap}
theorem Inv.sorted {D kS : Addr} {ys : List V} {out : Array Value} {c : Nat} {tk : Nat} (I : Inv X pins σ H s) (fD : FpOk X pins H D) (fk : FpOk X pins H kS) (hDk : kS ≠ D) (k : ∀ b o, b ≠ D->b ≠ kS->b ≠ X.env.locals->s.heap.get? b = some o->h'.get? b = some o) (ns : ∀ m, s.heap.Ns X.env.locals m->h'.Ns X.env.locals m) (rv : Vals ys out.toList) (hz : ys.length ≤ sizeLine) (hD : h'.get? D = some (seqObj "list" out c)) : Inv X pins σ (upd H D (.lst ys)) { s with heap := h', toks := tk } := by
  have hn := fD.1
  have ne : ∀ b u, H b = some u->b ≠ D/\b ≠ kS/\b ≠ X.env.locals := fun b u e => ⟨ne_of_none e hn, ne_of_none e fk.1, ne_of_none e I.free⟩
  refine I.step (g' := s.gens) (d' := s.drawn) (ch := [D, kS]) (fun b hb => ?_) (fun b o hL _ hc e _ => k b o (fun z => hc (by simp [z])) (fun z => hc (by simp [z])) hL e) (fun b o hL _ hc e _ => ⟨o.slots, k b o (fun z => hc (by simp [z])) (fun z => hc (by simp [z])) hL e⟩)
    (fun b o hc _ n => by rw [upd_ne (fun z => hc (by simp [z]))]; exact n) (fun b o hc e => ?_) (fun b xs q => by rw [upd_ne (ne_of_none q hn)]; exact q) (fun b o u q => by rw [upd_ne (ne_of_none q hn)]; exact q) (fun b p q => ⟨#[], by rw [upd_ne (ne_of_none q hn), q]; simp⟩) ns (fun b u e => ?_) I.bare
  · rcases List.mem_cons.mp hb with rfl | hb
    · exact ⟨fD.2.2.2.1, fD.2.1, fD.2.2.2.2.1, fD.2.2.2.2.2⟩
    · rw [List.mem_singleton.mp hb]
      exact ⟨fk.2.2.2.1, fk.2.1, fk.2.2.2.2.1, fk.2.2.2.2.2⟩
  · by_cases hL : b = X.env.locals
    · obtain ⟨m', hm, _⟩ := I.loc
      obtain ⟨o', _, _, e', _⟩ := ns m' hm
      exact ⟨o', hL ▸ e'⟩
    · exact ⟨o, k b o (fun z => hc (by simp [z])) (fun z => hc (by simp [z])) hL e⟩
  · by_cases hb : b = D
    · subst hb; rw [upd_same] at e; cases e
      exact ⟨hz, out.toList, c, rv, by rw [hD]⟩
    · rw [upd_ne hb] at e
      refine (I.hok b u e).stay (fun d v hd q => k d v ?_ ?_ ?_ q) (fun d q => by rw [upd_ne (ne_of_none q hn)]; exact q) fun d v _ q => by rw [upd_ne (ne_of_none q hn)]; exact q
      all_goals
        rcases hd with rfl | hd
        · first | exact (ne _ u e).1 | exact (ne _ u e).2.1 | exact (ne _ u e).2.2
        · first | exact (ne _ _ hd).1 | exact (ne _ _ hd).2.1 | exact (ne _ _ hd).2.2
theorem FpOk.pin {D : Addr} {o : Obj} {pins' : List (Addr × Obj)} (I : Inv X pins σ H s) (f : FpOk X pins H D) (e : s.heap.get? D = some o) (hd : ∀ v, o.data ≠ .cell v) (hp : ∀ p ∈ pins', p = (D, o) ∨ p ∈ pins) : Inv X pins' σ H s :=
  I.pins_of fun p h => by
    rcases hp p h with rfl | h
    · exact ⟨e, f.1, f.2.1, f.2.2.1, hd⟩
    · exact I.pin p (List.mem_append_right _ h)
theorem FpOk.base (I : Inv X pins σ H s) {D : Addr} (f : FpOk X pins H D) : X.base.get? D = none := by
  rcases f.2.2.2.1 with z | z
  · cases q : X.base.get? D with
    | none => rfl
    | some o => exact absurd z (I.ok.noex D o q)
  · exact Heap.get?_none_of_le (Nat.le_trans I.ok.bsz z)
end
end L2
namespace L2
open PySem PySem.Spec PyProof.Rows Tw
open PySem.W (tabObj CodeHd kla_obj kla_fn envX)
section
variable {X : Cx} {pins : List (Addr × Obj)} {σ : St} {H : Hp} {s : Shared}
structure Tab (K : PySem.W.Frag) (cdv : Value) (P : Addr) : Prop where
  ex : ∃ c, cdv = .ref c/\∀ h : Heap, K.In h->CodeHd h c P
end
end L2
namespace L2
open PySem PySem.Spec PyProof.Rows Tw
open PySem.W (tabObj CodeHd kla_obj kla_fn envX)
section
variable {X : Cx}
theorem sq_same {K : PySem.W.Frag} {H H1 : Hp} {a : Addr} {xs : List V} (h : SqL K H a xs) (s : Same H H1) : SqL K H1 a xs := s.seq h
end
end L2
namespace L2
open PySem PySem.Spec PyProof.Rows Tw
open PySem.W (tabObj CodeHd tabIn)
def lamQ (n : Str) : Str := n ++ ".<locals>." ++ "<lambda>"
def tblOf (n : Str) : HO := .tbl #[.str (lamQ n) 0]
def tabsOk (K : PySem.W.Frag) (names : List Str) : Bool :=
  (names.all fun n => match tabIn K n with
    | some (_, P) => (K.lookup P).isNone
    | none => false) && decide ((names.filterMap fun n => (tabIn K n).map (·.2)).Nodup)
def tabAt (K : PySem.W.Frag) (names : List Str) (b : Addr) : Option Str := names.find? fun n => decide ((tabIn K n).map (·.2) = some b)
theorem tabAt_of {K : PySem.W.Frag} : ∀ {names : List Str} {n : Str} {c P : Addr}, (names.filterMap fun n => (tabIn K n).map (·.2)).Nodup->n ∈ names->tabIn K n = some (c, P)->tabAt K names P = some n
  | [], _, _, _, _, h, _ => nomatch h
  | m :: names, n, c, P, nd, h, e => by
    unfold tabAt
    rw [List.find?_cons]
    cases hm : tabIn K m with
    | none =>
      have : decide ((none : Option (Addr × Addr)).map (·.2) = some P) = false := by simp
      rw [this]
      rw [List.filterMap_cons, hm] at nd
      rcases List.mem_cons.mp h with rfl | h
      · rw [e] at hm; cases hm
      · exact tabAt_of nd h e
    | some r =>
      obtain ⟨c', P'⟩ := r
      rw [List.filterMap_cons, hm] at nd
      have nd' := List.nodup_cons.mp nd
      by_cases hP : P' = P
      · subst hP
        have : decide (((some (c', P')) : Option (Addr × Addr)).map (·.2) = some P') = true := by simp
        rw [this]
        rcases List.mem_cons.mp h with rfl | h
        · rfl
        · exact absurd (List.mem_filterMap.mpr ⟨n, h, by rw [e]; rfl⟩) nd'.1
      · have : decide (((some (c', P')) : Option (Addr × Addr)).map (·.2) = some P) = false := by simp [hP]
        rw [this]
        rcases List.mem_cons.mp h with rfl | h
        · rw [e] at hm; cases hm; exact absurd rfl hP
        · exact tabAt_of nd'.2 h e
theorem tabAt_mem {K : PySem.W.Frag} {names : List Str} {n : Str} {P : Addr} (h : tabAt K names P = some n) : n ∈ names/\∃ c, tabIn K n = some (c, P) := by
  refine ⟨List.mem_of_find?_eq_some h, ?_⟩
  have := List.find?_some h
  have e := of_decide_eq_true this
  cases ht : tabIn K n with
  | none => rw [ht] at e; cases e
  | some r =>
    rw [ht] at e
    obtain ⟨c, P'⟩ := r
    cases e
    exact ⟨c, rfl⟩
def Tabs (K : PySem.W.Frag) (names : List Str) (H : Hp) : Prop := ∀ n ∈ names, ∀ c P, tabIn K n = some (c, P)->H P = some (tblOf n)
theorem law_callT {P : Program} {w : World} {K : PySem.W.Frag} {mg mb : Str->Option Value} {k : Nat} {fa a : Addr} {fd : FuncData} {x : Str} {sp : Sp} {s₁ : Shared} {vs : List Value} {ns : List Int} {names : List Str} (KX : K.In s₁.heap) (hns : s₁.heap.Ns mainGlobals mg) (hb : s₁.heap.Ns builtinsNs mb) (hbb : ∀ x : Str, x ≠ "__name__"->mb x = bootBuiltins x) (hlim : s₁.heap.NoLimit) (hbm : ∃ bm ob, mg "__builtins__" = some (.ref bm)/\bm ≠ builtinsNs/\s₁.heap.get? bm = some ob/\ob.cls = .type "module"/\ob.dict = some builtinsNs/\ob.data = .plain) (hg : s₁.gens = #[]) (ha : s₁.heap.get? a = some { cls := .type "list", data := .seq vs.toArray }) (hi : IntsAre vs ns) (hl : ns.length ≤ sizeLine) (hr : Room k callerA)
    (htk : tabsOk K names = true) (htab : ∀ n ∈ names, ∀ c P, tabIn K n = some (c, P)->CodeHd s₁.heap c P/\s₁.heap.get? P = some (tabObj #[]))
    (F : ∀ base : Heap, K.In base->base.Ns mainGlobals mg->FnOk P w K mg base CX0 k fa fd [x] sp) (hbind : ∀ (s : Shared) (u : Value), BindsTo s fd ⟨[u], []⟩ [(x, u)])
    (hsp : ∀ H : Hp, Tabs K names H->SqL K H a (ns.map V.int)->sp [.ref a] H (fun v _ => v = .bl true) fun _ _ _ => False) :
    codeAny (model P w) callerA (.call (.ref fa) ⟨[.ref a], []⟩) (fun r s' => r = .ok (.ret (.bool true))/\OldK s₁.heap s'.heap/\s'.os = s₁.os/\AllBare s'.gens) s₁ := by
  have rv := vals_ints hi
  have lenV := hi.length
  have nd : (names.filterMap fun n => (tabIn K n).map (·.2)).Nodup := of_decide_eq_true (Bool.and_eq_true_iff.mp htk).2
  have hKt : ∀ n ∈ names, ∀ c P, tabIn K n = some (c, P)->K.lookup P = none := fun n hn c P e => by
    have := List.all_eq_true.mp (Bool.and_eq_true_iff.mp htk).1 n hn
    rw [e] at this
    exact Option.isNone_iff_eq_none.mp this
  have tabO : ∀ {b : Addr} {n : Str}, tabAt K names b = some n->s₁.heap.get? b = some (tabObj #[])/\K.lookup b = none/\∃ c, CodeHd s₁.heap c b := fun {b n} h => by
    obtain ⟨h1, c, h2⟩ := tabAt_mem h
    exact ⟨(htab n h1 c b h2).2, hKt n h1 c b h2, c, (htab n h1 c b h2).1⟩
  have core : ∀ (H : Hp), (∀ b, tabAt K names b = none->H b = none ∨ (b = a/\K.lookup a = none/\H b = some (.frz { cls := .type "list", data := .seq vs.toArray } (.lst (ns.map V.int)))))->(∀ b n, tabAt K names b = some n->H b = some (tblOf n))->SqL K H a (ns.map V.int) →
      codeAny (model P w) callerA (.call (.ref fa) ⟨[.ref a], []⟩) (fun r s' => r = .ok (.ret (.bool true))/\OldK s₁.heap s'.heap/\s'.os = s₁.os/\AllBare s'.gens) s₁ := by
    intro H hA hT hS
    have hok : HOk P w H s₁.heap := fun b u e => by
      cases ht : tabAt K names b with
      | some n =>
        rw [hT b n ht] at e; cases e
        exact ⟨#[], (tabO ht).1, trivial, fun pos cv hc => by simp [codeAmong] at hc⟩
      | none =>
        rcases hA b ht with z | ⟨rfl, _, z⟩
        · rw [z] at e; cases e
        · rw [z] at e; cases e
          exact ⟨ha, by rw [List.length_map]; exact hl, vs, _, rv, ha⟩
    have kind : ∀ {b : Addr} {o : Obj} {u : HO}, s₁.heap.get? b = some o->H b = some u->o = { cls := .type "list", data := .seq vs.toArray } ∨ o = tabObj #[] := fun {b o u} e q => by
      cases ht : tabAt K names b with
      | some n => rw [(tabO ht).1] at e; cases e; exact .inr rfl
      | none =>
        rcases hA b ht with z | ⟨rfl, _, _⟩
        · rw [z] at q; cases q
        · rw [ha] at e; cases e; exact .inl rfl
    have base_of : ∀ {b : Addr} {o : Obj}, s₁.heap.get? b = some o->H b = none->(hidT s₁.heap H).get? b = some o := fun e n => hidT_get e n
    have noA : ∀ {b : Addr} {o : Obj} {es : Array DictEntry} {ep : Nat}, s₁.heap.get? b = some o->o.data = .dict es ep->H b = none := fun {b o es ep} e d => by
      cases q : H b with
      | none => rfl
      | some u => rcases kind e q with z | z <;> rw [z] at d <;> cases d
    have nsK : ∀ {b : Addr} {m : Str->Option Value}, s₁.heap.Ns b m->(hidT s₁.heap H).Ns b m := fun {b m} ⟨o, es, ep, e, d, r⟩ => ⟨o, es, ep, base_of e (noA e d), d, r⟩
    have hKb : K.In (hidT s₁.heap H) := fun b o e => base_of (KX b o e) (by
      cases ht : tabAt K names b with
      | some n => rw [(tabO ht).2.1] at e; cases e
      | none =>
        rcases hA b ht with z | ⟨rfl, z, _⟩
        · exact z
        · rw [z] at e; cases e)
    have hM : Mod K mg (hidT s₁.heap H) := ⟨hKb, nsK hns, ⟨mb, nsK hb, hbb⟩, let ⟨mc, h1, h2⟩ := hlim; ⟨mc, nsK h1, h2⟩, by
      obtain ⟨bm, ob, b1, b2, b3, b4⟩ := hbm
      refine ⟨bm, ob, b1, b2, base_of b3 ?_, b4⟩
      cases q : H bm with
      | none => rfl
      | some u =>
        rcases kind b3 q with z | z
        · exact absurd b4.1 (by rw [z]; show ¬ Value.type "list" = .type "module"; decide +kernel)
        · exact absurd b4.1 (by rw [z]; intro z'; cases z')⟩
    have e0 : Env0 P w K mg (hidT s₁.heap H) callerA [] s₁ H := ⟨rfl, hM, fun b o e => of_hidT e, Nat.le_of_eq (hidT_size _ _), trivial, fun b hb => absurd (show b ∈ ([] : List Addr) from hb) (by simp), hok, .of_eq hg⟩
    have hTabs : Tabs K names H := fun n hn c Pt e => hT Pt n (tabAt_of nd hn e)
    refine codeAny_mono ((F _ hKb (nsK hns)).run callerA [] s₁ H ⟨[.ref a], []⟩ [.ref a] [.ref a] _ _ hr e0 (hbind s₁ (.ref a)) (.cons rfl .nil) (hsp H hTabs hS)) fun r s' h => ?_
    cases r with
    | error e => exact False.elim h
    | ok fl =>
      cases fl with
      | next => exact False.elim h
      | brk => exact False.elim h
      | cont => exact False.elim h
      | ret u =>
        obtain ⟨v, H', os, bare, un, hok', r', q⟩ := h
        have q' : v = .bl true := q
        subst q'
        obtain rfl : u = Value.bool true := r'
        have old : ∀ b o, s₁.heap.get? b = some o->asItWas s₁.heap s'.heap b o/\∃ o', s'.heap.get? b = some o' := fun b o e => by
          cases q : H b with
          | none =>
            have := un.keep b o e q (by intro z; exact absurd (show b ∈ ([] : List Addr) from z) (by simp)) (by simp)
            exact ⟨.inl this, _, this⟩
          | some u =>
            cases ht : tabAt K names b with
            | some n =>
              rw [hT b n ht] at q; cases q
              obtain ⟨more, z2⟩ := un.tbls b _ (hT b n ht)
              obtain ⟨ps, e2, _⟩ := (show ObjOk P w H' s'.heap b (.tbl (#[.str (lamQ n) 0] ++ more)) from hok' b _ z2)
              obtain ⟨e1, _, c, C⟩ := tabO ht
              rw [e] at e1; cases e1
              refine ⟨.inr (.inl ⟨(C.tab e).isCodeTable, rfl, #[], ps, rfl, ?_⟩), _, e2⟩
              rw [e2]; simp
            | none =>
              rcases hA b ht with z | ⟨rfl, _, z⟩
              · rw [z] at q; cases q
              · have z2 := un.frzs b _ _ z
                obtain ⟨e2, _⟩ := hok' b _ z2
                rw [ha] at e; cases e
                exact ⟨.inl e2, _, e2⟩
        exact ⟨rfl, ⟨fun b o e => (old b o e).1, fun b o e => (old b o e).2⟩, os, bare⟩
  have aT : tabAt K names a = none := by
    cases ht : tabAt K names a with
    | none => rfl
    | some n =>
      have := (tabO ht).1
      rw [ha] at this
      cases this
  cases hk : K.lookup a with
  | some o =>
    have e := KX a o hk
    rw [ha] at e
    cases e
    refine core (fun b => (tabAt K names b).map tblOf) (fun b hb => .inl (by rw [hb]; rfl)) (fun b n hb => by show (tabAt K names b).map tblOf = _; rw [hb]; rfl) (.inr ⟨_, vs.toArray, _, hk, rfl, rfl, rfl, by rw [List.size_toArray, lenV]; exact hl, by simpa using rv⟩)
  | none =>
    refine core (fun b => if b = a then some (.frz { cls := .type "list", data := .seq vs.toArray } (.lst (ns.map V.int))) else (tabAt K names b).map tblOf) (fun b hb => ?_) (fun b n hb => ?_) (.inl (.inr ⟨{ cls := .type "list", data := .seq vs.toArray }, if_pos rfl⟩))
    · by_cases e : b = a
      · exact .inr ⟨e, hk, if_pos e⟩
      · exact .inl (by show (if b = a then _ else _) = _; rw [if_neg e, hb]; rfl)
    · have e : b ≠ a := fun z => by rw [z, aT] at hb; cases hb
      show (if b = a then _ else _) = _
      rw [if_neg e, hb]; rfl
theorem walk_bitsT {l : PySem.W.OpenLaw} {n k : Nat} {q : Program} {loose : List Str} {XP : (Str->Option Value)->Heap->Prop} {YP : World->Heap->Prop} {d : DefRec} {K : Params->PySem.W.Frag} {sp : PySem.W.Frag->Sp} {x : Str} {names : List Str} (hn : l.most = some n) (hn2 : n ≤ sizeLine) (hdf : d.params.defaults = []) (hr : Room k callerA) (hY : ∀ (w : World) (h : Heap), YP w h->(K w.params).In h) (hT : ∀ w : World, tabsOk (K w.params) names = true) (hR : ∀ n ∈ names, ((recsOf q).find? (fun e => e.name == n)).isSome = true) (F : ∀ (w : World) (mg : Str->Option Value) (fa : Addr) (h : Heap), (K w.params).In h->h.Ns mainGlobals mg->(∀ n ∈ names, ∀ c P, tabIn (K w.params) n = some (c, P)->CodeHd h c P)->mg d.name = some (.ref fa)->∃ fd : FuncData, (∀ (s : Shared) (u : Value), BindsTo s fd ⟨[u], []⟩ [(x, u)])/\∀ base : Heap, (K w.params).In base->base.Ns mainGlobals mg->FnOk l.prog w (K w.params) mg base CX0 k fa fd [x] (sp (K w.params))) (hsp : ∀ (K : PySem.W.Frag) (H : Hp) (a : Addr) (ns : List Int), ns.length ≤ n->(∀ n ∈ ns, Bits n)->Tabs K names H->SqL K H a (ns.map V.int)->sp K [.ref a] H (fun v _ => v = .bl true) fun _ _ _ => False) : PySem.W.WalkO q loose XP YP l.row.toRowW d [] (fun f vs => PySem.call f vs) := by
  refine Att.attach_bits hn hdf fun w s₀ s₁ mg mb fa o pm cd doc a vs ns G Y ho hd hcd hmg hobj hints hlen hbits hg => ?_
  have KX := hY w _ Y
  have tabs : ∀ n ∈ names, ∀ c P, tabIn (K w.params) n = some (c, P)->CodeHd s₁.heap c P/\s₁.heap.get? P = some (tabObj #[]) := fun n hn c P e => by
    obtain ⟨d', hd'⟩ := Option.isSome_iff_exists.mp (hR n hn)
    exact PySem.W.tab_of G.T KX hd' e
  obtain ⟨fd, hb, hF⟩ := F w mg fa _ KX G.T.g (fun n hn c P e => (tabs n hn c P e).1) hmg
  exact law_callT KX G.T.g G.T.b G.T.builtins G.T.nolimit G.T.bmain hg hobj hints (Nat.le_trans hlen hn2) hr (hT w) tabs hF hb (fun H hO hS => hsp _ H a ns hlen hbits hO hS)
theorem tab_mk {K : PySem.W.Frag} {h : Heap} {n : Str} {f c P : Addr} {oc : Value} {od : Option Addr} {osl : Array (Option Value)} {fd : FuncData} (KX : K.In h) (C : CodeHd h c P) (a : PySem.W.nsIn K mainGlobals n = some (some (.ref f))) (l : K.lookup f = some ⟨oc, od, .func fd, osl⟩) (t : tabIn K n = some (c, P)) : Tab K fd.code P := by
  unfold tabIn at t
  rw [a] at t
  simp only [l] at t
  split at t
  · rename_i c' hc
    split at t
    · rename_i vs hlk
      split at t
      · rename_i P' hP
        cases t
        refine ⟨c, hc, fun h' KX' => ?_⟩
        obtain ⟨o, vs', file, tf, flags, tg, inF, text, tt, e1, r⟩ := C
        have e2 := KX _ _ hlk
        rw [e1] at e2
        cases e2
        exact ⟨_, vs', file, tf, flags, tg, inF, text, tt, KX' _ _ hlk, r⟩
      · cases t
    · cases t
  · cases t
section
variable {P : Program} {w : World} {K : PySem.W.Frag} {mg : Str->Option Value} {base : Heap}
theorem Fun.okL {x qual : Str} {st : Stmt} {f T : Addr} {fd : FuncData} {N ps : List Str} {k : Nat} {sp : Sp} (F : Fun K x qual st f fd) (tb : Tab K fd.code T) (S : FnScope N ps (defScope st)) (len : ∀ vs H Q E, sp vs H Q E->vs.length = ps.length) (hbody : ∀ (cdv : Value), Tab K cdv T->∀ (A : Around) (outer : List Env) (s : Shared) (H : Hp) (vs : List V) (Q : VK) (E : XK), Room k (A.deeper (envOfC qual (defScope st) s.heap.objs.size f cdv))->sp vs H Q E->∃ t, PSs (cxOf CX0 P w K mg base N qual (defScope st) f cdv A outer s H E).nox (defBody st) t/\t { nx := fun _ H' => Q .non H', rt := Q } (start N vs) H) : FnOk P w K mg base CX0 (k + 1) f fd ps sp := by
  obtain ⟨oc, od, kV, doc, pm, an, cdv, ct, osl, rfl, lk, hcd⟩ := F.ex
  refine fn_of lk hcd S len fun A outer s H vs Q E hr hsp => ?_
  obtain ⟨t, h, q⟩ := hbody cdv tb A outer s H vs Q E hr hsp
  exact ⟨t, h.nox, q⟩
end
end L2
namespace L2
open PySem PySem.Spec PyProof.Rows Tw
open PySem.W (tabObj CodeHd kla_obj kla_fn envX)
end L2
namespace L2
open PySem PySem.Spec PyProof.Rows Tw
open PySem.W (tabObj CodeHd kla_obj kla_fn envX)
def zOf : List V->List Int
  | [] => []
  | .int i :: r => i :: zOf r
  | _ :: r => zOf r
theorem zOf_zV : ∀ l : List Int, zOf (zV l) = l
  | [] => rfl
  | x :: l => congrArg (x :: ·) (zOf_zV l)
def lstOf (H : Hp) (t : Addr) : List Int := match H t with
  | some (.lst vs) => zOf vs
  | _ => []
section
variable {X : Cx} {pins : List (Addr × Obj)} {σ : St} {H : Hp} {s : Shared} {h' : Heap}
theorem sort_keyL {a : Value} {xs : List V} {kl : V->List Int} {kw : List (Str × Value)} {f : Value} {Q : VK} {E : Value->Shared->Prop} (I : Inv X pins σ H s) (h64 : xs.length < 1000) (hsh : ∀ y ∈ xs, Short 12 (kl y)) (hu : X.A.units + 2 < cLine) (col : ∀ Q' : List Value->Shared->Prop, (∀ (its : List Value) (s2 : Shared), Inv X pins σ H s2->Vals xs its->Q' its s2)->wpAny (model X.prog X.w) X.A.in1 (collect a) Q' E s) (ha1 : argsOk "sorted" ⟨[a], kw⟩) (ha2 : ∀ x, argsOk "list.sort" ⟨[.ref x], kw⟩) (ht : ∀ x, Builtin.«list.sort» ⟨[.ref x], kw⟩ = ksk_tree x f false) (turn : ∀ (y : V) (u : Value) (s' : Shared) (pins' : List (Addr × Obj)) (H1 : Hp), y ∈ xs->RelV y u->Inv X pins' σ H1 s'->Same H H1->(∀ p ∈ pins, p ∈ pins')->wpAny (model X.prog X.w) X.A.in1.in1 (call f [u]) (EP X pins' σ fun v H2 => ∃ L, v = .ref L/\Same H1 H2/\H2 L = some (.lst (zV (kl y)))) (fun _ _ => False) s') (h : ∀ (D : Addr) (ys : List V) (H1 : Hp), Same H H1->H1 D = none->ys.Perm xs->ys.Pairwise (fun y z => enc 12 (kl y) ≤ enc 12 (kl z))->Q (.ref D) (upd H1 D (.lst ys))) : wpAny (model X.prog X.w) X.A (call (.builtin "sorted") [a] kw) (EP X pins σ Q) E s := by
  refine call_function_entry_kw kind_sorted plain_sorted entry_sorted ha1 ?_
  unfold Builtin.«sorted»
  refine wpAny_bind (m := checkCount "sorted" 1 1 _) (wpAny_pure ?_)
  refine wpAny_bind (col _ fun its s2 I2 rv => ?_)
  have hl := rv.length
  refine wpAny_bind (wpAny_newList ?_ (by rw [sizeLine_eq]; omega))
  have hoL : (s2.heap.push (seqObj "list" its.toArray 0)).get? s2.heap.objs.size = some (seqObj "list" its.toArray 0) := Heap.get?_push_size _ rfl
  refine wpAny_bind (wpAny_holding (wpAny_call_entry_kw slot_list_sort ⟨_, hoL, rfl⟩ entry_list_sort ?body (ha2 _)))
  case body =>
    show wpAny (model X.prog X.w) X.A.in1.in1 (Builtin.«list.sort» ⟨[.ref s2.heap.objs.size], kw⟩) _ _ _
    rw [ht]
    have s1 := Heap.SameBut.update (s2.heap.push (seqObj "list" its.toArray 0)) s2.heap.objs.size (Obj.mapSeq fun _ => (#[] : Array Value))
    obtain ⟨e1, ho1⟩ : ∃ e1, ((s2.heap.push (seqObj "list" its.toArray 0)).update s2.heap.objs.size (Obj.mapSeq fun _ => (#[] : Array Value))).get? s2.heap.objs.size = some (seqObj "list" #[] e1) := ⟨_, get?_update_seq hoL fun _ => #[]⟩
    have hsz1 : ((s2.heap.push (seqObj "list" its.toArray 0)).update s2.heap.objs.size (Obj.mapSeq fun _ => (#[] : Array Value))).objs.size = s2.heap.objs.size + 1 := by rw [Heap.size_update, size_push']
    have keep1 : ∀ b o, s2.heap.get? b = some o->((s2.heap.push (seqObj "list" its.toArray 0)).update s2.heap.objs.size (Obj.mapSeq fun _ => (#[] : Array Value))).get? b = some o := fun b o e => (s1.2 b (Nat.ne_of_lt (Heap.lt_size e))).trans (Heap.get?_push_of_some _ e)
    unfold ksk_tree
    refine wpAny_bind (listItems_at hoL rfl ?_)
    refine wpAny_bind (listUpdate_at hoL rfl ?_ (by rw [List.size_toArray, sizeLine_eq]; omega) (Nat.zero_le _))
    refine wpAny_bind (seqEpoch_at ho1 rfl ?_)
    refine wpAny_bind (wpAny_newTuple ?_ (by show its.length ≤ _; rw [sizeLine_eq]; omega))
    refine wpAny_bind (wpAny_newList ?_ (Nat.zero_le _))
    refine wpAny_holding ?_
    generalize hh1 : (s2.heap.push (seqObj "list" its.toArray 0)).update s2.heap.objs.size (Obj.mapSeq fun _ => (#[] : Array Value)) = h1 at ho1 hsz1 keep1 ⊢
    have hkS : (h1.push (seqObj "tuple" its.toArray 0)).objs.size = s2.heap.objs.size + 2 := by rw [size_push', hsz1]
    have keep3 : ∀ b o, h1.get? b = some o->((h1.push (seqObj "tuple" its.toArray 0)).push (seqObj "list" #[] 0)).get? b = some o := fun b o e => Heap.get?_push_of_some _ (Heap.get?_push_of_some _ e)
    have hk3 : ((h1.push (seqObj "tuple" its.toArray 0)).push (seqObj "list" #[] 0)).get? (h1.push (seqObj "tuple" its.toArray 0)).objs.size = some (seqObj "list" #[] 0) := Heap.get?_push_size _ rfl
    generalize hkk : (h1.push (seqObj "tuple" its.toArray 0)).objs.size = kS at hkS hk3 ⊢
    have hD3 := keep3 _ _ ho1
    generalize ((h1.push (seqObj "tuple" its.toArray 0)).push (seqObj "list" #[] 0)) = h3 at keep3 hk3 hD3 ⊢
    have I3 : Inv X pins σ H { s2 with heap := h3, toks := s2.toks } := I2.kept fun b o e => keep3 b o (keep1 b o e)
    have fD : FpOk X pins H s2.heap.objs.size := I2.fpOk (Nat.le_refl _) (I2.hok.fresh (Nat.le_refl _))
    have fk : FpOk X pins H kS := I2.fpOk (by omega) (I2.hok.fresh (by omega))
    generalize s2.heap.objs.size = D at fD hD3 hkS ho1 hsz1 ⊢
    have hDk : kS ≠ D := by omega
    have ndc : ∀ (xs : Array Value) (n : Nat) (v : Option Value), (seqObj "list" xs n).data ≠ .cell v := fun xs n v z => by cases z
    unfold ksk_rest
    refine wpAny_bind (wpAny_rule ?_)
    first
      | rw [List.forIn_toArray]
      | (rw [← Array.forIn_toList]; simp only [List.toList_toArray])
      | rw [← Array.forIn_toList]
    refine wpAny_bind (ksk_fold (fun i s' => ∃ kA e H1, Inv X ((kS, seqObj "list" kA e) :: (D, seqObj "list" #[] e1) :: pins) σ H1 s'/\Same H H1/\kA.size = i/\∀ (j : Nat) (v : Value) (y : V), kA.toList[j]? = some v->xs[j]? = some y->∃ L, v = .ref L/\H1 L = some (.lst (zV (kl y)))) its 0 _
      ⟨#[], 0, H, ?_, Same.refl _, rfl, fun j v y h => by simp at h⟩ ?step ?done)
    · have J : Inv X ((D, seqObj "list" #[] e1) :: pins) σ H { s2 with heap := h3, toks := s2.toks } := fD.pin I3 hD3 (ndc _ _) fun p hp => by
        rcases List.mem_cons.mp hp with rfl | hp
        · exact .inl rfl
        · exact .inr hp
      have fk' : FpOk X ((D, seqObj "list" #[] e1) :: pins) H kS := ⟨fk.1, fk.2.1, fk.2.2.1, fk.2.2.2.1, fk.2.2.2.2.1, fun p hp => by
        rcases List.mem_append.mp hp with hp | hp
        · exact fk.2.2.2.2.2 p (List.mem_append_left _ hp)
        · rcases List.mem_cons.mp hp with rfl | hp
          · exact hDk.symm
          · exact fk.2.2.2.2.2 p (List.mem_append_right _ hp)⟩
      exact fk'.pin J hk3 (ndc _ _) fun p hp => by
        rcases List.mem_cons.mp hp with rfl | hp
        · exact .inl rfl
        · exact .inr hp
    case step =>
      rintro j x s' hx ⟨kA, e, H1, J, sm, hk, hkv⟩
      simp only [Nat.zero_add] at hk ⊢
      have hj : j < its.length := (List.getElem?_eq_some_iff.mp hx).1
      obtain ⟨y, hy⟩ : ∃ y, xs[j]? = some y := ⟨_, List.getElem?_eq_getElem (by omega)⟩
      obtain ⟨u', hu', r⟩ := rv.get hy
      rw [hx] at hu'; cases hu'
      refine wpAny_bind (wpAny_attempt (wpAny_mono (turn y x s' _ H1 (List.mem_of_getElem? hy) r J sm (fun p hp => .tail _ (.tail _ hp))) (fun v s'' he => ?_) fun _ _ hF => hF.elim))
      obtain ⟨vv, H', J2, rvv, Lk, rfl, sm2, hLk⟩ := he
      cases rvv
      try dsimp only
      have pk := J2.pin (kS, seqObj "list" kA e) (List.mem_append_right _ (.head _))
      have nk := pk.1
      have fkn : H' kS = none := pk.2.1
      have s1 := Heap.SameBut.update s''.heap kS (Obj.mapSeq (·.push (.ref Lk)))
      obtain ⟨c2, hc2⟩ : ∃ c2, (s''.heap.update kS (Obj.mapSeq (·.push (.ref Lk)))).get? kS = some (seqObj "list" (kA.push (.ref Lk)) c2) := ⟨_, get?_update_seq nk (·.push (.ref Lk))⟩
      have ea : (kA.push (Value.ref Lk)).toList = kA.toList ++ [Value.ref Lk] := by simp
      refine wpAny_bind (listUpdate_at nk rfl ?_ (by rw [sizeLine_eq]; omega) (Nat.le_trans (Nat.le_of_eq (Array.size_push ..)) (by rw [sizeLine_eq]; omega)))
      refine wpAny_pure ⟨rfl, kA.push (.ref Lk), c2, H', ?_, sm.trans sm2, by rw [Array.size_push, hk], fun q v z h1 h2 => ?_⟩
      · have J3 : Inv X ((D, seqObj "list" #[] e1) :: pins) σ H' s'' := J2.pins_of fun p hp => J2.pin p (List.mem_append_right _ (.tail _ hp))
        have fk' : FpOk X ((D, seqObj "list" #[] e1) :: pins) H' kS := ⟨fkn, fk.2.1, fk.2.2.1, fk.2.2.2.1, fk.2.2.2.2.1, fun p hp => by
          rcases List.mem_append.mp hp with hp | hp
          · exact fk.2.2.2.2.2 p (List.mem_append_left _ hp)
          · rcases List.mem_cons.mp hp with rfl | hp
            · exact hDk.symm
            · exact fk.2.2.2.2.2 p (List.mem_append_right _ hp)⟩
        have J4 : Inv X ((D, seqObj "list" #[] e1) :: pins) σ H' { s'' with heap := s''.heap.update kS (Obj.mapSeq (·.push (.ref Lk))), toks := s''.toks } := J3.turned (it := kS) (fun b o hb e => (s1.2 b hb).trans e) fkn fk.2.1 fk.2.2.2.1 fk.2.2.2.2.1 fk'.2.2.2.2.2
        exact fk'.pin J4 hc2 (ndc _ _) fun p hp => by
          rcases List.mem_cons.mp hp with rfl | hp
          · exact .inl rfl
          · exact .inr hp
      · rw [ea] at h1
        by_cases hq : q < kA.toList.length
        · rw [List.getElem?_append_left hq] at h1
          obtain ⟨L, e1, e2⟩ := hkv q v z h1 h2
          exact ⟨L, e1, sm2 _ _ e2⟩
        · rw [List.getElem?_append_right (by omega)] at h1
          have hz0 : q - kA.toList.length = 0 := by
            have := (List.getElem?_eq_some_iff.mp h1).1
            simp at this; omega
          rw [hz0] at h1
          have e1 : Value.ref Lk = v := by simpa using h1
          have e2 : q = j := by rw [Array.length_toList] at hz0 hq; omega
          rw [e2, hy] at h2
          cases h2
          exact ⟨Lk, e1.symm, hLk⟩
    case done =>
      rintro s' ⟨kA, e, H1, J, sm, hk, hkv⟩
      have hks : kA.size = its.length := by rw [hk]; omega
      have pk := J.pin (kS, seqObj "list" kA e) (List.mem_append_right _ (.head _))
      have pD := J.pin (D, seqObj "list" #[] e1) (List.mem_append_right _ (.tail _ (.head _)))
      have nk := pk.1
      have nD := pD.1
      have fk1 : FpOk X pins H1 kS := ⟨pk.2.1, fk.2⟩
      have fD1 : FpOk X pins H1 D := ⟨pD.2.1, fD.2⟩
      have J0 : Inv X pins σ H1 s' := J.pins_of fun p hp => J.pin p (List.mem_append_right _ (.tail _ (.tail _ hp)))
      obtain ⟨m, F⟩ := J.fr
      try dsimp only
      refine wpAny_bind (listItems_at nk rfl ?_)
      have bk := FpOk.base J0 fk1
      have bD := FpOk.base J0 fD1
      have at_ : ∀ (j : Nat) (v : Value), kA.toList[j]? = some v->∃ y L, xs[j]? = some y/\v = .ref L/\H1 L = some (.lst (zV (kl y))) := fun j v hv => by
        have hj := (List.getElem?_eq_some_iff.mp hv).1
        rw [Array.length_toList] at hj
        obtain ⟨y, hy⟩ : ∃ y, xs[j]? = some y := ⟨_, List.getElem?_eq_getElem (by omega)⟩
        obtain ⟨L, e1, e2⟩ := hkv j v y hv hy
        exact ⟨y, L, hy, e1, e2⟩
      have lfe : ∀ (L : Addr) (l : List Int), H1 L = some (.lst (zV l))->lstOf H1 (refOf (.ref L)) = l := fun L l e => by
        unfold lstOf refOf
        simp only [e]
        exact zOf_zV l
      have em : kA.toList.map (fun v => enc 12 (lstOf H1 (refOf v))) = xs.map fun y => enc 12 (kl y) := by
        apply List.ext_getElem?
        intro j
        rw [List.getElem?_map, List.getElem?_map]
        cases hv : kA.toList[j]? with
        | none =>
          have : xs[j]? = none := by
            rw [List.getElem?_eq_none_iff] at hv ⊢
            rw [Array.length_toList] at hv
            omega
          rw [this]; rfl
        | some v =>
          obtain ⟨y, L, hy, rfl, hL⟩ := at_ j v hv
          rw [hy]
          show some (enc 12 (lstOf H1 (refOf (Value.ref L)))) = some (enc 12 (kl y))
          rw [lfe L _ hL]
      refine endL (lf := fun v => lstOf H1 (refOf v)) (e := e) (g0 := X.base) (L := X.env.locals) (mm := m) (ws := (allNews X.base s'.heap X.env.locals).filter fun p => decide (p.1 ≠ kS) && decide (p.1 ≠ D)) (by show X.A.units + 1 + 1 < cLine; omega) F (fun p hp => ?_) hDk (fun p hp => ?_) (fun p hp => ?_) hks (fun v hv => ?_) (by omega) fun h'' tk out c F' N' k' => ?_
      · rcases List.mem_append.mp hp with hp | hp
        · exact news_all p (List.mem_filter.mp hp).1
        · rcases List.mem_cons.mp hp with rfl | hp
          · exact ⟨nk, fk.2.1, bk⟩
          · rw [List.mem_singleton.mp hp]
            exact ⟨nD, fD.2.1, bD⟩
      · have := (List.mem_filter.mp hp).2
        simp at this
        exact this.1
      · have := (List.mem_filter.mp hp).2
        simp at this
        exact this.2
      · obtain ⟨j, hj⟩ := List.mem_iff_getElem?.mp hv
        obtain ⟨y, L, hy, rfl, hL⟩ := at_ j v hj
        rw [lfe L _ hL]
        obtain ⟨its', ri, ⟨o, n', ho, hc, hd, hda⟩, _⟩ := J0.list (SqL.of hL)
        refine ⟨?_, hsh y (List.mem_of_getElem? hy)⟩
        obtain ⟨oc, od, oda, osl⟩ := o
        simp only at hc hd hda
        subst hc hd hda
        exact ⟨L, its'.toArray, n', none, osl, rfl, ho, by rw [List.toList_toArray]; exact intsAre_of ri⟩
      · rw [em] at k'
        obtain ⟨ys, pm, rv2, pw⟩ := sort_out rv k'
        have hD := (N' (D, seqObj "list" out c) (.head _)).1
        have fin : Inv X pins σ (upd H1 D (.lst ys)) { s' with heap := h'', toks := tk } := J0.sorted fD1 fk1 hDk (fun b o h1 h2 h3 eb => ?_) (fun m' hm' => ?_) rv2 (by rw [pm.length_eq]; exact Nat.le_of_lt (Nat.lt_of_lt_of_le h64 (by decide))) hD
        · exact ⟨_, rfl, wpAny_pure ⟨_, rfl, .ref D, _, fin, rfl, h D ys H1 sm pD.2.1 pm (pw.imp fun {y z} q => by simpa using q)⟩⟩
        · cases q : X.base.get? b with
          | some u =>
            have := J0.bk b u q
            rw [eb] at this; cases this
            exact F'.keep b _ q
          | none => exact (N' (b, o) (.tail _ (List.mem_filter.mpr ⟨mem_allNews h3 q eb, by simp [h1, h2]⟩))).1
        · have e : m' = m := hm'.eq_nsMap.trans F.ns.eq_nsMap.symm
          rw [e]; exact F'.ns
end
section
variable {X : Cx} {pins : List (Addr × Obj)} {σ : St} {H : Hp} {s : Shared}
structure LamNamesR (X : Cx) (scope : Scope) (x : Str) (M1 : List Str) : Prop where
  free : ∀ y ∈ scope.names, y.1 = x ∨ y.2 = .free ∨ y.2 = .globalImplicit
  cap : ∀ y ∈ scope.names, y.2 = .free->X.env.kindOf y.1 = some .cell ∨ X.env.kindOf y.1 = some .free
  nx : ∀ y ∈ scope.names, y.2 = .free->y.1 ≠ x
  nm : x ∉ M1
  len : M1.length = X.N.length
  same : ∀ (i : Nat) (y : Str), M1[i]? = some y->X.N[i]? = some y ∨ scope.names.lookup y = none
theorem key_callR {A : Around} {k : Nat} {q x : Str} {M1 : List Str} {params : Arguments} {body : Expr} {scope : Scope} {clos : List (Str × Addr)} {pm ctv : Value} {f c' : Addr} {v : V} {u : Value} {tb : TE} {Qv : VK} {E : Value->Shared->Prop} (I : Inv X pins σ H s) (e0 : Env0 X.prog X.w X.K X.mg X.base A X.stack s H) (hr : Room (k + 1) A) (hpin : (f, kla_obj "<lambda>" q params body scope clos pm c' ctv) ∈ pins) (hc' : H c' = some (.cod q)) (S : LamScope scope x) (N : LamNamesR X scope x M1) (hcl : ∀ y c, clos.lookup y = some c->X.env.cells.lookup y = some c) (hcl2 : ∀ y, (y, NameKind.free) ∈ scope.names->∃ c, clos.lookup y = some c) (hbind : bindArgs (kla_fn "<lambda>" q params body scope clos pm (.ref c') ctv) ⟨[u], []⟩ = pure [(x, u)]) (rv : RelV v u) (ht : PE (cxLam X.prog X.w X.K X.mg X.base (M1 ++ [x]) q scope f (.ref c') clos A X.stack s H) body tb) (hq : tb (σ ++ [some v]) H Qv) : wpAny (model X.prog X.w) A (call (.ref f) [u]) (EP X pins σ Qv) E s := by
  have lenσ := I.len
  have lk : ∀ {y : Str} {kd : NameKind}, scope.names.lookup y = some kd->(y, kd) ∈ scope.names := fun h => PySem.mem_of_lookup h
  refine wpAny_call (codeAny_mono (lam_run (M := M1 ++ [x]) (σ' := σ ++ [some v]) S e0 hr (I.pin _ (List.mem_append_right _ hpin)).1 (show ObjOk X.prog X.w H s.heap c' (.cod q) from I.hok c' _ hc') hbind
      (fun y c h => ⟨I.cell y c (hcl y c h), I.freeC y c (hcl y c h)⟩) (fun y z c h1 h2 => I.ok.inj y z c (hcl y c h1) (hcl z c h2)) (fun y h => hcl2 y (lk h)) (fun i y vv h1 h2 h3 => ?_) (by rw [List.length_append, List.length_append, lenσ, N.len]; rfl) ht hq) fun r s' hq => ?_)
  · by_cases hi : i < M1.length
    · rw [List.getElem?_append_left hi] at h1
      rw [List.getElem?_append_left (by rw [lenσ, ← N.len]; exact hi)] at h2
      rcases N.same i y h1 with e | e
      · by_cases hyx : y = x
        · exfalso
          subst hyx
          exact N.nm (List.mem_of_getElem? h1)
        · have hlk : scope.names.lookup y = some .free := by
            rcases h3 with h | h | h
            · rcases (N.free _ (lk h)).resolve_left hyx with z | z <;> cases z
            · exact absurd rfl (S.nocell _ (lk h))
            · exact h
          have hm := lk hlk
          have kc := N.cap _ hm rfl
          obtain ⟨m, hn, hl⟩ := I.loc
          have hv : Vis X.env.scope y := kc.elim (fun z => .inr (.inl z)) (fun z => .inr (.inr z))
          obtain ⟨uu, ru, lo⟩ := hl i y vv e h2 hv
          rcases lo with ⟨z, _⟩ | ⟨_, c, ec, ic⟩
          · rcases kc with kc | kc
            · rw [show X.env.kindOf y = some .cell from kc] at z; cases z
            · rw [show X.env.kindOf y = some .free from kc] at z; cases z
          · obtain ⟨c2, e2⟩ := hcl2 y hm
            have := hcl y c2 e2
            rw [ec] at this
            cases this
            exact .inr ⟨hlk, c, uu, e2, ic, ru⟩
      · rcases h3 with h | h | h <;> rw [e] at h <;> cases h
    · rw [List.getElem?_append_right (by omega)] at h1
      rw [List.getElem?_append_right (by rw [lenσ, ← N.len]; omega), lenσ, ← N.len] at h2
      have z : i - M1.length = 0 := by
        have := (List.getElem?_eq_some_iff.mp h1).1
        simp at this; omega
      rw [z] at h1 h2
      simp at h1 h2
      subst h1; subst h2
      exact .inl ⟨rfl, rv⟩
  · cases r with
    | error e => exact False.elim hq
    | ok fl =>
      cases fl with
      | ret u => exact I.after hq
      | next => exact False.elim hq
      | brk => exact False.elim hq
      | cont => exact False.elim hq
def lamBR (lam sn : List (Str × NameKind)) (N M1 : List Str) (x : Str) : Bool :=
  (lam.all fun y => decide (y.1 = x) || decide (y.2 = .globalImplicit) || (decide (y.2 = .free) && match sn.lookup y.1 with
    | some .cell => true
    | some .free => true
    | _ => false)) && ((lam.all fun y => !(decide (y.2 = .free) && decide (y.1 = x))) && (!decide (x ∈ M1) && (decide (M1.length = N.length) && (List.range M1.length).all fun i => match M1[i]?, N[i]? with
    | some y, some z => decide (y = z) || (lam.lookup y).isNone
    | _, _ => false)))
theorem lam_namesR {X : Cx} {scope : Scope} {x : Str} {M1 N : List Str} {sn : List (Str × NameKind)} (hsn : X.env.scope.names = sn) (hN : X.N = N) (h : lamBR scope.names sn N M1 x = true) : LamNamesR X scope x M1 := by
  subst hN hsn
  unfold lamBR at h
  simp only [Bool.and_eq_true, List.all_eq_true] at h
  obtain ⟨h1, h2, h3, h4, h5⟩ := h
  refine ⟨fun y hy => ?_, fun y hy hf => ?_, fun y hy hf e => ?_, fun z => ?_, of_decide_eq_true h4, fun i y e => ?_⟩
  · have := h1 y hy
    simp only [Bool.or_eq_true, Bool.and_eq_true, decide_eq_true_eq] at this
    rcases this with (h | h) | h
    · exact .inl h
    · exact .inr (.inr h)
    · exact .inr (.inl h.1)
  · have a := h1 y hy
    have b := h2 y hy
    rw [decide_eq_true hf, Bool.true_and, Bool.not_eq_true'] at b
    rw [b, show decide (y.2 = NameKind.globalImplicit) = false from decide_eq_false (by rw [hf]; decide), Bool.false_or, Bool.false_or, decide_eq_true hf, Bool.true_and] at a
    show X.env.scope.names.lookup y.1 = _ ∨ X.env.scope.names.lookup y.1 = _
    split at a
    · rename_i e; exact .inl e
    · rename_i e; exact .inr e
    · cases a
  · have b := h2 y hy
    rw [decide_eq_true hf, decide_eq_true e] at b
    cases b
  · rw [decide_eq_true z] at h3; cases h3
  · have hi : i < M1.length := (List.getElem?_eq_some_iff.mp e).1
    have := h5 i (List.mem_range.mpr hi)
    rw [e] at this
    split at this
    · rename_i e1 e2
      cases e1
      simp only [Bool.or_eq_true, decide_eq_true_eq] at this
      rcases this with z | z
      · rw [e2, z]; exact .inl rfl
      · exact .inr (Option.isNone_iff_eq_none.mp z)
    · cases this
structure LamOkR (k : Nat) (X : Cx) (params : Arguments) (body : Expr) (scope : Scope) (q x : Str) (M1 : List Str) (P : Addr) (tb : TE) : Prop where
  tab : Tab X.K X.env.code P
  qual : X.env.qual ++ "<lambda>" = q
  sc : LamScope scope x
  nm : LamNamesR X scope x M1
  dflt : defaultsOf params X.env = ([], [])
  bind : ∀ clos pm c' ctv u, bindArgs (kla_fn "<lambda>" q params body scope clos pm (.ref c') ctv) ⟨[u], []⟩ = pure [(x, u)]
  body : ∀ f c' clos A outer s H, Room k (cxLam X.prog X.w X.K X.mg X.base (M1 ++ [x]) q scope f (.ref c') clos A outer s H).A->PE (cxLam X.prog X.w X.K X.mg X.base (M1 ++ [x]) q scope f (.ref c') clos A outer s H) body tb
theorem lam_okR {k : Nat} {X : Cx} {params : Arguments} {body : Expr} {scope : Scope} {q : Str} {P : Addr} {tb : TE} (M1 : List Str) (x : Str) (T : Tab X.K X.env.code P) (sn : List (Str × NameKind)) (N : List Str) (hb : ∀ f c' clos A outer s H, Room k (cxLam X.prog X.w X.K X.mg X.base (M1 ++ [x]) q scope f (.ref c') clos A outer s H).A->PE (cxLam X.prog X.w X.K X.mg X.base (M1 ++ [x]) q scope f (.ref c') clos A outer s H) body tb) (hsn : X.env.scope.names = sn := by rfl) (hN : X.N = N := by rfl) (hB : lamBR scope.names sn N M1 x = true := by decide +kernel) (hq : X.env.qual ++ "<lambda>" = q := by rfl)
    (hsc : LamScope scope x := by exact ⟨rfl, rfl, rfl, by decide +kernel, rfl⟩) (hd : defaultsOf params X.env = ([], []) := by rfl)
    (hbi : ∀ clos pm c' ctv u, bindArgs (kla_fn "<lambda>" q params body scope clos pm (.ref c') ctv) ⟨[u], []⟩ = pure [(x, u)] := by intros; rfl) : LamOkR k X params body scope q x M1 P tb :=
  ⟨T, hq, hsc, lam_namesR hsn hN hB, hd, hbi, hb⟩
theorem sort_lamL {params : Arguments} {body : Expr} {scope : Scope} {lpos : Pos} {q x : Str} {M1 : List Str} {P : Addr} {tb : TE} {qs : Array Value} {k : Nat} {a : Value} {xs : List V} {kl : V->List Int} {kwf : Value->List (Str × Value)} {Q : VK} {E : Value->Shared->Prop} {R : Value->Shared->Prop} (L : LamOkR k X params body scope q x M1 P tb) (I : Inv X pins σ H s) (hr : Room (k + 3) X.A) (hP : H P = some (.tbl qs)) (hq : qOf qs = q) (h64 : xs.length < 1000) (hsh : ∀ y ∈ xs, Short 12 (kl y)) (col : ∀ (s1 : Shared) (H1 : Hp) (pins1 : List (Addr × Obj)), Inv X pins1 σ H1 s1->Same H H1->(∀ p ∈ pins, p ∈ pins1)->∀ Q' : List Value->Shared->Prop, (∀ (its : List Value) (s2 : Shared), Inv X pins1 σ H1 s2->Vals xs its->Q' its s2)->wpAny (model X.prog X.w) X.A.in1 (collect a) Q' E s1) (ha1 : ∀ f, argsOk "sorted" ⟨[a], kwf f⟩) (ha2 : ∀ f x, argsOk "list.sort" ⟨[.ref x], kwf f⟩) (ht : ∀ f x, Builtin.«list.sort» ⟨[.ref x], kwf (.ref f)⟩ = ksk_tree x (.ref f) false) (key : ∀ H1, Same H H1->∀ y ∈ xs, ∀ Qv : VK, (∀ L H2, Same H1 H2->H2 L = some (.lst (zV (kl y)))->Qv (.ref L) H2)->tb (σ ++ [some y]) H1 Qv) (done : ∀ (D : Addr) (ys : List V) (H1 : Hp), Same H H1->H1 D = none->ys.Perm xs->ys.Pairwise (fun y z => enc 12 (kl y) ≤ enc 12 (kl z))->Q (.ref D) (upd H1 D (.lst ys))) (go : ∀ f s1, wpAny (model X.prog X.w) X.A (call (.builtin "sorted") [a] (kwf (.ref f))) (EP X pins σ Q) E s1->R (.ref f) s1) : wpAny (model X.prog X.w) X.A (eval (.Lambda params body scope lpos) X.env) R E s := by
  obtain ⟨c, ec, C⟩ := L.tab.ex
  obtain ⟨clos, hcl, h1, h2⟩ := clos_of (scope := scope) (env := X.env) fun y hy hk => I.ok.has y.1 (L.nm.cap y hy hk)
  subst hq
  refine lam_make I hP L.qual ec (C _ I.mod.kin) L.dflt hcl fun f c' ctv s1 H1 I1 sm ho hf hge hlt hc' => go f s1 ?_
  have ff : FpOk X pins H1 f := I.fpOk hge hf
  have I2 : Inv X ((f, kla_obj "<lambda>" (qOf qs) params body scope clos ((X.mg "__name__").getD .none) c' ctv) :: pins) σ H1 s1 := ff.pin I1 ho (fun v z => by cases z) fun p hp => by
    rcases List.mem_cons.mp hp with rfl | hp
    · exact .inl rfl
    · exact .inr hp
  refine wpAny_mono (sort_keyL (Q := Q) (kl := kl) (f := .ref f) I2 h64 hsh (by have := hr.units; omega) (col s1 H1 _ I2 sm (fun p hp => .tail _ hp)) (ha1 _) (ha2 _) (ht f) (fun y u s' pins' H2 hy ry J sm2 sub => ?_) (fun D ys H2 sm2 hD pm pw => done D ys H2 (sm.trans sm2) hD pm pw)) (fun v s' ⟨vv, H', J, r, qq⟩ => ⟨vv, H', J.pins_of fun p hp => J.pin p (List.mem_append_right _ (.tail _ hp)), r, qq⟩) fun _ _ z => z
  · exact key_callR J J.env0.in1.in1 hr.in1.in1 (sub _ (.head _)) (sm2 _ _ hc') L.sc L.nm h1 h2 (L.bind _ _ _ _ _) ry (L.body _ _ _ _ _ _ _ (hr.in1.in1.deeper _)) (key H2 (sm.trans sm2) y hy _ fun Lk H3 s3 hL => ⟨Lk, rfl, s3, hL⟩)
def tSortKeyL (K : PySem.W.Frag) (P : Addr) (q : Str) (te tb : TE) : TE := fun σ H Q => te σ H fun v H1 => ∃ (a : Addr) (xs : List V) (qs : Array Value) (kl : V->List Int), v = .ref a/\SqL K H1 a xs/\xs.length < 1000/\(∀ y ∈ xs, Short 12 (kl y))/\H1 P = some (.tbl qs)/\qOf qs = q ∧
  (∀ H2, Same H1 H2->∀ y ∈ xs, ∀ Qv : VK, (∀ L H3, Same H2 H3->H3 L = some (.lst (zV (kl y)))->Qv (.ref L) H3)->tb (σ ++ [some y]) H2 Qv) ∧
  ∀ (D : Addr) (ys : List V) (H2 : Hp), Same H1 H2->H2 D = none->ys.Perm xs->ys.Pairwise (fun y z => enc 12 (kl y) ≤ enc 12 (kl z))->Q (.ref D) (upd H2 D (.lst ys))
theorem pe_sortKeyL (K : PySem.W.Frag) {e : Expr} {te tb : TE} {params : Arguments} {body : Expr} {scope : Scope} {lpos kpos p pos : Pos} {q x : Str} {M1 : List Str} {P : Addr} {k : Nat} (L : LamOkR k X params body scope q x M1 P tb) (hr : Room (k + 3) X.A) (hg : Gl X "sorted") (hm : X.mg "sorted" = none) (ha : PE X e te) (hK : X.K = K := by rfl)
    (he : starEach [e] X.env = [(false, eval e X.env)] := by rfl) :
    PE X (.Call (.Name "sorted" p) [e] [⟨some "key", .Lambda params body scope lpos, kpos⟩] pos) (tSortKeyL K P q te tb) := by
  subst hK
  intro pins s σ H Q I h
  refine wpAny_Call_Name_kw (ld_blt I hg hm boot_sorted ?_ (by decide) (by decide))
  refine callWith_builtin_kwB (by rw [he]; rfl) rfl (evalArgs_kw2 rfl ?_ (by rw [he]; rfl))
  rw [he]
  refine Calls.spliced_cons (thn (ha pins s σ H _ I h) fun v s1 ⟨xv, H1, I1, r1, q1⟩ => Calls.spliced_nil ?_)
  obtain ⟨a, xs, qs, kl, rfl, hl, h64, hsh, hP, hq, key, done⟩ := q1
  cases r1
  refine kwAll_cons (sort_lamL (kl := kl) (xs := xs) (a := .ref a) (kwf := fun f => [(Str.ofString "key", f)]) (Q := Q) L I1 hr hP hq h64 hsh (fun s2 H2 pins2 J sm _ Q' hQ' => ?_) (fun f => ksk_s1 _ _) (fun f x => ksk_l1 _ _) (fun f x => ksk_t1 _ _) key done fun f s2 h2 => ?_)
  · obtain ⟨its, rv, pl, hz⟩ := J.list (s := s2) (sq_same hl sm)
    refine collect_list pl.isList (hQ' its _ ?_ rv) (by rw [← rv.length]; exact hz)
    refine J.kept (t' := s2.toks) fun b o e => ?_
    have s1' := Heap.SameBut.update (s2.heap.push (seqObj "list" #[] 0)) s2.heap.objs.size (Obj.mapSeq (· ++ its.toArray))
    exact (s1'.2 b (Nat.ne_of_lt (Heap.lt_size e))).trans (Heap.get?_push_of_some _ e)
  · exact kwAll_nil h2
end
end L2
namespace L2
open PySem PySem.Spec PyProof.Rows
section
variable {prog : Program} {w : World} {A : Around} {E : Value->Shared->Prop} {s : Shared} {L : Bool} {a : Addr}
end
section
variable {prog : Program} {w : World} {A : Around} {R : Result->Shared->Prop} {I : Addr} {fp wr : List Addr} {G : Array GenState->Array GenState->Prop} {n : Nat} {P : Nat->Value->Prop} {St : Nat->Shared->Prop} {L : Bool}
end
section
variable {prog : Program} {w : World} {A : Around} {E : Value->Shared->Prop} {s : Shared}
end
end L2
namespace L2
open PySem PySem.Spec PyProof.Rows
section
variable {prog : Program} {w : World} {A : Around} {E : Value->Shared->Prop} {s : Shared}
end
end L2
namespace L2
open PySem PySem.Spec PyProof.Rows
section
variable {X : Cx} {pins : List (Addr × Obj)} {σ : St} {H : Hp} {s : Shared}
end
section
variable {X : Cx}
end
end L2
namespace L2
open PySem PySem.Spec PyProof.Rows Tw
open PySem.W (tabObj CodeHd kla_obj kla_fn envX)
section
variable {X : Cx} {pins : List (Addr × Obj)} {σ : St} {H : Hp} {s : Shared}
end
end L2
namespace L2
open PySem PySem.Spec PyProof.Rows Tw
open PySem.W (tabObj CodeHd kla_obj kla_fn envX)
section
variable {X : Cx} {pins : List (Addr × Obj)} {σ : St} {H : Hp} {s : Shared}
end
end L2
namespace L2
open PySem PySem.Spec PyProof.Rows
section
variable {X : Cx} {tg : Expr}
end
end L2
namespace Tw
open PySem L2
def top (i : Nat) : Stmt := PySem.Challenge.pw_treewells_k72_whole_sweeps.main.body.getD i (.Pass ⟨0, 0, 0, 0⟩)
abbrev sWhole : Stmt := top 5
abbrev sPlace : Stmt := top 6
abbrev sRoad : Stmt := top 7
abbrev sIsTree : Stmt := top 8
abbrev sCheck : Stmt := top 9
abbrev sNear : Stmt := top 10
abbrev sSteps : Stmt := top 11
abbrev sWayB : Stmt := top 12
abbrev sLeaves : Stmt := top 13
abbrev sSweeps : Stmt := top 15
abbrev sLWhole : Stmt := top 17
abbrev sCell : Stmt := top 18
abbrev sMixed : Stmt := top 19
abbrev sNames : Stmt := top 20
abbrev sNumbers : Stmt := top 21
abbrev sTree : Stmt := top 22
abbrev sCopy : Stmt := top 23
abbrev sOn : Stmt := top 24
abbrev sGone : Stmt := top 25
abbrev sLaw : Stmt := top 26
end Tw
namespace Tw
open PySem L2
structure Bi (K : PySem.W.Frag) (mg : Str->Option Value) : Prop where
  isinstance : mg "isinstance" = none
  int : mg "int" = none
  bool : mg "bool" = none
  list : mg "list" = none
  len : mg "len" = none
  all : mg "all" = none
  sum : mg "sum" = none
  range : mg "range" = none
  max : mg "max" = none
  min : mg "min" = none
  set : mg "set" = none
  sorted : mg "sorted" = none
  zip : mg "zip" = none
  any : mg "any" = none
  dict : mg "dict" = none
  reversed : mg "reversed" = none
  tuple : mg "tuple" = none
  ii : PySem.W.kitOne K (.type "int") (.type "int") = some true
  ib : PySem.W.kitOne K (.type "int") (.type "bool") = some false
  ll : PySem.W.kitOne K (.type "list") (.type "list") = some true
  bb : PySem.W.kitOne K (.type "bool") (.type "bool") = some true
  tt : PySem.W.kitOne K (.type "tuple") (.type "tuple") = some true
structure Def (K : PySem.W.Frag) (mg : Str->Option Value) (x : Str) (st : Stmt) (ps : List Str) (f : Addr) (fd : FuncData) : Prop where
  fn : Fun K x x st f fd
  bn : Binds K fd ps []
  mg : mg x = some (.ref f)
section
variable {P : Program} {w : World} {K : PySem.W.Frag} {mg : Str->Option Value} {base : Heap}
def spWhole : Sp := fun vs H Q _ => ∃ i : Int, vs = [.int i]/\Q (.bl true) H
theorem scWhole : FnScope ["value"] ["value"] (defScope sWhole) := ⟨rfl, rfl, rfl, by decide +kernel, rfl, by decide +kernel, by decide +kernel⟩
theorem ok_whole {f : Addr} {fd : FuncData} (F : Def K mg "is_whole" sWhole ["value"] f fd) (B : Bi K mg) : FnOk P w K mg base CX0 1 f fd ["value"] spWhole := by
  refine F.fn.ok scWhole (fun vs H Q E h => ?_) (fun cdv A outer s H vs Q E hr h => ?_)
  · obtain ⟨i, rfl, _⟩ := h
    rfl
  · obtain ⟨i, rfl, k⟩ := h
    refine ⟨_, pss_one (ps_ret (pe_and (pe_callB call_isinst (by rfl) B.isinstance PyProof.Rows.boot_isinstance (pa_cons (pv 0) (pa_cons (pe_bltn (v := .ty "int") rfl B.int PyProof.Rows.boot_int rfl) pa_nil)))
      (pe_one (pe_not (pe_callB call_isinst (by rfl) B.isinstance PyProof.Rows.boot_isinstance (pa_cons (pv 0) (pa_cons (pe_bltn (v := .ty "bool") rfl B.bool PyProof.Rows.boot_bool rfl) pa_nil))))))), ?_⟩
    refine ⟨_, rfl, _, _, _, _, rfl, .int i, B.ii, _, rfl, iteT ?_⟩
    exact ⟨_, rfl, _, _, _, _, rfl, .int i, B.ib, _, rfl, k⟩
def spPlace : Sp := fun vs H Q _ => ∃ n v : Int, vs = [.int n, .int v]/\Q (.bl (decide (0 ≤ v/\v < n))) H
theorem scPlace : FnScope ["many", "value"] ["many", "value"] (defScope sPlace) := ⟨rfl, rfl, rfl, by decide +kernel, rfl, by decide +kernel, by decide +kernel⟩
theorem ok_place {f fW : Addr} {fd fdW : FuncData} (F : Def K mg "is_place" sPlace ["many", "value"] f fd) (FW : Def K mg "is_whole" sWhole ["value"] fW fdW) (B : Bi K mg) : FnOk P w K mg base CX0 2 f fd ["many", "value"] spPlace := by
  have GW : FnOk P w K mg base CX0 1 fW fdW ["value"] spWhole := ok_whole FW B
  refine F.fn.ok scPlace (fun vs H Q E h => ?_) (fun cdv A outer s H vs Q E hr h => ?_)
  · obtain ⟨n, v, rfl, _⟩ := h
    rfl
  · obtain ⟨n, v, rfl, k⟩ := h
    refine ⟨_, pss_one (ps_ret (pe_and (pe_call GW hr rfl FW.mg FW.fn.kp FW.bn .nil pass0 (pa_cons (pv 1) pa_nil)) (pe_one (pe_chain op_le op_lt pe_int (pv 1) (pv 0))))), ?_⟩
    refine ⟨_, rfl, v, rfl, _, rfl, iteT ?_⟩
    refine ⟨_, rfl, _, _, rfl, rfl, _, rfl, iteD (fun h0 => ?_) (fun h0 => ?_)⟩
    · refine ⟨_, rfl, _, _, rfl, rfl, ?_⟩
      have e : decide (0 ≤ v/\v < n) = decide (v < n) := by simp [h0]
      rw [e] at k; exact k
    · have e : decide (0 ≤ v/\v < n) = false := by simp [h0]
      rw [e] at k; exact k
def spRoad : Sp := fun vs H Q _ => ∃ (n : Int) (a : Addr) (z : List Int), vs = [.int n, .ref a]/\H a = some (.lst (zV z))/\Q (.bl (isRoadB n z)) H
theorem scRoad : FnScope ["many", "row"] ["many", "row"] (defScope sRoad) := ⟨rfl, rfl, rfl, by decide +kernel, rfl, by decide +kernel, by decide +kernel⟩
theorem ok_road {f fW fP : Addr} {fd fdW fdP : FuncData} (F : Def K mg "is_road" sRoad ["many", "row"] f fd) (FW : Def K mg "is_whole" sWhole ["value"] fW fdW) (FP : Def K mg "is_place" sPlace ["many", "value"] fP fdP) (B : Bi K mg) : FnOk P w K mg base CX0 3 f fd ["many", "row"] spRoad := by
  have GW : FnOk P w K mg base CX0 1 fW fdW ["value"] spWhole := ok_whole FW B
  have GP : FnOk P w K mg base CX0 2 fP fdP ["many", "value"] spPlace := ok_place FP FW B
  refine F.fn.ok scRoad (fun vs H Q E h => ?_) (fun cdv A outer s H vs Q E hr h => ?_)
  · obtain ⟨n, a, z, rfl, _⟩ := h
    rfl
  · obtain ⟨n, a, z, rfl, ha, k⟩ := h
    have hr1 : Room 1 _ := hr.mono (by decide)
    refine ⟨_, pss_cons (ps_if (PW.pt (pw_or (pt_cmpR op_ne (pe_callB call_len_seq (by rfl) B.len PySem.boot_len (pa_cons (pv 1) pa_nil)) pe_int (nomark _))
        (pw_or1 (pt_not (pt_val (pe_call GW hr1 rfl FW.mg FW.fn.kp FW.bn .nil pass0 (pa_cons (pe_ix ix_list (pv 1) pe_int (fun _ _ => rfl)) pa_nil))))))) (pss_one (ps_ret pe_bl)) pss_nil)
      (pss_one (ps_ret (pe_and (pe_call GP hr rfl FP.mg FP.fn.kp FP.bn .nil pass0 (pa_cons (pv 0) (pa_cons (pe_ix ix_list (pv 1) pe_int (fun _ _ => rfl)) pa_nil)))
        (pe_and (pe_call GP hr rfl FP.mg FP.fn.kp FP.bn .nil pass0 (pa_cons (pv 0) (pa_cons (pe_ix ix_list (pv 1) pe_int (fun _ _ => rfl)) pa_nil)))
        (pe_and (pe_cmpR op_ne (pe_ix ix_list (pv 1) pe_int (fun _ _ => rfl)) (pe_ix ix_list (pv 1) pe_int (fun _ _ => rfl)) (nomark _))
        (pe_one (pe_cmpR op_ge (pe_ix ix_list (pv 1) pe_int (fun _ _ => rfl)) pe_int (nomark _)))))))), ?_⟩
    have hl : (zV z).length = z.length := by unfold zV; simp
    refine ⟨_, rfl, a, _, rfl, .inl (SqL.of ha), rfl, _, rfl, ?_⟩
    by_cases h3 : z.length = 3
    · obtain ⟨x, y, l, rfl⟩ : ∃ x y l, z = [x, y, l] := by
        match z, h3 with
        | [x, y, l], _ => exact ⟨x, y, l, rfl⟩
      have at0 : atI (zV [x, y, l]) 0 = some (V.int x) := rfl
      have at1 : atI (zV [x, y, l]) 1 = some (V.int y) := rfl
      have at2 : atI (zV [x, y, l]) 2 = some (V.int l) := rfl
      refine iteF ?_
      refine ⟨_, rfl, a, _, _, _, rfl, rfl, SqL.of ha, at2, l, rfl, _, rfl, iteF ?_⟩
      refine ⟨_, rfl, _, rfl, a, _, _, _, rfl, rfl, SqL.of ha, at0, n, x, rfl, _, rfl, ?_⟩
      have ek : isRoadB n [x, y, l] = (decide (0 ≤ x/\x < n) && decide (0 ≤ y/\y < n) && !decide (x = y) && decide (1 ≤ l)) := rfl
      rw [ek] at k
      refine iteB (fun e1 => ?_) (fun e1 => ?_)
      · rw [e1, Bool.true_and] at k
        refine ⟨_, rfl, _, rfl, a, _, _, _, rfl, rfl, SqL.of ha, at1, n, y, rfl, _, rfl, iteB (fun e2 => ?_) (fun e2 => ?_)⟩
        · rw [e2, Bool.true_and] at k
          refine ⟨_, rfl, a, _, _, _, rfl, rfl, SqL.of ha, at0, _, rfl, a, _, _, _, rfl, rfl, SqL.of ha, at1, rfl, _, rfl, ?_⟩
          have ev : decide (V.int x = V.int y) = decide (x = y) := by
            by_cases e : x = y
            · subst e; simp
            · simp [e]
          rw [ev]
          refine iteB (fun e3 => ?_) (fun e3 => ?_)
          · rw [e3, Bool.true_and] at k
            exact ⟨_, rfl, a, _, _, _, rfl, rfl, SqL.of ha, at2, _, _, rfl, rfl, k⟩
          · rw [e3, Bool.false_and] at k; exact k
        · rw [e2, Bool.false_and, Bool.false_and] at k; exact k
      · rw [e1, Bool.false_and, Bool.false_and, Bool.false_and] at k; exact k
    · have e : isRoadB n z = false := by
        unfold isRoadB
        split
        · simp at h3
        · rfl
      rw [e] at k
      have e2 : (!decide (V.int ((zV z).length : Int) = V.int 3)) = true := by
        rw [hl]
        have : ¬ (V.int (z.length : Int) = V.int 3) := fun q => h3 (by injection q with q; omega)
        rw [decide_eq_false this]; rfl
      rw [e2]
      refine iteT ?_
      exact iteT k
end
end Tw
namespace Tw
open PySem L2
section
variable {P : Program} {w : World} {K : PySem.W.Frag} {mg : Str->Option Value} {base : Heap}
theorem near_put {H : Hp} {D : Addr} {ds : List Addr} {n : Nat} {pre : List Road} {r : Road} (h : NearAt H D ds (nearOf n pre)) (nd : ds.Nodup) (v : Valid n r) {da db : Addr} (ha : ds[r.1.toNat]? = some da) (hb : ds[r.2.1.toNat]? = some db) : NearAt (upd (upd H da (.dK (dV (put (nbOf pre r.1) r.2.1 r.2.2)))) db (.dK (dV (put (nbOf pre r.2.1) r.1 r.2.2)))) D ds (nearOf n (pre ++ [r])) := by
  have hl : ds.length = n := by rw [h.len, nearOf_length]
  have a0 := v.a0; have a1 := v.a1; have b0 := v.b0; have b1 := v.b1; have ne := v.ne
  have inj : ∀ {i j : Nat} {x : Addr}, ds[i]? = some x->ds[j]? = some x->i = j := fun {i j x} e1 e2 => by
    obtain ⟨h1, q1⟩ := List.getElem?_eq_some_iff.mp e1
    obtain ⟨h2, q2⟩ := List.getElem?_eq_some_iff.mp e2
    exact (List.getElem_inj nd).mp (q1.trans q2.symm)
  have dD : ∀ {i : Nat} {x : Addr}, ds[i]? = some x->D ≠ x := fun {i x} e z => by
    have hi : i < n := by rw [← hl]; exact (List.getElem?_eq_some_iff.mp e).1
    have q := h.row i x _ e (nearOf_get hi)
    rw [← z, h.top] at q
    cases q
  refine ⟨?_, by rw [h.len, nearOf_length, nearOf_length], fun i p d e1 e2 => ?_⟩
  · rw [upd_ne (dD hb), upd_ne (dD ha)]; exact h.top
  · have hi : i < n := by rw [← hl]; exact (List.getElem?_eq_some_iff.mp e1).1
    rw [nearOf_get hi] at e2
    cases e2
    rw [nbOf_snoc]
    have old := h.row i p _ e1 (nearOf_get hi)
    unfold nb1
    by_cases ib : i = r.2.1.toNat
    · have ep : p = db := by rw [ib, hb] at e1; exact (Option.some.inj e1).symm
      subst ep
      have e3 : ((i : Nat) : Int) = r.2.1 := by omega
      rw [upd_same, e3, if_neg ne, if_pos rfl]
    · have np : p ≠ db := fun z => ib (inj e1 (z ▸ hb))
      rw [upd_ne np]
      by_cases ia : i = r.1.toNat
      · have ep : p = da := by rw [ia, ha] at e1; exact (Option.some.inj e1).symm
        subst ep
        have e3 : ((i : Nat) : Int) = r.1 := by omega
        rw [upd_same, e3, if_pos rfl]
      · have np2 : p ≠ da := fun z => ia (inj e1 (z ▸ ha))
        rw [upd_ne np2, if_neg (by omega), if_neg (by omega)]
        exact old
def spNear : Sp := fun vs H Q _ => ∃ (n : Nat) (a : Addr) (as : List Addr) (rs : List Road), vs = [.int n, .ref a]/\RowsAt H a as (rs.map rowI)/\n ≤ 12/\(∀ r ∈ rs, Valid n r)/\rs.length ≤ 100 ∧
  ∀ (D : Addr) (ds : List Addr) (H' : Hp), Same H H'->NearAt H' D ds (nearOf n rs)->Q (.ref D) H'
theorem scNear : FnScope ["many", "roads", "near", "row"] ["many", "roads"] (defScope sNear) := ⟨rfl, rfl, rfl, by decide +kernel, rfl, by decide +kernel, by decide +kernel⟩
theorem atI_int {α : Type} {xs : List α} {i : Int} {v : α} (h0 : 0 ≤ i) (h : xs[i.toNat]? = some v) : atI xs i = some v := by
  have e : i = ((i.toNat : Nat) : Int) := by omega
  rw [e]; exact atI_nat h
theorem get_ref {as : List Addr} {i : Nat} {y : V} (h : (as.map V.ref)[i]? = some y) : ∃ p, as[i]? = some p/\y = V.ref p := by
  rw [List.getElem?_map] at h
  cases e : as[i]? with
  | none => rw [e] at h; cases h
  | some p => rw [e] at h; exact ⟨p, rfl, (Option.some.inj h).symm⟩
theorem ref_get {as : List Addr} {i : Nat} {p : Addr} (h : as[i]? = some p) : (as.map V.ref)[i]? = some (V.ref p) := by rw [List.getElem?_map, h]; rfl
theorem nodup_snoc {l : List Addr} {p : Addr} (h : l.Nodup) (hp : p ∉ l) : (l ++ [p]).Nodup :=
  List.nodup_append.mpr ⟨h, by simp, fun a ha b hb e => by
    have : b = p := by simpa using hb
    exact hp (by rw [← this, ← e]; exact ha)⟩
theorem ok_near {f : Addr} {fd : FuncData} (F : Def K mg "neighbours" sNear ["many", "roads"] f fd) (B : Bi K mg) : FnOk P w K mg base CX0 1 f fd ["many", "roads"] spNear := by
  refine F.fn.ok scNear (fun vs H Q E h => ?_) (fun cdv A outer s H vs Q E hr h => ?_)
  · obtain ⟨n, a, as, rs, rfl, _⟩ := h
    rfl
  · obtain ⟨n, a, as, rs, rfl, hR, hn, hv, hlen, k⟩ := h
    have hu := hu_of hr
    refine ⟨_, pss_cons (ps_setC (defScope sNear).names ["many", "roads", "near", "row"] ["many", "roads", "near", "row", "place"] 2 scNear.nd rfl (Or.inl rfl) (pi_range1 rfl B.range (pa_cons (pv 0) pa_nil)) (fun _ _ _ _ => pf_nil) (fun _ _ _ _ => pe_dnewK))
      (pss_cons (ps_for PassesOwn.never rfl (pi_list (pv 1)) (pg_name (i := 3) scNear.nd rfl (Or.inl rfl))
        (pss_cons (ps_dput hu (pe_ix ix_list (pv 2) (pe_ix ix_list (pv 3) pe_int (fun _ _ => rfl)) (fun _ _ => rfl)) (pe_ix ix_list (pv 3) pe_int (fun _ _ => rfl)) (pe_ix ix_list (pv 3) pe_int (fun _ _ => rfl)) rfl)
        (pss_one (ps_dput hu (pe_ix ix_list (pv 2) (pe_ix ix_list (pv 3) pe_int (fun _ _ => rfl)) (fun _ _ => rfl)) (pe_ix ix_list (pv 3) pe_int (fun _ _ => rfl)) (pe_ix ix_list (pv 3) pe_int (fun _ _ => rfl)) rfl))))
      (pss_one (ps_ret (pv 2)))), ?_⟩
    refine ⟨_, rfl, (n : Int), rfl, by omega, by omega, fun D hD => ?_⟩
    rw [Int.toNat_natCast]
    refine comp_range (fun i ys H2 => ∃ ds : List Addr, ys = ds.map V.ref/\ds.length = i/\ds.Nodup/\H2 D = some (.lst ys)/\(∀ d ∈ ds, H2 d = some (.dK [])/\d ≠ D/\H d = none)/\Same H H2/\i ≤ n) (fun i ys H2 ⟨_, _, _, _, q, _⟩ => q)
      ⟨[], rfl, rfl, List.nodup_nil, upd_same, (fun _ z => nomatch z), same_upd hD, Nat.zero_le _⟩ ?_ ?_
    · rintro i ys H2 hi ⟨ds, rfl, hl, nd, hDl, hds, sm, hin⟩
      refine yesI ?_
      intro p hp
      have npD : D ≠ p := ne_of_none hDl hp
      have npd : ∀ d ∈ ds, d ≠ p := fun d hd => ne_of_none (hds d hd).1 hp
      refine ⟨by rw [upd_ne npD]; exact hDl, ?_, ds ++ [p], by rw [List.map_append]; rfl, by rw [List.length_append, hl]; rfl, nodup_snoc nd (fun z => npd p z rfl), upd_same, fun d hd => ?_, fun b o e => ?_, hi⟩
      · rw [List.length_map, hl]; exact small1000 (by omega)
      · rcases List.mem_append.mp hd with z | z
        · exact ⟨by rw [upd_ne (hds d z).2.1, upd_ne (npd d z)]; exact (hds d z).1, (hds d z).2⟩
        · have e : d = p := by simpa using z
          subst e
          exact ⟨by rw [upd_ne npD.symm, upd_same], npD.symm, sm.free hp⟩
      · have e2 := sm b o e
        have nb : b ≠ D := ne_of_none e hD
        rw [upd_ne nb, upd_ne (ne_of_none e2 hp)]
        exact e2
    · rintro ys H2 ⟨ds, rfl, hl, nd, hDl, hds, sm, _⟩
      have hN0 : NearAt H2 D ds (nearOf n []) := ⟨hDl, by rw [nearOf_length]; exact hl, fun i p d e1 e2 => by
        have hi : i < n := by rw [← hl]; exact (List.getElem?_eq_some_iff.mp e1).1
        rw [nearOf_get hi] at e2
        cases e2
        exact (hds p (List.mem_of_getElem? e1)).1⟩
      refine ⟨_, rfl, a, rfl, ⟨_, SqL.of (hR.mono sm).top⟩, for_list (K := K) (a := a) (xs := as.map V.ref) (fun i σ H3 => ∃ v, σ = [some (.int n), some (.ref a), some (.ref D), v]/\Same H H3/\NearAt H3 D ds (nearOf n (rs.take i)))
        ⟨none, rfl, sm, hN0⟩ (fun i σ H3 _ ⟨_, _, s3, _⟩ => SqL.of (hR.mono s3).top) ?_ ?_⟩
      · rintro i y σ H3 hi ⟨v, rfl, s3, hN3⟩
        obtain ⟨p, hp, rfl⟩ := get_ref hi
        have hil : i < rs.length := by
          have := (List.getElem?_eq_some_iff.mp hp).1
          have l2 := hR.len
          rw [List.length_map] at l2
          omega
        obtain ⟨r, er⟩ : ∃ r, rs[i]? = some r := ⟨rs[i], by simp [hil]⟩
        have V0 := hv r (List.mem_of_getElem? er)
        have a0 := V0.a0; have a1 := V0.a1; have b0 := V0.b0; have b1 := V0.b1; have ne := V0.ne
        have hrow : H3 p = some (.lst [.int r.1, .int r.2.1, .int r.2.2]) := (hR.mono s3).row i p (rowI r) hp (by rw [List.getElem?_map, er]; rfl)
        have hdl : ds.length = n := hl
        obtain ⟨da, eda⟩ : ∃ d, ds[r.1.toNat]? = some d := ⟨ds[r.1.toNat]'(by omega), List.getElem?_eq_getElem _⟩
        obtain ⟨db, edb⟩ : ∃ d, ds[r.2.1.toNat]? = some d := ⟨ds[r.2.1.toNat]'(by omega), List.getElem?_eq_getElem _⟩
        have ga : (nearOf n (rs.take i))[r.1.toNat]? = some (nbOf (rs.take i) r.1) := by
          rw [nearOf_get (by omega)]
          have : ((r.1.toNat : Nat) : Int) = r.1 := by omega
          rw [this]
        have gb : (nearOf n (rs.take i))[r.2.1.toNat]? = some (nbOf (rs.take i) r.2.1) := by
          rw [nearOf_get (by omega)]
          have : ((r.2.1.toNat : Nat) : Int) = r.2.1 := by omega
          rw [this]
        have hda := hN3.row _ _ _ eda ga
        have hdb := hN3.row _ _ _ edb gb
        have ndab : db ≠ da := fun z => by
          obtain ⟨h1, q1⟩ := List.getElem?_eq_some_iff.mp eda
          obtain ⟨h2, q2⟩ := List.getElem?_eq_some_iff.mp edb
          have := (List.getElem_inj nd).mp (q1.trans (z.symm.trans q2.symm))
          omega
        have npa : p ≠ da := ne_of hrow hda (by intro z; cases z)
        have nDa : D ≠ da := ne_of hN3.top hda (by intro z; cases z)
        have sz : ∀ v, (dV (nbOf (rs.take i) v)).length < sizeLine := fun v => by
          rw [dV_length]
          have q := nbOf_length_le (rs.take i) v
          have q2 : (rs.take i).length ≤ rs.length := by rw [List.length_take]; omega
          exact small1000 (by omega)
        refine ⟨_, rfl, p, _, _, _, rfl, rfl, SqL.of hrow, rfl, _, rfl, _, rfl, p, _, _, _, rfl, rfl, SqL.of hrow, rfl, D, _, _, _, rfl, rfl, SqL.of hN3.top, atI_int a0 (ref_get eda), _, rfl, p, _, _, _, rfl, rfl, SqL.of hrow, rfl, da, _, rfl, DPut.k (k := Sum.inl r.2.1) hda (sz _), ?_⟩
        have hrow2 : (upd H3 da (HO.dK (putK (dV (nbOf (rs.take i) r.1)) (Sum.inl r.2.1 : Key) (V.int r.2.2)))) p = some (.lst [.int r.1, .int r.2.1, .int r.2.2]) := by rw [upd_ne npa]; exact hrow
        have hD2 : (upd H3 da (HO.dK (putK (dV (nbOf (rs.take i) r.1)) (Sum.inl r.2.1 : Key) (V.int r.2.2)))) D = some (.lst (ds.map V.ref)) := by rw [upd_ne nDa]; exact hN3.top
        have hdb2 : (upd H3 da (HO.dK (putK (dV (nbOf (rs.take i) r.1)) (Sum.inl r.2.1 : Key) (V.int r.2.2)))) db = some (.dK (dV (nbOf (rs.take i) r.2.1))) := by rw [upd_ne ndab]; exact hdb
        refine ⟨_, rfl, p, _, _, _, rfl, rfl, SqL.of hrow2, rfl, _, rfl, _, rfl, p, _, _, _, rfl, rfl, SqL.of hrow2, rfl, D, _, _, _, rfl, rfl, SqL.of hD2, atI_int b0 (ref_get edb), _, rfl, p, _, _, _, rfl, rfl, SqL.of hrow2, rfl, db, _, rfl, DPut.k (k := Sum.inl r.1) hdb2 (sz _), ?_⟩
        refine ⟨_, rfl, fun b o e => ?_, ?_⟩
        · rw [upd_ne (ne_of_none e (hds db (List.mem_of_getElem? edb)).2.2), upd_ne (ne_of_none e (hds da (List.mem_of_getElem? eda)).2.2)]
          exact s3 b o e
        · rw [dV_put, dV_put, List.take_add_one, er]
          exact near_put hN3 nd V0 eda edb
      · rintro σ H3 ⟨v, rfl, s3, hN3⟩
        refine ⟨_, rfl, k D ds H3 s3 ?_⟩
        have l2 := hR.len
        rw [List.length_map] at l2
        rw [List.length_map, l2, List.take_length] at hN3
        exact hN3
end
end Tw
namespace Tw
open PySem L2
section
variable {P : Program} {w : World} {K : PySem.W.Frag} {mg : Str->Option Value} {base : Heap}
def spSteps : Sp := fun vs H Q _ => ∃ (n : Nat) (D : Addr) (ds : List Addr) (rs : List Road) (g : Int), vs = [.ref D, .int g]/\NearAt H D ds (nearOf n rs)/\n ≤ 12/\(∀ r ∈ rs, Valid n r)/\0 ≤ g/\g < n ∧
  ∀ (S : Addr) (st : List (Int × Int)) (H' : Hp), Same H H'->H S = none->H' S = some (.dK (dV st))->Srch n (nbOf rs) g st.length st->Q (.ref S) H'
theorem scSteps : FnScope ["near", "goal", "steps", "reached", "done", "here", "place"] ["near", "goal"] (defScope sSteps) := ⟨rfl, rfl, rfl, by decide +kernel, rfl, by decide +kernel, by decide +kernel⟩
theorem adj_rng {n : Nat} {rs : List Road} (hv : ∀ r ∈ rs, Valid n r) {q p : Int} (h : p ∈ (nbOf rs q).map (·.1)) : 0 ≤ p/\p < n := by
  obtain ⟨r, hr, j⟩ := (nbOf_keys rs q p).mp h
  have v := hv r hr
  have := v.a0; have := v.a1; have := v.b0; have := v.b1
  rcases j with ⟨a, b⟩ | ⟨a, b⟩ <;> omega
theorem zV_append (a : List Int) (x : Int) : zV a ++ [V.int x] = zV (a ++ [x]) := by unfold zV; rw [List.map_append]; rfl
theorem zV_get {z : List Int} {i : Nat} {x : Int} (h : z[i]? = some x) : (zV z)[i]? = some (V.int x) := by unfold zV; rw [List.getElem?_map, h]; rfl
theorem zV_length (z : List Int) : (zV z).length = z.length := by unfold zV; simp
theorem dV_get {d : List (Int × Int)} {i : Nat} {kv : Key × V} (h : (dV d)[i]? = some kv) : ∃ p q, d[i]? = some (p, q)/\kv = (Sum.inl p, V.int q) := by
  unfold dV at h
  rw [List.getElem?_map] at h
  cases e : d[i]? with
  | none => rw [e] at h; cases h
  | some p => rw [e] at h; exact ⟨p.1, p.2, rfl, (Option.some.inj h).symm⟩
theorem len_le_of_nodup : ∀ (m : Nat) (l : List Int), l.Nodup->(∀ x ∈ l, 0 ≤ x/\x < m)->l.length ≤ m := by
  intro m
  induction m with
  | zero =>
    intro l _ h
    cases l with
    | nil => exact Nat.le_refl _
    | cons x t => have := h x (by simp); omega
  | succ m ih =>
    intro l hn h
    by_cases hm : ((m : Nat) : Int) ∈ l
    · have hp := List.perm_cons_erase hm
      rw [hp.length_eq, List.length_cons]
      obtain ⟨h1, h2⟩ := List.nodup_cons.mp (hp.nodup_iff.mp hn)
      have := ih (l.erase (m : Int)) h2 fun x hx => by
        have b := h x (List.mem_of_mem_erase hx)
        have : x ≠ (m : Int) := fun e => h1 (e ▸ hx)
        omega
      omega
    · have := ih l hn fun x hx => by
        have b := h x hx
        have : x ≠ (m : Int) := fun e => hm (e ▸ hx)
        omega
      omega
theorem Mid.length {n : Nat} {nb : Int->List (Int × Int)} {g : Int} {k i : Nat} {q : Int} {st : List (Int × Int)} (s : Mid n nb g k i q st) : st.length ≤ n := by
  have := len_le_of_nodup n (st.map (·.1)) s.nd fun x hx => by
    obtain ⟨p, hp, e⟩ := List.mem_map.mp hx
    rw [← e]; exact s.rng p hp
  simpa using this
theorem ok_steps {f : Addr} {fd : FuncData} (F : Def K mg "steps_to" sSteps ["near", "goal"] f fd) (B : Bi K mg) : FnOk P w K mg base CX0 1 f fd ["near", "goal"] spSteps := by
  refine F.fn.ok scSteps (fun vs H Q E h => ?_) (fun cdv A outer s H vs Q E hr h => ?_)
  · obtain ⟨n, D, ds, rs, g, rfl, _⟩ := h
    rfl
  · obtain ⟨n, D, ds, rs, g, rfl, hN, hn, hv, hg0, hg1, k⟩ := h
    have hu := hu_of hr
    have nd := scSteps.nd
    refine ⟨_, pss_cons (ps_set (i := 2) nd rfl (Or.inl rfl) (pe_disp (pps_cons (pv 1) (pv 1) pps_nil) rfl rfl (by simp) (by decide)))
      (pss_cons (ps_set (i := 3) nd rfl (Or.inl rfl) (pe_lst (pa_cons (pv 1) pa_nil)))
      (pss_cons (ps_set (i := 4) nd rfl (Or.inl rfl) pe_int)
      (pss_cons (ps_while PassesOwn.never (pt_cmpR op_lt (pv 4) (pe_callB call_len_seq (by rfl) B.len PySem.boot_len (pa_cons (pv 3) pa_nil)) (nomark _))
        (pss_cons (ps_set (i := 5) nd rfl (Or.inl rfl) (pe_ix ix_list (pv 3) (pv 4) (fun _ _ => rfl)))
        (pss_cons (ps_thaw (ps_for PassesOwn.never rfl (pi_dict (pe_ix ix_list (pv 0) (pv 5) (fun _ _ => rfl))) (pg_name (i := 6) nd rfl (Or.inl rfl))
          (pss_one (ps_if (pt_cmp (pc_dnotin hu (pv 6) (pv 2)))
            (pss_cons (ps_dput hu (pv 2) (pv 6) (pv 5) rfl)
            (pss_one (ps_expr (pe_bm PySem.F.plainAttrs_list PySem.F.slot_list_append PySem.F.type_list_append mt_append (pv 3) (pa_cons (pv 6) pa_nil)))))
            pss_nil))))
        (pss_one (ps_aug (i := 4) nd rfl (Or.inl rfl) pe_int ip_add)))))
      (pss_one (ps_ret (pv 2)))))), ?_⟩
    intro S hS
    refine ⟨_, rfl, _, rfl, upd_same, [(Sum.inl g, V.int g)], rfl, by show 1 ≤ 15; decide, ?_⟩
    have eS : mergeK [] [((Sum.inl g : Key), V.int g)] = dV [(g, g)] := rfl
    rw [eS]
    refine ⟨_, rfl, by show 1 ≤ sizeLine; exact len12 (by decide), fun R hR => ?_⟩
    have nRS : R ≠ S := fun z => by rw [z, upd_same] at hR; cases hR
    have hR0 : H R = none := by
      rw [upd_ne nRS, upd_ne nRS] at hR; exact hR
    have dl : ds.length = n := by rw [hN.len, nearOf_length]
    refine ⟨fun m σ H2 => ∃ (k : Nat) (st : List (Int × Int)) (v5 v6 : Option V), m = n - k/\σ = [some (.ref D), some (.int g), some (.ref S), some (.ref R), some (.int k), v5, v6]/\k ≤ st.length ∧
      Same H H2/\H2 S = some (.dK (dV st))/\H2 R = some (.lst (zV (st.map (·.1))))/\Srch n (nbOf rs) g k st, ⟨n, 0, [(g, g)], none, none, rfl, rfl, Nat.zero_le _, ?_, ?_, ?_, Srch.start hg0 hg1⟩, ?_⟩
    · intro b o e
      rw [upd_ne (ne_of_none e hR0), upd_ne (ne_of_none e hS), upd_ne (ne_of_none e hS)]; exact e
    · rw [upd_ne nRS.symm, upd_same]
    · rw [upd_same]; rfl
    · rintro m σ H2 ⟨k0, st, v5, v6, rfl, rfl, hk, sm, hS2, hR2, sr⟩
      refine ⟨_, rfl, _, rfl, R, _, rfl, .inl (SqL.of hR2), _, _, rfl, rfl, _, rfl, ?_⟩
      have hle := sr.length
      refine iteD (fun hlt => ?_) (fun hge => ?_)
      · rw [zV_length, List.length_map] at hlt
        have hlt' : k0 < st.length := by omega
        obtain ⟨q, hq⟩ : ∃ q, (st.map (·.1))[k0]? = some q := ⟨(st.map (·.1))[k0]'(by simpa using hlt'), List.getElem?_eq_getElem _⟩
        have hqr : 0 ≤ q/\q < n := by
          have := List.mem_of_getElem? hq
          obtain ⟨p, hp, e⟩ := List.mem_map.mp this
          rw [← e]; exact sr.rng p hp
        obtain ⟨d, hd⟩ : ∃ d, ds[q.toNat]? = some d := ⟨ds[q.toNat]'(by omega), List.getElem?_eq_getElem _⟩
        have gq : (nearOf n rs)[q.toNat]? = some (nbOf rs q) := by
          rw [nearOf_get (by omega)]
          have : ((q.toNat : Nat) : Int) = q := by omega
          rw [this]
        have hdH : H d = some (.dK (dV (nbOf rs q))) := hN.row _ _ _ hd gq
        have hd2 := sm _ _ hdH
        have hD2 := sm _ _ hN.top
        have nSd : S ≠ d := fun z => by rw [z] at hS; rw [hS] at hdH; cases hdH
        have nRd : R ≠ d := fun z => by rw [z] at hR0; rw [hR0] at hdH; cases hdH
        refine ⟨fun σ' H' => ∃ (st' : List (Int × Int)) (v5 v6 : Option V), σ' = [some (.ref D), some (.int g), some (.ref S), some (.ref R), some (.int ((k0 : Int) + 1)), v5, v6]/\k0 + 1 ≤ st'.length ∧
          Same H H'/\H' S = some (.dK (dV st'))/\H' R = some (.lst (zV (st'.map (·.1))))/\Srch n (nbOf rs) g (k0 + 1) st', ?_, ?_⟩
        · rintro σ' H' ⟨st', v5, v6, rfl, h1, h2, h3, h4, h5⟩
          have := h5.length
          exact ⟨n - (k0 + 1), by omega, k0 + 1, st', v5, v6, rfl, by simp, h1, h2, h3, h4, h5⟩
        · refine ⟨_, rfl, _, rfl, R, _, _, _, rfl, rfl, SqL.of hR2, atI_nat (zV_get hq), ?_⟩
          refine ⟨_, rfl, _, rfl, D, _, _, _, rfl, rfl, SqL.of hD2, atI_int hqr.1 (ref_get hd), d, _, rfl, hd2, fun o => ?_⟩
          refine for_dict (fun i σ H4 => ∃ (st' : List (Int × Int)) (v6 : Option V), σ = [some (.ref D), some (.int g), some (.ref S), some (.ref R), some (.int k0), some (.int q), v6]/\Mid n (nbOf rs) g k0 i q st' ∧
            H4 S = some (.dK (dV st'))/\H4 R = some (.lst (zV (st'.map (·.1))))/\H4 d = some (.frz o (.dK (dV (nbOf rs q))))/\(∀ b u, H b = some u->b ≠ d->H4 b = some u)) ?_ ?_ ?_ ?_
          · exact ⟨st, _, rfl, sr.mid hq, by rw [upd_ne nSd]; exact hS2, by rw [upd_ne nRd]; exact hR2, upd_same, fun b u e nb => by rw [upd_ne nb]; exact sm b u e⟩
          · rintro i σ H4 _ ⟨_, _, _, _, _, _, h, _⟩; exact h
          · rintro i kv σ H4 hi ⟨st', v6, rfl, md, hS4, hR4, hd4, sm4⟩
            obtain ⟨p, l, hpl, rfl⟩ := dV_get hi
            have hp : ((nbOf rs q).map (·.1))[i]? = some p := by rw [List.getElem?_map, hpl]; rfl
            have pr := adj_rng hv (List.mem_of_getElem? hp)
            have l' : st'.length ≤ n := md.length
            refine ⟨_, rfl, _, rfl, S, _, rfl, DGet.k (k := Sum.inl p) hS4, _, rfl, ?_⟩
            rw [dV_val]
            refine iteN (fun e => ?_) (fun e => ?_)
            · have hnp : p ∉ st'.map (·.1) := of_decide_eq_false e
              refine ⟨_, rfl, _, rfl, _, rfl, S, _, rfl, DPut.k (k := Sum.inl p) hS4 (by rw [dV_length]; exact small1000 (by omega)), ?_⟩
              have nRS' : R ≠ S := nRS
              refine ⟨_, rfl, .inl ⟨rfl, _, SqL.of (by rw [upd_ne nRS']; exact hR4)⟩, _, rfl, R, _, _, rfl, rfl, by rw [upd_ne nRS']; exact hR4, by rw [zV_length, List.length_map]; exact small1000 (by omega), ?_⟩
              refine ⟨st' ++ [(p, q)], _, rfl, md.new hp hnp pr.1 pr.2, ?_, ?_, ?_, ?_⟩
              · rw [upd_ne nRS.symm, upd_same, dV_put, put_new hnp]
              · rw [upd_same]
                show some (HO.lst (zV (st'.map (·.1)) ++ [V.int p])) = _
                rw [zV_append, List.map_append]; rfl
              · rw [upd_ne nRd.symm, upd_ne nSd.symm]; exact hd4
              · intro b u e nb
                rw [upd_ne (ne_of_none e hR0), upd_ne (ne_of_none e hS)]; exact sm4 b u e nb
            · have hp' : p ∈ st'.map (·.1) := of_decide_eq_true e
              exact ⟨st', _, rfl, md.old hp hp', hS4, hR4, hd4, sm4⟩
          · rintro σ H4 ⟨st', v6, rfl, md, hS4, hR4, hd4, sm4⟩
            refine ⟨d, o, _, hd4, (fun o' u' z => by rw [hd2] at z; cases z), ?_⟩
            refine ⟨_, rfl, _, _, rfl, rfl, ?_⟩
            have sd := md.done (by rw [dV_length])
            refine ⟨st', _, _, rfl, ?_, ?_, by rw [upd_ne nSd]; exact hS4, by rw [upd_ne nRd]; exact hR4, sd⟩
            · have := (List.getElem?_eq_some_iff.mp md.here).1
              rw [List.length_map] at this; omega
            · intro b u e
              by_cases nb : b = d
              · subst nb; rw [upd_same, ← hdH]; exact e.symm ▸ rfl
              · rw [upd_ne nb]; exact sm4 b u e nb
      · rw [zV_length, List.length_map] at hge
        have e : k0 = st.length := by omega
        subst e
        exact ⟨_, rfl, k S st H2 sm hS hS2 sr⟩
end
end Tw
namespace Tw
open PySem L2
section
variable {P : Program} {w : World} {K : PySem.W.Frag} {mg : Str->Option Value} {base : Heap}
theorem take_pl {n i : Nat} (h : i < n) : (pl n).take (i + 1) = (pl n).take i ++ [(i : Int)] := by
  rw [List.take_add_one, pl_get h]; rfl
theorem map_rowI_inj : ∀ {rs qs : List Road}, rs.map rowI = qs.map rowI->rs = qs
  | [], [], _ => rfl
  | [], _ :: _, h => by simp at h
  | _ :: _, [], h => by simp at h
  | r :: rs, q :: qs, h => by
    rw [List.map_cons, List.map_cons] at h
    injection h with h1 h2
    rw [rowI_inj h1, map_rowI_inj h2]
theorem dec_vint (i j : Int) : decide (V.int i = V.int j) = decide (i = j) := by
  by_cases e : i = j
  · subst e; simp
  · simp [e]
theorem IsTree.iff {n : Nat} {rs : List Road} (h1 : 1 ≤ n) (h2 : n ≤ 12) (hl : (rs.length : Int) = n - 1) (hv : ∀ r ∈ rs, Valid n r) : IsTree n (rs.map rowI)<->Conn n rs := by
  constructor
  · rintro ⟨_, _, _, qs, e, _, c⟩
    rw [map_rowI_inj e]; exact c
  · intro c
    exact ⟨by omega, by omega, by rw [List.length_map]; exact hl, rs, rfl, hv, c⟩
def spIsTree : Sp := fun vs H Q _ => ∃ (n : Int) (a : Addr) (as : List Addr) (zss : List (List Int)), vs = [.int n, .ref a]/\RowsAt H a as zss/\zss.length ≤ 100 ∧
  ∀ (b : Bool) (H' : Hp), Same H H'->(b = true<->IsTree n zss)->Q (.bl b) H'
theorem scIsTree : FnScope ["many", "roads"] ["many", "roads"] (defScope sIsTree) := ⟨rfl, rfl, rfl, by decide +kernel, rfl, by decide +kernel, by decide +kernel⟩
theorem ok_istree {f fW fP fR fN fS : Addr} {fd fdW fdP fdR fdN fdS : FuncData} (F : Def K mg "is_tree" sIsTree ["many", "roads"] f fd) (FW : Def K mg "is_whole" sWhole ["value"] fW fdW) (FP : Def K mg "is_place" sPlace ["many", "value"] fP fdP) (FR : Def K mg "is_road" sRoad ["many", "row"] fR fdR) (FN : Def K mg "neighbours" sNear ["many", "roads"] fN fdN) (FS : Def K mg "steps_to" sSteps ["near", "goal"] fS fdS) (B : Bi K mg) {tm : Tok} (hM : mg "MOST_PLACES" = some (.int 12 tm)) : FnOk P w K mg base CX0 4 f fd ["many", "roads"] spIsTree := by
  have GW : FnOk P w K mg base CX0 1 fW fdW ["value"] spWhole := ok_whole FW B
  have GR : FnOk P w K mg base CX0 3 fR fdR ["many", "row"] spRoad := ok_road FR FW FP B
  have GN : FnOk P w K mg base CX0 1 fN fdN ["many", "roads"] spNear := ok_near FN B
  have GS : FnOk P w K mg base CX0 1 fS fdS ["near", "goal"] spSteps := ok_steps FS B
  refine F.fn.ok scIsTree (fun vs H Q E h => ?_) (fun cdv A outer s H vs Q E hr h => ?_)
  · obtain ⟨n, a, as, zss, rfl, _⟩ := h
    rfl
  · obtain ⟨n, a, as, zss, rfl, hR, hz, k⟩ := h
    have hr1 : Room 1 _ := hr.mono (by decide)
    refine ⟨_, pss_cons (ps_if (PW.pt (pw_or (pt_not (pt_val (pe_call GW hr1 rfl FW.mg FW.fn.kp FW.bn .nil pass0 (pa_cons (pv 0) pa_nil))))
          (pw_or (pt_cmpR op_lt (pv 0) pe_int (nomark _)) (pw_or1 (pt_cmpR op_gt (pv 0) (pe_glob (v := .int 12) rfl hM ⟨_, rfl⟩) (nomark _)))))) (pss_one (ps_ret pe_bl)) pss_nil)
      (pss_cons (ps_if (PW.pt (pw_or (pt_cmpR op_ne (pe_callB call_len_seq (by rfl) B.len PySem.boot_len (pa_cons (pv 1) pa_nil)) (pe_op op_sub (pv 0) pe_int) (nomark _))
          (pw_or1 (pt_not (pt_val (pe_callB (call_all rfl) (by rfl) B.all PyProof.Rows.boot_all (pa_cons (pe_comp (defScope sIsTree).names ["many", "roads"] ["many", "roads", "row"] (pi_list (pv 1)) (fun _ _ _ _ => pf_nil)
            (fun _ _ _ _ => pe_call GR hr rfl FR.mg FR.fn.kp FR.bn .nil pass0 (pa_cons (pv 0) (pa_cons (pv 2) pa_nil)))) pa_nil))))))) (pss_one (ps_ret pe_bl)) pss_nil)
      (pss_one (ps_ret (pe_cmpR op_eq (pe_callB call_lenD (by rfl) B.len PySem.boot_len (pa_cons (pe_call GS hr1 rfl FS.mg FS.fn.kp FS.bn .nil pass0
        (pa_cons (pe_call GN hr1 rfl FN.mg FN.fn.kp FN.bn .nil pass0 (pa_cons (pv 0) (pa_cons (pv 1) pa_nil))) (pa_cons pe_int pa_nil))) pa_nil)) (pv 0) (nomark _))))), ?_⟩
    refine ⟨_, rfl, n, rfl, _, rfl, iteF ?_⟩
    refine ⟨_, rfl, _, _, rfl, rfl, _, rfl, ?_⟩
    refine iteD (fun h1 => ?_) (fun h1 => ?_)
    · refine iteT ?_
      exact k false H (Same.refl H) ⟨(fun z => nomatch z), fun t => absurd t.lo (by omega)⟩
    refine ⟨_, rfl, _, _, rfl, rfl, _, rfl, ?_⟩
    refine iteD (fun h2 => ?_) (fun h2 => ?_)
    · exact k false H (Same.refl H) ⟨(fun z => nomatch z), fun t => absurd t.hi (by omega)⟩
    obtain ⟨m, rfl⟩ : ∃ m : Nat, n = (m : Int) := ⟨n.toNat, by omega⟩
    have m1 : 1 ≤ m := by omega
    have m2 : m ≤ 12 := by omega
    have len : as.length = zss.length := hR.len
    refine ⟨_, rfl, a, _, rfl, .inl (SqL.of hR.top), _, rfl, _, _, rfl, rfl, rfl, _, rfl, ?_⟩
    rw [dec_vint, List.length_map, len]
    refine iteN (fun e => ?_) (fun e => ?_)
    · refine iteT ?_
      have := of_decide_eq_false e
      exact k false H (Same.refl H) ⟨(fun z => nomatch z), fun t => absurd t.len (by omega)⟩
    have hlen := of_decide_eq_true e
    refine ⟨_, rfl, a, rfl, ⟨_, SqL.of hR.top⟩, fun D hD => ?_⟩
    refine comp_list (K := K) (a := a) (xs := as.map V.ref) (fun i ys H2 => ys = ((zss.take i).map (isRoadB m)).map V.bl/\H2 D = some (.lst ys)/\Same H H2) ?_ ?_ ?_ ?_
    · rintro i ys H2 ⟨_, h2, sm⟩
      exact ⟨h2, SqL.of (sm _ _ hR.top)⟩
    · exact ⟨rfl, upd_same, same_upd hD⟩
    · rintro i y ys H2 hi ⟨rfl, hD2, sm⟩
      obtain ⟨p, hp, rfl⟩ := get_ref hi
      have hil : i < zss.length := by
        have := (List.getElem?_eq_some_iff.mp hp).1
        omega
      have er : zss[i]? = some zss[i] := List.getElem?_eq_getElem hil
      refine yesI ?_
      refine ⟨_, rfl, _, rfl, (m : Int), p, zss[i], rfl, sm _ _ (hR.row i p _ hp er), hD2, ?_, ?_, upd_same, ?_⟩
      · rw [List.length_map, List.length_map, List.length_take]; exact small1000 (by omega)
      · rw [List.take_add_one, er, List.map_append, List.map_append]; rfl
      · exact fun b o e => by rw [upd_ne (ne_of_none e hD)]; exact sm b o e
    · rintro ys H2 ⟨rfl, hD2, sm⟩
      rw [List.length_map, len, List.take_length] at hD2
      refine ⟨D, zss.map (isRoadB m), rfl, SqL.of hD2, _, rfl, ?_⟩
      have ea : (zss.map (isRoadB m)).all id = zss.all (isRoadB m) := by rw [List.all_map]; rfl
      rw [ea]
      refine iteN (fun e => ?_) (fun e => ?_)
      · refine k false H2 sm ⟨(fun z => nomatch z), fun t => ?_⟩
        obtain ⟨rs, e2, v, _⟩ := t.ex
        rw [e2, all_roads.mpr v] at e; cases e
      · obtain ⟨rs, rfl, v⟩ := rows_roads e
        rw [List.length_map] at hlen hz
        refine ⟨_, rfl, _, rfl, m, a, as, rs, rfl, hR.mono sm, m2, v, hz, fun E ds H3 sm3 hN => ?_⟩
        refine ⟨m, E, ds, rs, 0, rfl, hN, m2, v, by omega, by omega, fun S st H4 sm4 hS0 hS4 sr => ?_⟩
        refine ⟨S, _, rfl, hS4, _, rfl, rfl, ?_⟩
        rw [dec_vint, dV_length]
        refine k _ H4 ((sm.trans sm3).trans sm4) ?_
        rw [decide_eq_true_iff, IsTree.iff m1 m2 hlen v, ← sr.conn m1]
        omega
end
end Tw
namespace Tw
open PySem L2
section
variable {P : Program} {w : World} {K : PySem.W.Frag} {mg : Str->Option Value} {base : Heap}
def spCheck : Sp := fun vs H Q _ => ∃ (n : Int) (a : Addr) (as : List Addr) (zss : List (List Int)), vs = [.int n, .ref a]/\RowsAt H a as zss/\zss.length ≤ 100/\IsTree n zss/\∀ H' : Hp, Same H H'->Q .non H'
theorem scCheck : FnScope ["many", "roads"] ["many", "roads"] (defScope sCheck) := ⟨rfl, rfl, rfl, by decide +kernel, rfl, by decide +kernel, by decide +kernel⟩
theorem ok_check {f fT : Addr} {fd fdT : FuncData} (F : Def K mg "check_tree" sCheck ["many", "roads"] f fd) (FT : Def K mg "is_tree" sIsTree ["many", "roads"] fT fdT) (GT : FnOk P w K mg base CX0 4 fT fdT ["many", "roads"] spIsTree) : FnOk P w K mg base CX0 5 f fd ["many", "roads"] spCheck := by
  refine F.fn.ok scCheck (fun vs H Q E h => ?_) (fun cdv A outer s H vs Q E hr h => ?_)
  · obtain ⟨n, a, as, zss, rfl, _⟩ := h
    rfl
  · obtain ⟨n, a, as, zss, rfl, hR, hz, t, k⟩ := h
    refine ⟨_, pss_one (ps_if (pt_not (pt_val (pe_call GT hr rfl FT.mg FT.fn.kp FT.bn .nil pass0 (pa_cons (pv 0) (pa_cons (pv 1) pa_nil))))) (pss_one ps_never) pss_nil), ?_⟩
    refine ⟨_, rfl, _, rfl, n, a, as, zss, rfl, hR, hz, fun b H' sm hb => ?_⟩
    refine ⟨_, rfl, ?_⟩
    rw [hb.mpr t]
    exact iteF (k H' sm)
end
end Tw
namespace Tw
open PySem L2
section
variable {P : Program} {w : World} {K : PySem.W.Frag} {mg : Str->Option Value} {base : Heap}
def spPick (p : Nat->Bool) : Sp := fun vs H Q _ => ∃ (n : Nat) (a : Addr) (as : List Addr) (rs : List Road), vs = [.int n, .ref a]/\RowsAt H a as (rs.map rowI)/\Tree n rs ∧
  ∀ (L : Addr) (H' : Hp), Same H H'->H L = none->H' L = some (.lst (zV ((pl n).filter fun v => p (deg rs v))))->Q (.ref L) H'
theorem scLeaves : FnScope ["many", "roads", "near"] ["many", "roads"] (defScope sLeaves) := ⟨rfl, rfl, rfl, by decide +kernel, rfl, by decide +kernel, by decide +kernel⟩
theorem ok_leaves {f fC fN : Addr} {fd fdC fdN : FuncData} (F : Def K mg "leaves" sLeaves ["many", "roads"] f fd) (FC : Def K mg "check_tree" sCheck ["many", "roads"] fC fdC) (FN : Def K mg "neighbours" sNear ["many", "roads"] fN fdN) (GC : FnOk P w K mg base CX0 5 fC fdC ["many", "roads"] spCheck) (B : Bi K mg) : FnOk P w K mg base CX0 6 f fd ["many", "roads"] (spPick fun d => decide (d = 1)) := by
  have GN : FnOk P w K mg base CX0 1 fN fdN ["many", "roads"] spNear := ok_near FN B
  refine F.fn.ok scLeaves (fun vs H Q E h => ?_) (fun cdv A outer s H vs Q E hr h => ?_)
  · obtain ⟨n, a, as, rs, rfl, _⟩ := h
    rfl
  · obtain ⟨n, a, as, rs, rfl, hR, t, k⟩ := h
    have hr1 : Room 1 _ := hr.mono (by decide)
    have tl := t.length
    have th := t.hi
    refine ⟨_, pss_cons (ps_expr (pe_call GC hr rfl FC.mg FC.fn.kp FC.bn .nil pass0 (pa_cons (pv 0) (pa_cons (pv 1) pa_nil))))
      (pss_cons (ps_set (i := 2) scLeaves.nd rfl (Or.inr rfl) (pe_call GN hr1 rfl FN.mg FN.fn.kp FN.bn .nil pass0 (pa_cons (pv 0) (pa_cons (pv 1) pa_nil))))
      (pss_one (ps_ret (pe_comp (defScope sLeaves).names ["many", "roads", "near"] ["many", "roads", "near", "place"] (pi_range1 rfl B.range (pa_cons (pv 0) pa_nil))
        (fun _ _ _ _ => pf_one (pt_cmpR op_eq (pe_callB call_lenD (by rfl) B.len PySem.boot_len (pa_cons (pe_ix (ixK K) (pv 2) (pv 3) (fun _ _ => rfl)) pa_nil)) pe_int (nomark _))) (fun _ _ _ _ => pv 3))))), ?_⟩
    refine ⟨_, rfl, _, rfl, (n : Int), a, as, rs.map rowI, rfl, hR, by rw [List.length_map]; omega, t.isTree, fun H1 s1 => ?_⟩
    refine ⟨_, rfl, _, rfl, n, a, as, rs, rfl, hR.mono s1, th, t.valid, by omega, fun D ds H2 s2 hN => ?_⟩
    refine ⟨_, rfl, (n : Int), rfl, by omega, by omega, fun L hL => ?_⟩
    rw [Int.toNat_natCast]
    have hL0 : H L = none := (s1.trans s2).free hL
    refine comp_range (fun i ys H3 => ys = zV (((pl n).take i).filter fun v => decide (deg rs v = 1))/\H3 L = some (.lst ys)/\Same H2 H3) (fun _ _ _ h => h.2.1) ⟨rfl, upd_same, same_upd hL⟩ ?_ ?_
    · rintro i ys H3 hi ⟨rfl, hL3, s3⟩
      have dl : ds.length = n := by rw [hN.len, nearOf_length]
      obtain ⟨d, hd⟩ : ∃ d, ds[i]? = some d := ⟨ds[i]'(by omega), List.getElem?_eq_getElem _⟩
      have hdH := s3 _ _ (hN.row _ _ _ hd (nearOf_get hi))
      refine ⟨_, rfl, _, rfl, D, _, _, _, rfl, rfl, SqL.of (s3 _ _ hN.top), atI_int (by omega) (by rw [show ((0 : Int) + (i : Int)).toNat = i by omega]; exact ref_get hd), d, _, rfl, hdH, rfl, _, rfl, ?_⟩
      rw [dec_vint, dV_length, t.nb]
      refine iteD (fun e => ?_) (fun e => ?_)
      · refine ⟨_, rfl, hL3, ?_, ?_, upd_same, fun b o e => by rw [upd_ne (ne_of_none e hL)]; exact s3 b o e⟩
        · rw [zV_length]
          refine small1000 (Nat.le_trans (List.length_filter_le _ _) ?_)
          rw [List.length_take]; omega
        · rw [take_pl hi, List.filter_append]
          have : decide (deg rs (i : Int) = 1) = true := by simp; omega
          rw [show ([(i : Int)].filter fun v => decide (deg rs v = 1)) = [(i : Int)] by rw [List.filter_cons, if_pos this]; rfl, ← zV_append]
          rw [show ((0 : Int) + (i : Int)) = (i : Int) by omega]
      · refine ⟨?_, hL3, s3⟩
        rw [take_pl hi, List.filter_append]
        have : ¬ decide (deg rs (i : Int) = 1) = true := by simp; omega
        rw [show ([(i : Int)].filter fun v => decide (deg rs v = 1)) = [] by rw [List.filter_cons, if_neg this]; rfl, List.append_nil]
    · rintro ys H3 ⟨rfl, hL3, s3⟩
      rw [List.take_of_length_le (by rw [pl_length]; exact Nat.le_refl _)] at hL3
      exact k L H3 ((s1.trans s2).trans s3) hL0 hL3
end
end Tw
namespace Tw
open PySem L2
section
variable {P : Program} {w : World} {K : PySem.W.Frag} {mg : Str->Option Value} {base : Heap}
theorem valV_dV {d : List (Int × Int)} {x l : Int} (nd : (d.map (·.1)).Nodup) (h : (x, l) ∈ d) : valV (dV d) (Sum.inl x : Key) = some (V.int l) := by
  induction d with
  | nil => cases h
  | cons p t ih =>
    obtain ⟨h1, h2⟩ := List.nodup_cons.mp (show (p.1 :: t.map (·.1)).Nodup from nd)
    rcases List.mem_cons.mp h with e | h
    · subst e; exact valV_pos rfl
    · have ne : ¬ ((Sum.inl p.1 : Key) = Sum.inl x) := fun e => h1 (by rw [Sum.inl.inj e]; exact List.mem_map.mpr ⟨_, h, rfl⟩)
      exact (valV_neg (p := ((Sum.inl p.1 : Key), V.int p.2)) ne).trans (ih h2 h)
end
end Tw
namespace Tw
open PySem L2
section
variable {P : Program} {w : World} {K : PySem.W.Frag} {mg : Str->Option Value} {base : Heap}
theorem atI_neg1 {α : Type} {xs : List α} {v : α} (h : xs[xs.length - 1]? = some v) : atI xs (-1) = some v := by
  have hl : 0 < xs.length := by have := (List.getElem?_eq_some_iff.mp h).1; omega
  unfold atI ixN
  rw [if_neg (by decide), if_pos (by omega)]
  show xs[((-1 : Int) + xs.length).toNat]? = _
  rw [show ((-1 : Int) + xs.length).toNat = xs.length - 1 by omega]; exact h
theorem zV_last {ws : List Int} {p : Int} (h : ws[ws.length - 1]? = some p) : (zV ws)[(zV ws).length - 1]? = some (V.int p) := by rw [zV_length]; exact zV_get h
def spWayB : Sp := fun vs H Q _ => ∃ (n : Nat) (D : Addr) (ds : List Addr) (rs : List Road) (a b : Int) (f : Int->Int->Int), vs = [.ref D, .int a, .int b]/\NearAt H D ds (nearOf n rs)/\Tree n rs/\Met rs (pl n) f/\a ∈ pl n/\b ∈ pl n ∧
  ∀ (L : Addr) (ws : List Int) (H' : Hp), Same H H'->H L = none->H' L = some (.lst (zV ws))->WayOf n rs f a b ws->Q (.ref L) H'
theorem scWayB : FnScope ["near", "a", "b", "steps", "places"] ["near", "a", "b"] (defScope sWayB) := ⟨rfl, rfl, rfl, by decide +kernel, rfl, by decide +kernel, by decide +kernel⟩
theorem ok_wayb {f fS : Addr} {fd fdS : FuncData} (F : Def K mg "way_between" sWayB ["near", "a", "b"] f fd) (FS : Def K mg "steps_to" sSteps ["near", "goal"] fS fdS) (B : Bi K mg) : FnOk P w K mg base CX0 2 f fd ["near", "a", "b"] spWayB := by
  have GS : FnOk P w K mg base CX0 1 fS fdS ["near", "goal"] spSteps := ok_steps FS B
  refine F.fn.ok scWayB (fun vs H Q E h => ?_) (fun cdv A outer s H vs Q E hr h => ?_)
  · obtain ⟨n, D, ds, rs, a, b, f, rfl, _⟩ := h
    rfl
  · obtain ⟨n, D, ds, rs, a, b, f, rfl, hN, t, m, ha, hb, k⟩ := h
    have hu := hu_of hr
    have nd := scWayB.nd
    have th := t.hi
    have br := mem_pl.mp hb
    refine ⟨_, (pss_cons (ps_set (i := 3) nd rfl (Or.inl rfl) (pe_call GS (hr.mono (by decide)) rfl FS.mg FS.fn.kp FS.bn .nil pass0 (pa_cons (pv 0) (pa_cons (pv 2) pa_nil))))
      (pss_cons (ps_set (i := 4) nd rfl (Or.inl rfl) (pe_lst (pa_cons (pv 1) pa_nil)))
      (pss_cons (ps_while PassesOwn.never (pt_cmpR op_ne (pe_ix (ixK K) (pv 4) (pe_un un_neg pe_int) (fun _ _ => rfl)) (pv 2) (nomark _)) (pss_one (ps_expr (pe_bm PySem.F.plainAttrs_list PySem.F.slot_list_append PySem.F.type_list_append mt_append (pv 4) (pa_consS (pe_dget hu (pv 3) (pe_ix (ixK K) (pv 4) (pe_un un_neg pe_int) (fun _ _ => rfl)) (fun _ _ => rfl)) pa_nil)))))
      (pss_one (ps_ret (pv 4)))))), ?_⟩
    refine ⟨_, rfl, _, rfl, n, D, ds, rs, b, rfl, hN, th, t.valid, br.1, br.2, fun S st H1 s1 hS0 hS1 sr => ?_⟩
    refine ⟨_, rfl, by show 1 ≤ sizeLine; exact len12 (by decide), fun L hL => ?_⟩
    have hL0 : H L = none := s1.free hL
    have nSL : S ≠ L := ne_of_none hS1 hL
    refine ⟨fun μ σ H2 => ∃ (ws : List Int) (p : Int), μ = (f b p).toNat/\σ = [some (.ref D), some (.int a), some (.int b), some (.ref S), some (.ref L)]/\Same H H2/\H2 S = some (.dK (dV st))/\H2 L = some (.lst (zV ws))/\Desc rs f b ws/\ws[0]? = some a/\ws[ws.length - 1]? = some p/\(∀ x ∈ ws, x ∈ pl n),
      ⟨_, [a], a, rfl, rfl, ?_, ?_, upd_same, Desc.one, rfl, rfl, ?_⟩, ?_⟩
    · intro x o e
      rw [upd_ne (ne_of_none e hL0)]; exact s1 x o e
    · rw [upd_ne nSL]; exact hS1
    · intro x hx
      rw [List.mem_singleton.mp hx]; exact ha
    · rintro μ σ H2 ⟨ws, p, rfl, rfl, s2, hS2, hL2, d, w0, wl, rng⟩
      refine ⟨_, rfl, _, rfl, L, _, _, _, rfl, rfl, SqL.of hL2, atI_neg1 (zV_last wl), _, rfl, rfl, _, rfl, ?_⟩
      rw [dec_vint]
      have wn := len_le_of_nodup n ws (d.nodup t.len) fun x hx => mem_pl.mp (rng x hx)
      have pm : p ∈ pl n := rng p (List.mem_of_getElem? wl)
      refine iteN (fun e => ?_) (fun e => ?_)
      · have hpb := of_decide_eq_false e
        obtain ⟨i, hi⟩ := List.mem_iff_getElem?.mp (sr.all t p pm)
        obtain ⟨q, hpq⟩ : ∃ q, st[i]? = some (p, q) := by
          rw [List.getElem?_map] at hi
          cases es : st[i]? with
          | none => rw [es] at hi; cases hi
          | some x => rw [es] at hi; exact ⟨x.2, by rw [← (Option.some.inj hi : x.1 = p)]⟩
        have hi0 : 0 < i := by
          rcases Nat.eq_zero_or_pos i with z | z
          · subst z
            rw [sr.first] at hpq
            cases hpq
            exact absurd rfl hpb
          · exact z
        obtain ⟨r, hrm, jr, ed⟩ := sr.dist m t.len i p q hpq hi0
        obtain ⟨j, _, _, hqk, _⟩ := sr.par i p q hpq hi0
        have qm : q ∈ pl n := by
          obtain ⟨x, hx, ex⟩ := List.mem_map.mp (List.mem_of_getElem? hqk)
          rw [← ex]; exact mem_pl.mpr (sr.rng x hx)
        have hget : DGet H2 S (V.int p) (some (V.int q)) := .inl ⟨_, Sum.inl p, .inl hS2, rfl, (valV_dV sr.nd (List.mem_of_getElem? hpq)).symm⟩
        have := t.len r hrm
        have fq := m.nn b hb q qm
        refine ⟨fun σ' H' => ∃ (ws : List Int), σ' = [some (.ref D), some (.int a), some (.int b), some (.ref S), some (.ref L)]/\Same H H'/\H' S = some (.dK (dV st))/\H' L = some (.lst (zV ws))/\Desc rs f b ws/\ws[0]? = some a/\ws[ws.length - 1]? = some q/\(∀ x ∈ ws, x ∈ pl n), ?_, ?_⟩
        · rintro σ' H' ⟨ws', rfl, h1, h2, h3, h4, h5, h6, h7⟩
          exact ⟨(f b q).toNat, by omega, ws', q, rfl, rfl, h1, h2, h3, h4, h5, h6, h7⟩
        · refine ⟨_, rfl, .inl ⟨rfl, _, SqL.of hL2⟩, _, rfl, _, rfl, _, rfl, L, _, _, _, rfl, rfl, SqL.of hL2, atI_neg1 (zV_last wl), S, _, rfl, hget, L, _, _, rfl, rfl, hL2, by rw [zV_length]; exact small1000 (by omega), ?_⟩
          refine ⟨ws ++ [q], rfl, fun x o e => by rw [upd_ne (ne_of_none e hL0)]; exact s2 x o e, by rw [upd_ne nSL]; exact hS2, by rw [upd_same, zV_append], d.snoc wl hrm jr.symm ed, ?_, ?_, ?_⟩
          · have : 0 < ws.length := (List.getElem?_eq_some_iff.mp w0).1
            rw [List.getElem?_append_left this]; exact w0
          · rw [List.length_append]; simp
          · intro x hx
            rcases List.mem_append.mp hx with z | z
            · exact rng x z
            · rw [List.mem_singleton.mp z]; exact qm
      · have hpb := of_decide_eq_true e
        subst hpb
        exact ⟨_, rfl, k L ws H2 s2 hL0 hL2 ⟨d, w0, wl, rng⟩⟩
end
end Tw
namespace Tw
open PySem L2
open PySem.Builtin.Int (intBits)
section
variable {P : Program} {w : World} {K : PySem.W.Frag} {mg : Str->Option Value} {base : Heap}
def spCell (K : PySem.W.Frag) : Sp := fun vs H Q _ => ∃ (a : Addr) (ns : List Int) (k : Nat), vs = [.ref a, .int k]/\SqL K H a (zV ns)/\Q (.int (ns.getD k 0)) H
theorem scCell : FnScope ["_law_script", "_law_k"] ["_law_script", "_law_k"] (defScope sCell) := ⟨rfl, rfl, rfl, by decide +kernel, rfl, by decide +kernel, by decide +kernel⟩
theorem ok_cell {f : Addr} {fd : FuncData} (F : Def K mg "_law_cell_at" sCell ["_law_script", "_law_k"] f fd) (B : Bi K mg) : FnOk P w K mg base CX0 1 f fd ["_law_script", "_law_k"] (spCell K) := by
  refine F.fn.ok scCell (fun vs H Q E h => ?_) (fun cdv A outer s H vs Q E hr h => ?_)
  · obtain ⟨a, ns, k, rfl, _⟩ := h
    rfl
  · obtain ⟨a, ns, k, rfl, hS, q⟩ := h
    refine ⟨_, pss_cons (ps_if (pt_cmpR op_lt (pv 1) (pe_callB call_len_seq (by rfl) B.len PySem.boot_len (pa_cons (pv 0) pa_nil)) (nomark _)) (pss_one (ps_ret (pe_ix ix_list (pv 0) (pv 1) (fun _ _ => rfl)))) pss_nil)
      (pss_one (ps_ret pe_int)), ?_⟩
    refine ⟨_, rfl, _, rfl, a, _, rfl, .inl hS, _, _, rfl, rfl, _, rfl, ?_⟩
    rw [zV_length]
    refine iteD (fun h => ?_) (fun h => ?_)
    · have hk : k < ns.length := by omega
      have e : ns[k]? = some ns[k] := List.getElem?_eq_getElem hk
      refine ⟨_, rfl, _, rfl, a, _, _, _, rfl, rfl, hS, atI_nat (zV_get e), ?_⟩
      rw [List.getD_eq_getElem?_getD, e] at q; exact q
    · have hk : ns[k]? = none := List.getElem?_eq_none (by omega)
      rw [List.getD_eq_getElem?_getD, hk] at q; exact q
theorem pick_list {K : PySem.W.Frag} {H : Hp} {p : Addr} {xs : List V} (h : H p = some (.lst xs)) {i : Int} (h0 : 0 ≤ i) (h1 : i < xs.length) : ∃ v, v ∈ xs/\SqL K H p xs/\atI xs i = some v/\xs[i.toNat]? = some v := by
  have hi : i.toNat < xs.length := by omega
  exact ⟨xs[i.toNat], List.getElem_mem hi, SqL.of h, atI_int h0 (List.getElem?_eq_getElem hi), List.getElem?_eq_getElem hi⟩
theorem bits_small {a : Int} (h1 : -(2 ^ 64) < a) (h2 : a < 2 ^ 64) : intBits a ≤ 64 := intBits_le_64 h1 h2
theorem ins_get {α : Type} {l : List α} {j : Nat} {x : α} (hj : j ≤ l.length) (i : Nat) : (l.take j ++ x :: l.drop j)[i]? = if i < j then l[i]? else if i = j then some x else l[i - 1]? := by
  have lt : (l.take j).length = j := by rw [List.length_take]; omega
  by_cases h : i < j
  · rw [if_pos h, List.getElem?_append_left (by omega), List.getElem?_take_of_lt h]
  · rw [if_neg h, List.getElem?_append_right (by omega), lt]
    by_cases e : i = j
    · subst e; rw [if_pos rfl, Nat.sub_self]; rfl
    · rw [if_neg e]
      obtain ⟨d, rfl⟩ : ∃ d, i = j + d + 1 := ⟨i - j - 1, by omega⟩
      rw [show j + d + 1 - j = d + 1 by omega, List.getElem?_cons_succ, List.getElem?_drop]
      rfl
theorem RoadsAt.fresh {H : Hp} {a q : Addr} {as : List Addr} {rs : List Road} (h : RoadsAt H a as rs) (hq0 : H q = none) : q ∉ as := fun z => by
  obtain ⟨j, hj⟩ := List.mem_iff_getElem?.mp z
  have hjl : j < rs.length := by rw [← h.len]; exact (List.getElem?_eq_some_iff.mp hj).1
  have e := h.rows.row j q (rowI rs[j]) hj (by rw [List.getElem?_map, List.getElem?_eq_getElem hjl]; rfl)
  rw [hq0] at e; cases e
theorem RoadsAt.ins {H H5 : Hp} {a q : Addr} {as : List Addr} {rs : List Road} {r' : Road} {j : Nat} (h : RoadsAt H a as rs) (s : Same H H5) (hq0 : H q = none) (hq : H5 q = some (.lst (zV (rowI r')))) (hj : j ≤ rs.length) : RoadsAt (upd H5 a (.lst ((as.map V.ref).take j ++ .ref q :: (as.map V.ref).drop j))) a (as.take j ++ q :: as.drop j) (rs.take j ++ r' :: rs.drop j) := by
  have nqa : q ≠ a := fun z => by rw [z, h.rows.top] at hq0; cases hq0
  have nq := h.fresh hq0
  have la := h.len
  refine ⟨⟨?_, ?_, fun i p z e1 e2 => ?_⟩, ?_⟩
  · rw [upd_same, List.map_append, List.map_cons, List.map_take, List.map_drop]
  · rw [List.length_append, List.length_cons, List.length_map, List.length_append, List.length_cons, List.length_take, List.length_take, List.length_drop, List.length_drop]; omega
  · rw [ins_get (by omega)] at e1
    rw [List.map_append, List.map_cons, List.map_take, List.map_drop, ins_get (by rw [List.length_map]; exact hj)] at e2
    by_cases h1 : i < j
    · rw [if_pos h1] at e1 e2
      have na : p ≠ a := fun z => h.ne_top (z ▸ List.mem_of_getElem? e1)
      rw [upd_ne na]; exact s _ _ (h.rows.row i p z e1 e2)
    · rw [if_neg h1] at e1 e2
      by_cases h2 : i = j
      · rw [if_pos h2] at e1 e2
        cases e1; cases e2
        rw [upd_ne nqa]; exact hq
      · rw [if_neg h2] at e1 e2
        have na : p ≠ a := fun z => h.ne_top (z ▸ List.mem_of_getElem? e1)
        rw [upd_ne na]; exact s _ _ (h.rows.row _ p z e1 e2)
  · exact ((ins_perm as j q).nodup_iff).mpr (List.nodup_cons.mpr ⟨nq, h.nd⟩)
theorem zV_ins (l : List Int) (j : Nat) (x : Int) : (zV l).take j ++ V.int x :: (zV l).drop j = zV (l.take j ++ x :: l.drop j) := by
  unfold zV; rw [List.map_append, List.map_cons, List.map_take, List.map_drop]
theorem mem_cutV {xs : List V} {lo hi : Option Int} {y : V} (h : y ∈ cutV xs lo hi) : y ∈ xs := by
  unfold cutV at h
  exact List.mem_of_mem_drop (List.mem_of_mem_take h)
theorem zV_flat (z : List Int) : (zV z).all flatV = true := by
  unfold zV; rw [List.all_map, List.all_eq_true]; intro x _; rfl
theorem rows2_of {H : Hp} {a : Addr} {as : List Addr} {zss : List (List Int)} (h : RowsAt H a as zss) : Rows2 K H a as (zss.map zV) := by
  refine ⟨SqL.of h.top, by rw [List.length_map]; exact h.len, fun i p xs e1 e2 => ?_⟩
  rw [List.getElem?_map] at e2
  cases e : zss[i]? with
  | none => rw [e] at e2; cases e2
  | some z =>
    rw [e] at e2
    cases e2
    exact ⟨SqL.of (h.row i p z e1 e), zV_flat z⟩
theorem rows_same (zss : List (List Int)) : ((List.range (zss.map zV).length).all fun j => eqVs ((zss.map zV).getD j []) ((zss.map zV).getD j [])) = true := by
  rw [List.all_eq_true]
  intro j hj
  have hj' := List.mem_range.mp hj
  rw [List.length_map] at hj'
  have e : (zss.map zV).getD j [] = zV zss[j] := by
    rw [List.getD_eq_getElem?_getD, List.getElem?_map, List.getElem?_eq_getElem hj']; rfl
  rw [e]
  exact eqVs_refl (zV_flat _)
theorem copy_rows {H1 : Hp} {R D : Addr} {as : List Addr} {zss : List (List Int)} {te : TE} {σ : St} {Qf : Hp->Prop} (hR : RowsAt H1 R as zss) (hz : zss.length ≤ 100) (hD : H1 D = none) (hte : ∀ (p : Addr) (H4 : Hp) (Qv : VK) (zs : List V), H4 p = some (.lst zs)->(∀ l, H4 l = none->Qv (.ref l) (upd H4 l (.lst zs)))->te (σ ++ [some (.ref p)]) H4 Qv) (k : ∀ (bs : List Addr) (H2 : Hp), RowsAt H2 D bs zss->Same H1 H2->(∀ b ∈ bs, H1 b = none)->Qf H2) : ∃ W : Nat->Nat->List V->Hp->Prop, (∃ m, W 0 m [] (upd H1 D (.lst [])))/\∀ i m ys H2, W i m ys H2->H2 D = some (.lst ys)/\(((Itl K R).stop i H2/\Qf H2) ∨ ((Itl K R).go i H2/\∃ N : List V->Hp->Prop, (∀ ys' H', N ys' H'->∃ m', m' < m/\W (i + 1) m' ys' H')/\∀ y H3, (Itl K R).yld i H2 y H3->tYes (σ ++ [some y]) H3 fun c H4 => if c = true then te (σ ++ [some y]) H4 fun z H5 => H5 D = some (.lst ys)/\ys.length < sizeLine/\N (ys ++ [z]) (upd H5 D (.lst (ys ++ [z]))) else N ys H4)) := by
  have al := hR.len
  refine comp_list (K := K) (a := R) (xs := as.map V.ref) (fun i ys H2 => ∃ bs : List Addr, ys = bs.map V.ref/\bs.length = i/\H2 D = some (.lst ys)/\Same H1 H2/\(∀ (j : Nat) (p : Addr) (z : List Int), bs[j]? = some p->zss[j]? = some z->H2 p = some (.lst (zV z)))/\∀ b ∈ bs, H1 b = none/\b ≠ D)
      (fun i ys H2 ⟨_, _, _, h1, h2, _⟩ => ⟨h1, SqL.of (h2 _ _ hR.top)⟩) ⟨[], rfl, rfl, upd_same, same_upd hD, (fun j p r e => by simp at e), (fun b hb => nomatch hb)⟩ ?_ ?_
  · rintro i y ys H2 hi ⟨bs, rfl, bl, hD2, s2, rw2, fr2⟩
    obtain ⟨p, hp, rfl⟩ := get_ref hi
    have hil : i < zss.length := by rw [← al]; exact (List.getElem?_eq_some_iff.mp hp).1
    have er : zss[i]? = some zss[i] := List.getElem?_eq_getElem hil
    have hrow := s2 _ _ (hR.row i p zss[i] hp er)
    refine yesI ?_
    refine hte p H2 _ _ hrow fun q hq => ?_
    have nDq : D ≠ q := ne_of_none hD2 hq
    refine ⟨by rw [upd_ne nDq]; exact hD2, by rw [List.length_map, bl]; exact small1000 (by omega), bs ++ [q], by rw [List.map_append]; rfl, by rw [List.length_append, bl]; rfl, upd_same, fun b o e => ?_, fun j p' r e1 e2 => ?_, fun b hb => ?_⟩
    · rw [upd_ne (ne_of_none e hD), upd_ne (ne_of_none (s2 b o e) hq)]; exact s2 b o e
    · by_cases hj : j < bs.length
      · rw [List.getElem?_append_left hj] at e1
        have h2 := rw2 j p' r e1 e2
        rw [upd_ne (fr2 p' (List.mem_of_getElem? e1)).2, upd_ne (ne_of_none h2 hq)]; exact h2
      · rw [List.getElem?_append_right (by omega)] at e1
        have hz : j - bs.length = 0 := by
          have := (List.getElem?_eq_some_iff.mp e1).1
          simp at this; omega
        rw [hz] at e1
        have e3 : q = p' := by simpa using e1
        subst e3
        have e4 : j = i := by omega
        subst e4
        rw [er] at e2; cases e2
        rw [upd_ne nDq.symm, upd_same]
    · rcases List.mem_append.mp hb with z | z
      · exact fr2 b z
      · have e : b = q := by simpa using z
        subst e
        exact ⟨s2.free hq, nDq.symm⟩
  · rintro ys H2 ⟨bs, rfl, bl, hD2, s2, rw2, fr2⟩
    rw [List.length_map, al] at bl
    exact k bs H2 ⟨hD2, bl, fun i p z e1 e2 => rw2 i p z e1 e2⟩ s2 fun b hb => (fr2 b hb).1
end
end Tw
namespace Tw
open PySem L2
open PySem.Builtin.Int (intBits)
section
variable {P : Program} {w : World} {K : PySem.W.Frag} {mg : Str->Option Value} {base : Heap}
def mg1 (x k : Int) : Int := (x * 48271 + k * k * 69621 + 3) % 2147483647
def mg2 (x k : Int) : Int := mg1 x k * mg1 x k % 2147483629
def mgF (x k : Int) : Int := mg2 x k * mg2 x k % 2147483587
theorem mg1_lo (x k : Int) : 0 ≤ mg1 x k := Int.emod_nonneg _ (by decide)
theorem mg1_hi (x k : Int) : mg1 x k < 2147483647 := Int.emod_lt_of_pos _ (by decide)
theorem mg2_lo (x k : Int) : 0 ≤ mg2 x k := Int.emod_nonneg _ (by decide)
theorem mg2_hi (x k : Int) : mg2 x k < 2147483629 := Int.emod_lt_of_pos _ (by decide)
theorem mgF_lo (x k : Int) : 0 ≤ mgF x k := Int.emod_nonneg _ (by decide)
theorem mgF_hi (x k : Int) : mgF x k < 2147483587 := Int.emod_lt_of_pos _ (by decide)
def spMixed : Sp := fun vs H Q _ => ∃ x k : Int, vs = [.int x, .int k]/\-1000 < k/\k < 1000/\Q (.int (mgF x k)) H
theorem scMixed : FnScope ["_law_cell", "_law_k", "_law_number"] ["_law_cell", "_law_k"] (defScope sMixed) := ⟨rfl, rfl, rfl, by decide +kernel, rfl, by decide +kernel, by decide +kernel⟩
theorem ok_mixed {f : Addr} {fd : FuncData} (F : Def K mg "_law_mixed" sMixed ["_law_cell", "_law_k"] f fd) : FnOk P w K mg base CX0 1 f fd ["_law_cell", "_law_k"] spMixed := by
  refine F.fn.ok scMixed (fun vs H Q E h => ?_) (fun cdv A outer s H vs Q E hr h => ?_)
  · obtain ⟨x, k, rfl, _⟩ := h
    rfl
  · obtain ⟨x, k, rfl, k0, k1, q⟩ := h
    have nd := scMixed.nd
    refine ⟨_, (pss_cons (ps_set (i := 2) nd rfl (Or.inl rfl) (pe_op op_mod (pe_op op_add (pe_op op_add (pe_op op_mul (pv 0) pe_int) (pe_op op_mul (pe_op op_mul (pv 1) (pv 1)) pe_int)) pe_int) pe_int))
      (pss_cons (ps_set (i := 2) nd rfl (Or.inl rfl) (pe_op op_mod (pe_op op_mulB (pv 2) (pv 2)) pe_int))
      (pss_one (ps_ret (pe_op op_mod (pe_op op_mulB (pv 2) (pv 2)) pe_int))))), ?_⟩
    refine ⟨_, rfl, _, _, rfl, rfl, .inr ⟨by decide, by decide⟩, _, rfl, _, rfl, _, _, rfl, rfl, .inl ⟨by omega, by omega⟩, _, _, rfl, rfl, .inr ⟨by decide, by decide⟩, _, _, rfl, rfl, _, _, rfl, rfl, _, _, rfl, rfl, (by show (0 : Int) < 2147483647; decide), ?_⟩
    have a := mg1_lo x k; have b := mg1_hi x k
    have e1 : intBits (mg1 x k) ≤ 64 := bits_small (by omega) (by omega)
    refine ⟨_, rfl, _, rfl, _, _, rfl, rfl, mul_bits e1 e1 (by decide), _, _, rfl, rfl, (by show (0 : Int) < 2147483629; decide), ?_⟩
    have a := mg2_lo x k; have b := mg2_hi x k
    have e2 : intBits (mg2 x k) ≤ 64 := bits_small (by omega) (by omega)
    exact ⟨_, rfl, _, rfl, _, _, rfl, rfl, mul_bits e2 e2 (by decide), _, _, rfl, rfl, (by show (0 : Int) < 2147483587; decide), q⟩
def spNames : Sp := fun vs H Q _ => ∃ (c : Int) (n : Nat), vs = [.int c, .int n]/\n ≤ 12/\∀ (L : Addr) (l : List Int) (H' : Hp), Same H H'->H L = none->H' L = some (.lst (zV l))->l.Perm (pl n)->Q (.ref L) H'
theorem scNames : FnScope ["_law_cell", "_law_many", "_law_points", "_law_k"] ["_law_cell", "_law_many"] (defScope sNames) := ⟨rfl, rfl, rfl, by decide +kernel, rfl, by decide +kernel, by decide +kernel⟩
theorem ok_names {f : Addr} {fd : FuncData} (F : Def K mg "_law_names" sNames ["_law_cell", "_law_many"] f fd) (B : Bi K mg) : FnOk P w K mg base CX0 1 f fd ["_law_cell", "_law_many"] spNames := by
  refine F.fn.ok scNames (fun vs H Q E h => ?_) (fun cdv A outer s H vs Q E hr h => ?_)
  · obtain ⟨c, n, rfl, _⟩ := h
    rfl
  · obtain ⟨c, n, rfl, hn, k⟩ := h
    have nd := scNames.nd
    refine ⟨_, (pss_cons (ps_set (i := 2) nd rfl (Or.inl rfl) (pe_lst pa_nil))
      (pss_cons (ps_for PassesOwn.never rfl (pi_range1 rfl B.range (pa_cons (pv 1) pa_nil)) (pg_name (i := 3) nd rfl (Or.inl rfl)) (pss_cons (ps_expr (pe_bm PySem.F.plainAttrs_list PySem.F.slot_list_insert PySem.F.type_list_insert mt_insert (pv 2) (pa_consB (pe_op op_mod (pv 0) (pe_op op_add (pv 3) pe_int)) (pa_cons (pv 3) pa_nil))))
      (pss_one (ps_set (i := 0) nd rfl (Or.inl rfl) (pe_op op_fdiv (pv 0) (pe_op op_add (pv 3) pe_int))))))
      (pss_one (ps_ret (pv 2))))), ?_⟩
    refine ⟨by show 0 ≤ sizeLine; exact len12 (by decide), fun L hL => ?_⟩
    refine ⟨_, rfl, (n : Int), rfl, by omega, by omega, ?_⟩
    rw [Int.toNat_natCast]
    refine for_range (fun i σ H2 => ∃ (c : Int) (l : List Int) (v3 : Option V), σ = [some (.int c), some (.int n), some (.ref L), v3]/\l.Perm (pl i)/\H2 L = some (.lst (zV l))/\Same H H2) ⟨c, [], none, rfl, .refl _, upd_same, same_upd hL⟩ ?_ ?_
    · rintro i σ H2 hi ⟨c, l, v3, rfl, pm, hl2, sm⟩
      have ll : l.length = i := by rw [pm.length_eq, pl_length]
      refine ⟨_, rfl, .inl ⟨rfl, _, SqL.of hl2⟩, _, rfl, _, rfl, _, _, rfl, rfl, _, _, rfl, rfl, (by omega), _, rfl, ?_⟩
      have i0 := Int.emod_nonneg c (show (0 + (i : Int) + 1) ≠ 0 by omega)
      have i1 := Int.emod_lt_of_pos c (show (0 : Int) < 0 + (i : Int) + 1 by omega)
      obtain ⟨j, hj⟩ : ∃ j : Nat, c % (0 + (i : Int) + 1) = (j : Int) := ⟨_, (Int.toNat_of_nonneg i0).symm⟩
      refine ⟨L, _, j, _, rfl, (by rw [← hj]), hl2, by rw [zV_length]; omega, by rw [zV_length]; exact small1000 (by omega), ?_⟩
      refine ⟨_, rfl, _, rfl, _, _, rfl, rfl, _, _, rfl, rfl, ⟨by omega, by omega⟩, ?_⟩
      refine ⟨_, l.take j ++ (i : Int) :: l.drop j, _, rfl, names_step pm j, ?_, fun b o e => by rw [upd_ne (ne_of_none e hL)]; exact sm b o e⟩
      rw [upd_same, show (0 + (i : Int)) = (i : Int) by omega, zV_ins]
    · rintro σ H2 ⟨c, l, v3, rfl, pm, hl2, sm⟩
      exact ⟨_, rfl, k L l H2 sm hL hl2 pm⟩
def Nm (i : Nat) (x : Int) : Prop := 0 ≤ x/\x < 10 ^ 38/\(i < 48->x < 2147483587)
structure Nums (m : Nat) (xs : List Int) : Prop where
  len : xs.length = m
  ok : ∀ (i : Nat) (x : Int), xs[i]? = some x->Nm i x
theorem Nums.get {m : Nat} {xs : List Int} (h : Nums m xs) {i : Nat} (hi : i < m) : ∃ x, xs[i]? = some x/\0 ≤ x/\x < 10 ^ 38/\(i < 48->x < 2147483587) := by
  have hl : i < xs.length := by rw [h.len]; exact hi
  exact ⟨xs[i], List.getElem?_eq_getElem hl, h.ok i _ (List.getElem?_eq_getElem hl)⟩
theorem Nums.set {m : Nat} {xs : List Int} (h : Nums m xs) {i : Nat} {x : Int} (hx : Nm i x) : Nums m (xs.set i x) := by
  refine ⟨by rw [List.length_set]; exact h.len, fun j y e => ?_⟩
  by_cases q : i = j
  · subst q
    have hl : i < xs.length := by have := (List.getElem?_eq_some_iff.mp e).1; rw [List.length_set] at this; exact this
    rw [List.getElem?_set_self hl] at e; cases e; exact hx
  · rw [List.getElem?_set_ne q] at e; exact h.ok j y e
theorem Nums.snoc {m : Nat} {xs : List Int} (h : Nums m xs) {x : Int} (hx : Nm m x) : Nums (m + 1) (xs ++ [x]) := by
  refine ⟨by rw [List.length_append, h.len]; rfl, fun j y e => ?_⟩
  by_cases q : j < xs.length
  · rw [List.getElem?_append_left q] at e; exact h.ok j y e
  · rw [List.getElem?_append_right (by omega)] at e
    have hz : j - xs.length = 0 := by have := (List.getElem?_eq_some_iff.mp e).1; simp at this; omega
    rw [hz] at e
    have e2 : x = y := by simpa using e
    subst e2
    have : j = m := by have := h.len; omega
    subst this; exact hx
theorem Nums.nil : Nums 0 [] := ⟨rfl, fun i x e => by simp at e⟩
theorem zV_set (z : List Int) (i : Nat) (x : Int) : (zV z).set i (V.int x) = zV (z.set i x) := by unfold zV; rw [List.map_set]
theorem zV_cat (a b : List Int) : zV a ++ zV b = zV (a ++ b) := by unfold zV; rw [List.map_append]
theorem zV_of : ∀ {xs : List V} {p : Int->Prop}, (∀ v ∈ xs, ∃ z, v = V.int z/\p z)->∃ ls : List Int, xs = zV ls/\∀ z ∈ ls, p z
  | [], _, _ => ⟨[], rfl, fun _ h => nomatch h⟩
  | x :: t, p, h => by
    obtain ⟨z, rfl, hz⟩ := h x List.mem_cons_self
    obtain ⟨ls, rfl, hl⟩ := zV_of (xs := t) (p := p) fun v hv => h v (List.mem_cons_of_mem _ hv)
    refine ⟨z :: ls, rfl, fun y hy => ?_⟩
    rcases List.mem_cons.mp hy with rfl | e
    · exact hz
    · exact hl y e
theorem ixN_lt {n i : Nat} (h : i < n) : ixN n (i : Int) = some i := by
  unfold ixN
  rw [if_pos (by omega), if_pos (by omega)]; congr 1
theorem atI_m1 {α : Type} {xs : List α} {v : α} (h : xs[xs.length - 1]? = some v) : atI xs (-1) = some v := by
  have hl : 0 < xs.length := by have := (List.getElem?_eq_some_iff.mp h).1; omega
  unfold atI ixN
  rw [if_neg (by decide), if_pos (by omega)]
  show xs[((-1 : Int) + xs.length).toNat]? = _
  rw [show ((-1 : Int) + xs.length).toNat = xs.length - 1 by omega]; exact h
def spNumbers (K : PySem.W.Frag) : Sp := fun vs H Q _ => ∃ (a : Addr) (ns : List Int), vs = [.ref a]/\SqL K H a (zV ns)/\ns.length ≤ 63 ∧
  ∀ (L : Addr) (xs : List Int) (H' : Hp), Same H H'->H L = none->H' L = some (.lst (zV xs))->Nums 96 xs->Q (.ref L) H'
theorem scNumbers : FnScope ["_law_script", "_law_numbers_here", "_law_left", "_law_k", "_law_base", "_law_at"] ["_law_script"] (defScope sNumbers) := ⟨rfl, rfl, rfl, by decide +kernel, rfl, by decide +kernel, by decide +kernel⟩
theorem ok_numbers {f fM fA : Addr} {fd fdM fdA : FuncData} (F : Def K mg "_law_numbers" sNumbers ["_law_script"] f fd) (FM : Def K mg "_law_mixed" sMixed ["_law_cell", "_law_k"] fM fdM) (FA : Def K mg "_law_cell_at" sCell ["_law_script", "_law_k"] fA fdA) (B : Bi K mg) : FnOk P w K mg base CX0 2 f fd ["_law_script"] (spNumbers K) := by
  have GM : FnOk P w K mg base CX0 1 fM fdM ["_law_cell", "_law_k"] spMixed := ok_mixed FM
  have GA : FnOk P w K mg base CX0 1 fA fdA ["_law_script", "_law_k"] (spCell K) := ok_cell FA B
  refine F.fn.ok scNumbers (fun vs H Q E h => ?_) (fun cdv A outer s H vs Q E hr h => ?_)
  · obtain ⟨a, ns, rfl, _⟩ := h
    rfl
  · obtain ⟨a, ns, rfl, hS, hl, k⟩ := h
    have nd := scNumbers.nd
    have hu := hu_of hr
    refine ⟨_, (pss_cons (ps_set (i := 1) nd rfl (Or.inr rfl) (pe_comp (defScope sNumbers).names ["_law_script", "_law_numbers_here", "_law_left", "_law_k", "_law_base", "_law_at"] ["_law_script", "_law_numbers_here", "_law_left", "x3", "_law_base", "_law_at", "_law_k"] (pi_range1 rfl B.range (pa_consC pe_int pa_nil)) (fun _ _ _ _ => pf_nil) (fun _ _ _ _ => (pe_call GM (hr.mono (by decide)) rfl FM.mg FM.fn.kp FM.bn .nil pass0 (pa_cons (pe_call GA (hr.mono (by decide)) rfl FA.mg FA.fn.kp FA.bn .nil pass0 (pa_cons (pv 0) (pa_consC pe_int pa_nil))) (pa_consB (pe_op op_add pe_int (pv 6)) pa_nil))))))
      (pss_cons (ps_set (i := 2) nd rfl (Or.inl rfl) (pe_slice (slK K) (pv 0) (po_some pe_int) (po_some pe_int)))
      (pss_cons (ps_for PassesOwn.never rfl (pi_range1 rfl B.range (pa_cons (pe_callB (lenK K) (by rfl) B.len PySem.boot_len (pa_cons (pv 2) pa_nil)) pa_nil)) (pg_name (i := 3) nd rfl (Or.inl rfl)) (pss_one (ps_asg (pe_call GM (hr.mono (by decide)) rfl FM.mg FM.fn.kp FM.bn .nil pass0 (pa_consB (pe_op op_add (pe_ix (ixK K) (pv 1) (pe_op op_mod (pv 3) pe_int) (fun _ _ => rfl)) (pe_ix (ixK K) (pv 2) (pv 3) (fun _ _ => rfl))) (pa_consB (pe_op op_add (pv 3) pe_int) pa_nil))) (pg_sub (pv 1) (pe_op op_mod (pv 3) pe_int) set_list))))
      (pss_cons (ps_set (i := 1) nd rfl (Or.inr rfl) (pe_op op_cat (pv 1) (pe_comp (defScope sNumbers).names ["_law_script", "_law_numbers_here", "_law_left", "_law_k", "_law_base", "_law_at"] ["_law_script", "_law_numbers_here", "_law_left", "x3", "_law_base", "_law_at", "_law_k"] (pi_range1 rfl B.range (pa_consC pe_int pa_nil)) (fun _ _ _ _ => pf_nil) (fun _ _ _ _ => (pe_op op_add (pe_op op_mul (pe_ix (ixK K) (pv 1) (pv 6) (fun _ _ => rfl)) (pe_op op_pow pe_int pe_int)) (pe_ix (ixK K) (pv 1) (pe_op op_sub (pv 6) pe_int) (fun _ _ => rfl)))))))
      (pss_cons (ps_if (PW.pt (pw_and (pt_cmpR op_eq (pe_op op_mod (pe_op op_fdivB (pe_call GA (hr.mono (by decide)) rfl FA.mg FA.fn.kp FA.bn .nil pass0 (pa_cons (pv 0) (pa_consC pe_int pa_nil))) pe_int) pe_int) pe_int (nomark _)) (pw_and1 (pt_cmpR (op_neLK K (Nat.lt_of_succ_lt hu)) (pv 2) (pe_lst pa_nil) (nomark _))))) (pss_one (ps_for PassesOwn.never rfl (pi_range1 rfl B.range (pa_consC pe_int pa_nil)) (pg_name (i := 3) nd rfl (Or.inl rfl)) (pss_cons (ps_set (i := 4) nd rfl (Or.inl rfl) (pe_ix (ixK K) (pe_lst (pa_consC pe_int (pa_consB (pe_op op_pow pe_int pe_int) pa_nil))) (pe_op op_fdivB (pv 3) pe_int) (fun _ _ => rfl)))
      (pss_cons (ps_set (i := 5) nd rfl (Or.inl rfl) (pe_op op_mod (pv 3) (pe_callB (lenK K) (by rfl) B.len PySem.boot_len (pa_cons (pv 2) pa_nil))))
      (pss_cons (ps_asg (pe_op op_mod (pe_ix (ixK K) (pv 2) (pv 5) (fun _ _ => rfl)) (pv 4)) (pg_sub (pv 1) (pv 3) set_list))
      (pss_one (ps_asg (pe_op op_fdivB (pe_ix (ixK K) (pv 2) (pv 5) (fun _ _ => rfl)) (pv 4)) (pg_sub (pv 2) (pv 5) set_list)))))))) pss_nil)
      (pss_one (ps_ret (pv 1)))))))), ?_⟩
    refine ⟨(48 : Int), rfl, by decide, by decide, fun L hL => ?_⟩
    refine comp_range (n := 48) (fun i ys H2 => ∃ xs : List Int, ys = zV xs/\Nums i xs/\H2 L = some (.lst ys)/\Same H H2) (fun _ _ _ ⟨_, _, _, h, _⟩ => h) ⟨[], rfl, Nums.nil, upd_same, same_upd hL⟩ ?_ ?_
    · rintro i ys H2 hi ⟨xs, rfl, nm, hL2, s2⟩
      refine yesI ?_
      refine ⟨_, rfl, a, ns, 0, rfl, s2.seq hS, _, rfl, _, _, rfl, rfl, _, _, rfl, by omega, by omega, hL2, by rw [zV_length, nm.len]; exact small1000 (by omega), xs ++ [mgF (ns.getD 0 0) (90 + (0 + (i : Int)))], zV_append _ _, nm.snoc ?_, upd_same, fun b o e => by rw [upd_ne (ne_of_none e hL)]; exact s2 b o e⟩
      have a0 := mgF_lo (ns.getD 0 0) (90 + (0 + (i : Int))); have a1 := mgF_hi (ns.getD 0 0) (90 + (0 + (i : Int)))
      exact ⟨a0, by omega, fun _ => a1⟩
    rintro ys H2 ⟨xs0, rfl, nm0, hL2, s2⟩
    refine ⟨_, rfl, _, rfl, _, rfl, a, _, rfl, s2.seq hS, fun Z hZ => ?_⟩
    obtain ⟨ls, els, hls⟩ := zV_of (xs := cutV (zV ns) (some 2) (some 63)) (p := fun _ => True) fun v hv => by
      obtain ⟨z, _, e⟩ := List.mem_map.mp (show v ∈ ns.map V.int from mem_cutV hv)
      exact ⟨z, e.symm, trivial⟩
    have hll : ls.length ≤ 63 := by
      have h1 : (zV ls).length ≤ (zV ns).length := by rw [← els]; exact cutV_length _ _ _
      rw [zV_length, zV_length] at h1; omega
    rw [els]
    have nLZ : L ≠ Z := ne_of_none hL2 hZ
    have hZ0 : H Z = none := s2.free hZ
    refine ⟨_, rfl, Z, _, rfl, .inl (SqL.of upd_same), _, rfl, by omega, by rw [zV_length]; omega, ?_⟩
    rw [zV_length, Int.toNat_natCast]
    refine for_range (fun i σ H3 => ∃ (xs : List Int) (v3 : Option V), σ = [some (.ref a), some (.ref L), some (.ref Z), v3, none, none]/\Nums 48 xs/\H3 L = some (.lst (zV xs))/\H3 Z = some (.lst (zV ls))/\Same H H3) ⟨xs0, none, rfl, nm0, by rw [upd_ne nLZ]; exact hL2, upd_same, (Same.upd2 s2 hZ0)⟩ ?_ ?_
    · rintro i σ H3 hi ⟨xs, v3, rfl, nm, hL3, hZ3, s3⟩
      have m0 : (0 + (i : Int)) % 48 = ((i % 48 : Nat) : Int) := by omega
      obtain ⟨x, hx, x0, x1, x2⟩ := nm.get (show i % 48 < 48 by omega)
      obtain ⟨z, hz⟩ : ∃ z, ls[i]? = some z := ⟨_, List.getElem?_eq_getElem hi⟩
      refine ⟨_, rfl, _, rfl, _, _, rfl, rfl, (by show (0 : Int) < 48; decide), L, _, _, _, rfl, rfl, SqL.of hL3, (by rw [m0]; exact atI_nat (zV_get hx)), _, rfl, _, rfl, Z, _, _, _, rfl, rfl, SqL.of hZ3, atI_int (by omega) (by rw [show ((0 : Int) + (i : Int)).toNat = i by omega]; exact zV_get hz), _, _, rfl, rfl, _, rfl, _, _, rfl, rfl, _, _, rfl, by omega, by omega, ?_⟩
      refine ⟨_, rfl, _, rfl, _, _, rfl, rfl, (by show (0 : Int) < 48; decide), L, _, _, i % 48, rfl, rfl, hL3, (by rw [m0, zV_length, nm.len]; exact ixN_lt (by omega)), ?_⟩
      have a0 := mgF_lo (x + z) (0 + (i : Int) + 2); have a1 := mgF_hi (x + z) (0 + (i : Int) + 2)
      refine ⟨xs.set (i % 48) (mgF (x + z) (0 + (i : Int) + 2)), _, rfl, nm.set ⟨a0, by omega, fun _ => a1⟩, by rw [upd_same, zV_set], by rw [upd_ne nLZ.symm]; exact hZ3, fun b o e => by rw [upd_ne (ne_of_none e hL)]; exact s3 b o e⟩
    rintro σ H3 ⟨xs1, v3, rfl, nm1, hL3, hZ3, s3⟩
    refine ⟨_, rfl, (48 : Int), rfl, by decide, by decide, fun D hD => ?_⟩
    have nLD : L ≠ D := ne_of_none hL3 hD
    have nZD : Z ≠ D := ne_of_none hZ3 hD
    have hD0 : H D = none := s3.free hD
    refine comp_range (n := 48) (fun i ys H4 => ∃ xs : List Int, ys = zV xs/\xs.length = i/\(∀ x ∈ xs, 0 ≤ x/\x < 10 ^ 38)/\H4 D = some (.lst ys)/\Same H3 H4) (fun _ _ _ ⟨_, _, _, _, h, _⟩ => h) ⟨[], rfl, rfl, (fun _ h => nomatch h), upd_same, same_upd hD⟩ ?_ ?_
    · rintro i ys H4 hi ⟨xs, rfl, xl, xb, hD4, s4⟩
      refine yesI ?_
      obtain ⟨x, hx, x0, _, x1⟩ := nm1.get (show i < 48 by omega)
      obtain ⟨y, hy, y0, y1⟩ : ∃ y, atI (zV xs1) (0 + (i : Int) - 1) = some (V.int y)/\0 ≤ y/\y < 2147483587 := by
        rcases Nat.eq_zero_or_pos i with e | e
        · subst e
          obtain ⟨y, hy, y0, _, y1⟩ := nm1.get (show 47 < 48 by decide)
          exact ⟨y, (by rw [show (0 : Int) + ((0 : Nat) : Int) - 1 = -1 by omega]; exact atI_m1 (by rw [zV_length, nm1.len]; exact zV_get hy)), y0, y1 (by decide)⟩
        · obtain ⟨y, hy, y0, _, y1⟩ := nm1.get (show i - 1 < 48 by omega)
          exact ⟨y, atI_int (by omega) (by rw [show ((0 : Int) + (i : Int) - 1).toNat = i - 1 by omega]; exact zV_get hy), y0, y1 (by omega)⟩
      have x2 := x1 (by omega)
      refine ⟨_, rfl, _, rfl, L, _, _, _, rfl, rfl, SqL.of (s4 _ _ hL3), atI_int (by omega) (by rw [show ((0 : Int) + (i : Int)).toNat = i by omega]; exact zV_get hx), _, _, rfl, rfl, ⟨by decide, by decide, by decide⟩, _, _, rfl, rfl, .inl ⟨by omega, by omega⟩, _, rfl, _, rfl, _, _, rfl, rfl, L, _, _, _, rfl, rfl, SqL.of (s4 _ _ hL3), hy, _, _, rfl, rfl, hD4, by rw [zV_length, xl]; exact small1000 (by omega), xs ++ [x * 10 ^ 28 + y], zV_append _ _, by rw [List.length_append, xl]; rfl, fun v hv => ?_, upd_same, fun b o e => by rw [upd_ne (ne_of_none e hD)]; exact s4 b o e⟩
      rcases List.mem_append.mp hv with h | h
      · exact xb v h
      · have : v = x * 10 ^ 28 + y := by simpa using h
        subst this
        omega
    rintro ys H4 ⟨xs2, rfl, xl2, xb2, hD4, s4⟩
    refine ⟨L, D, _, _, rfl, rfl, s4 _ _ hL3, hD4, by rw [zV_length, zV_length, nm1.len, xl2]; exact len12 (by decide), fun M hM => ?_⟩
    rw [zV_cat]
    have nmM : Nums 96 (xs1 ++ xs2) := by
      refine ⟨by rw [List.length_append, nm1.len, xl2], fun j y e => ?_⟩
      by_cases q : j < xs1.length
      · rw [List.getElem?_append_left q] at e; exact nm1.ok j y e
      · rw [List.getElem?_append_right (by omega)] at e
        have := xb2 y (List.mem_of_getElem? e)
        have hl1 := nm1.len
        exact ⟨this.1, this.2, fun z => by omega⟩
    have hM0 : H M = none := (s3.trans s4).free hM
    have sM : Same H (upd H4 M (.lst (zV (xs1 ++ xs2)))) := (Same.upd2 (s3.trans s4) hM0)
    have nZM : Z ≠ M := ne_of_none (s4 _ _ hZ3) hM
    have hZM : (upd H4 M (.lst (zV (xs1 ++ xs2)))) Z = some (.lst (zV ls)) := by rw [upd_ne nZM]; exact s4 _ _ hZ3
    have hMM : (upd H4 M (.lst (zV (xs1 ++ xs2)))) M = some (.lst (zV (xs1 ++ xs2))) := upd_same
    generalize upd H4 M (.lst (zV (xs1 ++ xs2))) = H5 at sM hZM hMM
    refine ⟨_, rfl, a, ns, 1, rfl, sM.seq hS, _, _, rfl, rfl, ⟨by decide, by decide⟩, _, _, rfl, rfl, (by show (0 : Int) < 2; decide), rfl, _, rfl, ?_⟩
    rw [dec_vint]
    refine iteD (fun h1 => ?_) (fun h1 => ?_)
    · refine ⟨_, rfl, by show 0 ≤ sizeLine; exact len12 (by decide), fun U hU => ?_⟩
      have nMU : M ≠ U := ne_of_none hMM hU
      have nZU : Z ≠ U := ne_of_none hZM hU
      refine ⟨Z, U, _, _, rfl, rfl, SqL.of (by rw [upd_ne nZU]; exact hZM), SqL.of upd_same, zV_flat ls, rfl, _, rfl, ?_⟩
      have s6 : Same H (upd H5 U (.lst [])) := (Same.upd2 sM (sM.free hU))
      have hM6 : (upd H5 U (.lst [])) M = some (.lst (zV (xs1 ++ xs2))) := by rw [upd_ne nMU]; exact hMM
      have hZ6 : (upd H5 U (.lst [])) Z = some (.lst (zV ls)) := by rw [upd_ne nZU]; exact hZM
      generalize upd H5 U (.lst []) = H6 at s6 hM6 hZ6
      show (if (!eqVs (zV ls) []) = true then _ else _)
      refine iteN (fun e => ?_) (fun e => ?_)
      · have hlp : 0 < ls.length := by
          rcases Nat.eq_zero_or_pos ls.length with z | z
          · rw [List.length_eq_zero_iff.mp z] at e; exact absurd e (by decide)
          · exact z
        refine ⟨(96 : Int), rfl, by decide, by decide, ?_⟩
        refine for_range (n := 96) (fun i σ H7 => ∃ (xs zs : List Int) (v3 v4 v5 : Option V), σ = [some (.ref a), some (.ref M), some (.ref Z), v3, v4, v5]/\Nums 96 xs/\zs.length = ls.length/\H7 M = some (.lst (zV xs))/\H7 Z = some (.lst (zV zs))/\Same H H7) ⟨xs1 ++ xs2, ls, _, none, none, rfl, nmM, rfl, hM6, hZ6, s6⟩ ?_ ?_
        · rintro i σ H7 hi ⟨xs, zs, v3, v4, v5, rfl, nm, zl, hM7, hZ7, s7⟩
          refine ⟨_, _, rfl, rfl, ⟨by decide, by decide, by decide⟩, by show 2 ≤ sizeLine; exact len12 (by decide), fun p hp => ?_⟩
          refine ⟨_, rfl, _, _, rfl, rfl, ⟨by decide, by decide⟩, ?_⟩
          obtain ⟨bs, hbs, b0, b1, b2, b3⟩ : ∃ bs : Int, atI [V.int 2147483587, V.int (10 ^ (38 : Int).toNat)] ((0 + (i : Int)) / 48) = some (V.int bs)/\0 < bs/\bs ≤ 10 ^ 38/\(i < 48->bs = 2147483587)/\bs < 2 ^ 200 := by
            by_cases h : i < 48
            · exact ⟨2147483587, (by rw [show (0 + (i : Int)) / 48 = 0 by omega]; rfl), by decide, by decide, fun _ => rfl, by decide⟩
            · exact ⟨10 ^ 38, (by rw [show (0 + (i : Int)) / 48 = 1 by omega]; rfl), by decide, by decide, fun z => absurd z h, by decide⟩
          refine ⟨p, _, _, _, rfl, rfl, SqL.of upd_same, hbs, ?_⟩
          have nMp : M ≠ p := ne_of_none hM7 hp
          have nZp : Z ≠ p := ne_of_none hZ7 hp
          have s8 : Same H (upd H7 p (.lst [V.int 2147483587, V.int (10 ^ (38 : Int).toNat)])) := (Same.upd2 s7 (s7.free hp))
          have hM8 : (upd H7 p (.lst [V.int 2147483587, V.int (10 ^ (38 : Int).toNat)])) M = some (.lst (zV xs)) := by rw [upd_ne nMp]; exact hM7
          have hZ8 : (upd H7 p (.lst [V.int 2147483587, V.int (10 ^ (38 : Int).toNat)])) Z = some (.lst (zV zs)) := by rw [upd_ne nZp]; exact hZ7
          generalize upd H7 p (.lst [V.int 2147483587, V.int (10 ^ (38 : Int).toNat)]) = H8 at s8 hM8 hZ8
          refine ⟨_, rfl, _, rfl, Z, _, rfl, .inl (SqL.of hZ8), _, _, rfl, rfl, (by rw [zV_length]; omega), ?_⟩
          rw [zV_length, zl]
          have j0 := Int.emod_nonneg (0 + (i : Int)) (show ((ls.length : Nat) : Int) ≠ 0 by omega)
          have j1 := Int.emod_lt_of_pos (0 + (i : Int)) (show (0 : Int) < ((ls.length : Nat) : Int) by omega)
          obtain ⟨j, hj⟩ : ∃ j : Nat, (0 + (i : Int)) % ((ls.length : Nat) : Int) = (j : Int) := ⟨_, (Int.toNat_of_nonneg j0).symm⟩
          rw [hj] at j1
          obtain ⟨z, hz⟩ : ∃ z, zs[j]? = some z := ⟨_, List.getElem?_eq_getElem (show j < zs.length by omega)⟩
          refine ⟨_, rfl, _, rfl, Z, _, _, _, rfl, rfl, SqL.of hZ8, (by rw [hj]; exact atI_nat (zV_get hz)), _, rfl, _, _, rfl, rfl, b0, ?_⟩
          refine ⟨_, rfl, _, rfl, M, _, _, i, rfl, rfl, hM8, (by rw [zV_length, nm.len, show (0 : Int) + (i : Int) = ((i : Nat) : Int) by omega]; exact ixN_lt hi), ?_⟩
          have q0 := Int.emod_nonneg z (show bs ≠ 0 by omega)
          have q1 := Int.emod_lt_of_pos z b0
          have nMZ : Z ≠ M := nZM
          have hZ9 : (upd H8 M (.lst ((zV xs).set i (V.int (z % bs))))) Z = some (.lst (zV zs)) := by rw [upd_ne nMZ]; exact hZ8
          refine ⟨_, rfl, _, rfl, Z, _, _, _, rfl, rfl, SqL.of hZ9, (by rw [hj]; exact atI_nat (zV_get hz)), _, rfl, _, _, rfl, rfl, ⟨b0, b3⟩, ?_⟩
          refine ⟨_, rfl, _, rfl, Z, _, _, j, rfl, rfl, hZ9, (by rw [hj, zV_length]; exact ixN_lt (by omega)), ?_⟩
          refine ⟨xs.set i (z % bs), zs.set j (z / bs), _, _, _, rfl, nm.set ⟨q0, by omega, fun h => by rw [b2 h] at q1; rw [b2 h]; exact q1⟩, by rw [List.length_set]; exact zl, ?_, ?_, fun b o e => ?_⟩
          · rw [upd_ne nMZ.symm, upd_same, zV_set]
          · rw [upd_same, zV_set]
          · rw [upd_ne (ne_of_none e hZ0), upd_ne (ne_of_none e hM0)]; exact s8 b o e
        · rintro σ H7 ⟨xs, zs, v3, v4, v5, rfl, nm, zl, hM7, hZ7, s7⟩
          exact ⟨_, rfl, k M xs H7 s7 hM0 hM7 nm⟩
      · exact ⟨_, rfl, k M _ H6 s6 hM0 hM6 nmM⟩
    · exact ⟨_, rfl, k M _ H5 sM hM0 hMM nmM⟩
end
end Tw
namespace Tw
open PySem L2
open PySem.Builtin.Int (intBits)
section
variable {P : Program} {w : World} {K : PySem.W.Frag} {mg : Str->Option Value} {base : Heap}
def spTreeN (K : PySem.W.Frag) : Sp := fun vs H Q _ => ∃ (a : Addr) (ns : List Int), vs = [.ref a]/\SqL K H a (zV ns)/\ns.length ≤ 63 ∧
  ∀ (T A N : Addr) (as : List Addr) (n : Nat) (rs : List Road) (xs : List Int) (H' : Hp), H' T = some (.tup [.int n, .ref A, .ref N])->RoadsAt H' A as rs->Tree n rs->(∀ r ∈ rs, r.2.2 ≤ 10 ^ 38)->H' N = some (.lst (zV xs))->Nums 96 xs->Same H H'->Q (.ref T) H'
theorem scTree : FnScope ["_law_script", "_law_numbers_here", "_law_first", "_law_cell", "_law_many", "_law_span", "_law_names_here", "_law_roads", "_law_k", "_law_number", "_law_back", "_law_a", "_law_long", "_law_length", "_law_road"] ["_law_script"] (defScope sTree) := ⟨rfl, rfl, rfl, by decide +kernel, rfl, by decide +kernel, by decide +kernel⟩
theorem ok_tree {f fU fA fE : Addr} {fd fdU fdA fdE : FuncData} (F : Def K mg "_law_tree" sTree ["_law_script"] f fd) (FU : Def K mg "_law_numbers" sNumbers ["_law_script"] fU fdU) (FA : Def K mg "_law_cell_at" sCell ["_law_script", "_law_k"] fA fdA) (FE : Def K mg "_law_names" sNames ["_law_cell", "_law_many"] fE fdE) (GU : FnOk P w K mg base CX0 2 fU fdU ["_law_script"] (spNumbers K)) (B : Bi K mg) : FnOk P w K mg base CX0 3 f fd ["_law_script"] (spTreeN K) := by
  have GA : FnOk P w K mg base CX0 1 fA fdA ["_law_script", "_law_k"] (spCell K) := ok_cell FA B
  have GE : FnOk P w K mg base CX0 1 fE fdE ["_law_cell", "_law_many"] spNames := ok_names FE B
  refine F.fn.ok scTree (fun vs H Q E h => ?_) (fun cdv A outer s H vs Q E hr h => ?_)
  · obtain ⟨a, ns, rfl, _⟩ := h
    rfl
  · obtain ⟨a, ns, rfl, hS, hl, k⟩ := h
    have nd := scTree.nd
    refine ⟨_, (pss_cons (ps_set (i := 1) nd rfl (Or.inl rfl) (pe_call GU (hr.mono (by decide)) rfl FU.mg FU.fn.kp FU.bn .nil pass0 (pa_cons (pv 0) pa_nil)))
      (pss_cons (ps_set (i := 2) nd rfl (Or.inl rfl) (pe_call GA (hr.mono (by decide)) rfl FA.mg FA.fn.kp FA.bn .nil pass0 (pa_cons (pv 0) (pa_consC pe_int pa_nil))))
      (pss_cons (ps_set (i := 3) nd rfl (Or.inl rfl) (pe_call GA (hr.mono (by decide)) rfl FA.mg FA.fn.kp FA.bn .nil pass0 (pa_cons (pv 0) (pa_consC pe_int pa_nil))))
      (pss_cons (ps_set (i := 4) nd rfl (Or.inl rfl) (pe_ix (ixK K) (pe_lst (pa_consB (pe_op op_add pe_int (pe_op op_mod (pe_op op_fdiv (pv 2) pe_int) pe_int)) (pa_consC pe_int (pa_consB (pe_op op_add pe_int (pe_op op_mod (pe_op op_fdiv (pv 2) pe_int) pe_int)) pa_nil)))) (pe_op op_mod (pv 2) pe_int) (fun _ _ => rfl)))
      (pss_cons (ps_set (i := 5) nd rfl (Or.inl rfl) (pe_ix (ixK K) (pe_lst (pa_consC pe_int (pa_consC pe_int (pa_consC pe_int (pa_consC pe_int pa_nil))))) (pe_op op_mod (pv 3) pe_int) (fun _ _ => rfl)))
      (pss_cons (ps_set (i := 6) nd rfl (Or.inl rfl) (pe_call GE (hr.mono (by decide)) rfl FE.mg FE.fn.kp FE.bn .nil pass0 (pa_consS (pe_ix (ixK K) (pv 1) pe_int (fun _ _ => rfl)) (pa_cons (pv 4) pa_nil))))
      (pss_cons (ps_set (i := 7) nd rfl (Or.inl rfl) (pe_lst pa_nil))
      (pss_cons (ps_for PassesOwn.never rfl (pi_range2 rfl B.range (pa_consC pe_int (pa_cons (pv 4) pa_nil))) (pg_name (i := 8) nd rfl (Or.inl rfl)) (pss_cons (ps_set (i := 9) nd rfl (Or.inl rfl) (pe_ix (ixK K) (pv 1) (pv 8) (fun _ _ => rfl)))
      (pss_cons (ps_set (i := 10) nd rfl (Or.inl rfl) (pe_op op_mod (pv 9) (pe_callB (call_min2 rfl) (by rfl) B.min PyProof.Rows.boot_min (pa_cons (pv 8) (pa_cons (pv 5) pa_nil)))))
      (pss_cons (ps_set (i := 11) nd rfl (Or.inl rfl) (pe_ix (ixK K) (pv 6) (pe_ix (ixK K) (pe_lst (pa_consB (pe_op op_sub (pe_op op_sub (pv 8) pe_int) (pv 10)) (pa_cons (pv 10) pa_nil))) (pe_callTy call_int1 (by rfl) B.int PyProof.Rows.boot_int (pa_cons (pe_cmpR op_eq (pe_op op_mod (pv 3) pe_int) pe_int (nomark _)) pa_nil)) (fun _ _ => rfl)) (fun _ _ => rfl)))
      (pss_cons (ps_set (i := 12) nd rfl (Or.inl rfl) (pe_ix (ixK K) (pe_lst (pa_consC pe_int (pa_consC pe_int (pa_consB (pe_op op_add (pe_op op_pow pe_int pe_int) (pv 9)) pa_nil)))) (pe_op op_mod (pe_op op_fdiv (pv 9) pe_int) pe_int) (fun _ _ => rfl)))
      (pss_cons (ps_set (i := 13) nd rfl (Or.inl rfl) (pe_ix (ixK K) (pe_lst (pa_consC pe_int (pa_consB (pe_op op_add pe_int (pe_op op_mod (pe_op op_fdiv (pv 9) pe_int) pe_int)) (pa_cons (pv 12) (pa_consB (pe_op op_add pe_int (pe_ix (ixK K) (pv 1) (pe_op op_add pe_int (pv 8)) (fun _ _ => rfl))) pa_nil))))) (pe_op op_mod (pe_op op_fdiv (pv 3) pe_int) pe_int) (fun _ _ => rfl)))
      (pss_cons (ps_set (i := 14) nd rfl (Or.inl rfl) (pe_ix (ixK K) (pe_lst (pa_consL (pe_lst (pa_cons (pv 11) (pa_consS (pe_ix (ixK K) (pv 6) (pv 8) (fun _ _ => rfl)) (pa_cons (pv 13) pa_nil)))) (pa_consL (pe_lst (pa_consS (pe_ix (ixK K) (pv 6) (pv 8) (fun _ _ => rfl)) (pa_cons (pv 11) (pa_cons (pv 13) pa_nil)))) pa_nil))) (pe_op op_mod (pe_op op_fdiv (pv 9) pe_int) pe_int) (fun _ _ => rfl)))
      (pss_one (ps_expr (pe_bm PySem.F.plainAttrs_list PySem.F.slot_list_insert PySem.F.type_list_insert mt_insert (pv 7) (pa_consB (pe_op op_mod (pe_op op_fdiv (pv 9) pe_int) (pe_op op_add (pe_callB (lenK K) (by rfl) B.len PySem.boot_len (pa_cons (pv 7) pa_nil)) pe_int)) (pa_cons (pv 14) pa_nil))))))))))))
      (pss_one (ps_ret (pe_tup (pa_cons (pv 4) (pa_cons (pv 7) (pa_cons (pv 1) pa_nil)))))))))))))), ?_⟩
    refine ⟨_, rfl, a, ns, rfl, hS, hl, fun N xs H1 s1 hN0 hN1 nm => ?_⟩
    refine ⟨_, rfl, a, ns, 0, rfl, s1.seq hS, ?_⟩
    generalize ns.getD 0 0 = c
    refine ⟨_, rfl, a, ns, 1, rfl, s1.seq hS, ?_⟩
    generalize ns.getD 1 0 = d
    refine ⟨_, rfl, _, _, rfl, rfl, ⟨by decide, by decide⟩, _, _, rfl, rfl, (by show (0 : Int) < 12; decide), _, _, rfl, rfl,
      _, rfl, _, _, rfl, rfl, ⟨by decide, by decide⟩, _, _, rfl, rfl, (by show (0 : Int) < 12; decide), _, _, rfl, rfl, by show 3 ≤ sizeLine; exact len12 (by decide), fun p hp => ?_⟩
    refine ⟨_, rfl, _, _, rfl, rfl, (by show (0 : Int) < 3; decide), ?_⟩
    obtain ⟨v, hv, hs, hat, _⟩ := pick_list (K := K) (H := upd H1 p (.lst [V.int (1 + c / 3 % 12), V.int 12, V.int (1 + c / 3 % 12)])) upd_same (i := c % 3) (Int.emod_nonneg _ (by decide)) (Int.emod_lt_of_pos _ (by decide))
    refine ⟨p, _, _, v, rfl, rfl, hs, hat, ?_⟩
    obtain ⟨m, rfl, m1, m2⟩ : ∃ m : Nat, v = V.int m/\1 ≤ m/\m ≤ 12 := by
      simp only [List.mem_cons, List.not_mem_nil, or_false] at hv
      rcases hv with rfl | rfl | rfl
      · exact ⟨(1 + c / 3 % 12).toNat, by congr 1; omega, by omega, by omega⟩
      · exact ⟨12, rfl, by omega, by omega⟩
      · exact ⟨(1 + c / 3 % 12).toNat, by congr 1; omega, by omega, by omega⟩
    have s2 := s1.trans (same_upd (o := .lst [V.int (1 + c / 3 % 12), V.int 12, V.int (1 + c / 3 % 12)]) hp)
    have hN2 : (upd H1 p (.lst [V.int (1 + c / 3 % 12), V.int 12, V.int (1 + c / 3 % 12)])) N = some (.lst (zV xs)) := by rw [upd_ne (ne_of_none hN1 hp)]; exact hN1
    generalize upd H1 p (.lst [V.int (1 + c / 3 % 12), V.int 12, V.int (1 + c / 3 % 12)]) = H2 at s2 hN2
    clear hs hat hp
    refine ⟨by show 4 ≤ sizeLine; exact len12 (by decide), fun p hp => ?_⟩
    refine ⟨_, rfl, _, _, rfl, rfl, (by show (0 : Int) < 4; decide), ?_⟩
    obtain ⟨v, hv, hs, hat, _⟩ := pick_list (K := K) (H := upd H2 p (.lst [V.int 12, V.int 1, V.int 1, V.int 3])) upd_same (i := d % 4) (Int.emod_nonneg _ (by decide)) (Int.emod_lt_of_pos _ (by decide))
    refine ⟨p, _, _, v, rfl, rfl, hs, hat, ?_⟩
    obtain ⟨sp, rfl, sp1⟩ : ∃ sp : Int, v = V.int sp/\1 ≤ sp := by
      simp only [List.mem_cons, List.not_mem_nil, or_false] at hv
      rcases hv with rfl | rfl | rfl | rfl
      · exact ⟨12, rfl, by decide⟩
      · exact ⟨1, rfl, by decide⟩
      · exact ⟨1, rfl, by decide⟩
      · exact ⟨3, rfl, by decide⟩
    have s3 := s2.trans (same_upd (o := .lst [V.int 12, V.int 1, V.int 1, V.int 3]) hp)
    have hN3 : (upd H2 p (.lst [V.int 12, V.int 1, V.int 1, V.int 3])) N = some (.lst (zV xs)) := by rw [upd_ne (ne_of_none hN2 hp)]; exact hN2
    generalize upd H2 p (.lst [V.int 12, V.int 1, V.int 1, V.int 3]) = H3 at s3 hN3
    clear hs hat hp hv hN2 s2
    obtain ⟨c0, hc0, _⟩ := nm.get (show 47 < 96 by decide)
    refine ⟨_, rfl, N, _, _, _, rfl, rfl, SqL.of hN3, atI_int (by decide) (zV_get hc0), _, rfl, c0, m, rfl, m2, fun NL names H4 s4 hNL0 hNL4 pm => ?_⟩
    have nl : names.length = m := by rw [pm.length_eq, pl_length]
    have nnd : names.Nodup := pm.nodup_iff.mpr (pl_nodup m)
    have hN4 := s4 _ _ hN3
    have sm4 := s3.trans s4
    refine ⟨by show 0 ≤ sizeLine; exact len12 (by decide), fun RL hRL => ?_⟩
    have hRL0 : H RL = none := sm4.free hRL
    have nNR : NL ≠ RL := ne_of_none hNL4 hRL
    have nR : N ≠ RL := ne_of_none hN4 hRL
    refine ⟨_, rfl, (1 : Int), (m : Int), rfl, ⟨by decide, by decide, by omega, by omega⟩, ?_⟩
    rw [show ((m : Int) - 1).toNat = m - 1 by omega]
    refine for_range (fun i σ H5 => ∃ (as : List Addr) (rs : List Road) (v8 v9 v10 v11 v12 v13 v14 : Option V), σ = [some (.ref a), some (.ref N), some (.int c), some (.int d), some (.int m), some (.int sp), some (.ref NL), some (.ref RL), v8, v9, v10, v11, v12, v13, v14]/\RoadsAt H5 RL as rs/\Tr rs (names.take (i + 1))/\(∀ r ∈ rs, 1 ≤ r.2.2/\r.2.2 ≤ 10 ^ 38) ∧
      H5 NL = some (.lst (zV names))/\H5 N = some (.lst (zV xs))/\Same H H5) ?_ ?_ ?_
    · refine ⟨[], [], none, none, none, none, none, none, none, rfl, ⟨⟨upd_same, rfl, fun i p z e => by simp at e⟩, List.nodup_nil⟩, ?_, (fun r hr => nomatch hr), by rw [upd_ne nNR]; exact hNL4, by rw [upd_ne nR]; exact hN4, (Same.upd2 sm4 hRL0)⟩
      match names, nl with
      | x :: t, _ => exact .one x
      | [], e => simp at e; omega
    · rintro i σ H5 hi ⟨as, rs, v8, v9, v10, v11, v12, v13, v14, rfl, hR5, tr, hlen, hNL5, hN5, sm5⟩
      have rl : rs.length = i := by
        have := tr.length
        rw [List.length_take] at this; omega
      have al := hR5.len
      obtain ⟨x, hx, x0, _, x1⟩ := nm.get (show i + 1 < 96 by omega)
      have x2 := x1 (by omega)
      refine ⟨_, rfl, _, rfl, N, _, _, _, rfl, rfl, SqL.of hN5, atI_int (by omega) (by rw [show (1 + (i : Int)).toNat = i + 1 by omega]; exact zV_get hx), ?_⟩
      have mp : 0 < (if sp < 1 + (i : Int) then sp else 1 + (i : Int)) := by split <;> omega
      have ml : (if sp < 1 + (i : Int) then sp else 1 + (i : Int)) ≤ 1 + (i : Int) := by split <;> omega
      refine ⟨_, rfl, _, rfl, _, rfl, _, _, rfl, _, _, rfl, rfl, mp, ?_⟩
      have b0 := Int.emod_nonneg x (Int.ne_of_gt mp)
      have b1 := Int.emod_lt_of_pos x mp
      obtain ⟨b, hb⟩ : ∃ b, b = x % (if sp < 1 + (i : Int) then sp else 1 + (i : Int)) := ⟨_, rfl⟩
      rw [← hb] at b0 b1
      refine ⟨_, rfl, _, rfl, _, _, rfl, rfl, _, rfl, _, _, rfl, rfl, _, rfl, by show 2 ≤ sizeLine; exact len12 (by decide), fun p hp => ?_⟩
      refine ⟨_, rfl, _, _, rfl, rfl, (by show (0 : Int) < 4; decide), rfl, .inr ⟨_, rfl, ?_⟩⟩
      obtain ⟨o, ho, o0, o1⟩ : ∃ o : Int, atI [V.int (1 + (i : Int) - 1 - x % (if sp < 1 + (i : Int) then sp else 1 + (i : Int))), V.int (x % (if sp < 1 + (i : Int) then sp else 1 + (i : Int)))] (if decide (V.int (d % 4) = V.int 2) = true then 1 else 0) = some (V.int o)/\0 ≤ o/\o < 1 + (i : Int) := by
        rw [← hb]
        cases decide (V.int (d % 4) = V.int 2) with
        | true => exact ⟨b, rfl, b0, by omega⟩
        | false => exact ⟨1 + (i : Int) - 1 - b, rfl, by omega, by omega⟩
      refine ⟨p, _, _, _, rfl, rfl, SqL.of upd_same, ho, ?_⟩
      have s6 := same_upd (o := .lst [V.int (1 + (i : Int) - 1 - x % (if sp < 1 + (i : Int) then sp else 1 + (i : Int))), V.int (x % (if sp < 1 + (i : Int) then sp else 1 + (i : Int)))]) hp
      generalize upd H5 p (.lst [V.int (1 + (i : Int) - 1 - x % (if sp < 1 + (i : Int) then sp else 1 + (i : Int))), V.int (x % (if sp < 1 + (i : Int) then sp else 1 + (i : Int)))]) = H6 at s6
      clear hp
      obtain ⟨u, hu⟩ : ∃ u, names[o.toNat]? = some u := ⟨names[o.toNat]'(by omega), List.getElem?_eq_getElem _⟩
      obtain ⟨y, hy⟩ : ∃ y, names[i + 1]? = some y := ⟨names[i + 1]'(by omega), List.getElem?_eq_getElem _⟩
      refine ⟨NL, _, _, _, rfl, rfl, SqL.of (s6 _ _ hNL5), atI_int o0 (zV_get hu), ?_⟩
      refine ⟨_, _, rfl, rfl, ⟨by decide, by decide, by decide⟩, _, rfl, _, _, rfl, rfl, by show 3 ≤ sizeLine; exact len12 (by decide), fun p hp => ?_⟩
      refine ⟨_, rfl, _, _, rfl, rfl, ⟨by decide, by decide⟩, _, _, rfl, rfl, (by show (0 : Int) < 3; decide), ?_⟩
      obtain ⟨v, hv, hs, hat, _⟩ := pick_list (K := K) (H := upd H6 p (.lst [V.int 1, V.int 7, V.int (10 ^ (30 : Int).toNat + x)])) upd_same (i := x / 16 % 3) (Int.emod_nonneg _ (by decide)) (Int.emod_lt_of_pos _ (by decide))
      refine ⟨p, _, _, v, rfl, rfl, hs, hat, ?_⟩
      obtain ⟨lg, rfl, lg0, lg1⟩ : ∃ lg : Int, v = V.int lg/\1 ≤ lg/\lg ≤ 10 ^ 38 := by
        simp only [List.mem_cons, List.not_mem_nil, or_false] at hv
        rcases hv with rfl | rfl | rfl
        · exact ⟨1, rfl, by decide, by decide⟩
        · exact ⟨7, rfl, by decide, by decide⟩
        · have e : (10 : Int) ^ (30 : Int).toNat = 10 ^ 30 := rfl
          exact ⟨_, rfl, by rw [e]; omega, by rw [e]; omega⟩
      have s7 := s6.trans (same_upd (o := .lst [V.int 1, V.int 7, V.int (10 ^ (30 : Int).toNat + x)]) hp)
      generalize upd H6 p (.lst [V.int 1, V.int 7, V.int (10 ^ (30 : Int).toNat + x)]) = H7 at s7
      clear hs hat hp hv s6
      obtain ⟨g, hg, g0, g1, _⟩ := nm.get (show 48 + (i + 1) < 96 by omega)
      refine ⟨_, rfl, _, _, rfl, rfl, ⟨by decide, by decide⟩, _, _, rfl, rfl, (by show (0 : Int) < 9; decide), _, _, rfl, rfl, _, rfl, _, rfl, _, rfl, _, _, rfl, rfl, N, _, _, _, rfl, rfl, SqL.of (s7 _ _ hN5), atI_int (by omega) (by rw [show (48 + (1 + (i : Int))).toNat = 48 + (i + 1) by omega]; exact zV_get hg), _, _, rfl, rfl, by show 4 ≤ sizeLine; exact len12 (by decide), fun p hp => ?_⟩
      refine ⟨_, rfl, _, _, rfl, rfl, ⟨by decide, by decide⟩, _, _, rfl, rfl, (by show (0 : Int) < 4; decide), ?_⟩
      obtain ⟨v, hv, hs, hat, _⟩ := pick_list (K := K) (H := upd H7 p (.lst [V.int 1, V.int (1 + x / 16 % 9), V.int lg, V.int (1 + g)])) upd_same (i := d / 4 % 4) (Int.emod_nonneg _ (by decide)) (Int.emod_lt_of_pos _ (by decide))
      refine ⟨p, _, _, v, rfl, rfl, hs, hat, ?_⟩
      obtain ⟨len, rfl, l0, l1⟩ : ∃ len : Int, v = V.int len/\1 ≤ len/\len ≤ 10 ^ 38 := by
        simp only [List.mem_cons, List.not_mem_nil, or_false] at hv
        rcases hv with rfl | rfl | rfl | rfl
        · exact ⟨1, rfl, by decide, by decide⟩
        · exact ⟨_, rfl, by omega, by omega⟩
        · exact ⟨_, rfl, lg0, lg1⟩
        · exact ⟨_, rfl, by omega, by omega⟩
      have s8 := s7.trans (same_upd (o := .lst [V.int 1, V.int (1 + x / 16 % 9), V.int lg, V.int (1 + g)]) hp)
      generalize upd H7 p (.lst [V.int 1, V.int (1 + x / 16 % 9), V.int lg, V.int (1 + g)]) = H8 at s8
      clear hs hat hp hv s7
      have aty : atI (zV names) (1 + (i : Int)) = some (V.int y) := atI_int (by omega) (by rw [show (1 + (i : Int)).toNat = i + 1 by omega]; exact zV_get hy)
      refine ⟨_, rfl, _, rfl, _, rfl, NL, _, _, _, rfl, rfl, SqL.of (s8 _ _ hNL5), aty, _, rfl, by show 3 ≤ sizeLine; exact len12 (by decide), fun q1 hq1 => ?_⟩
      have s9 := s8.trans (same_upd (o := .lst [V.int u, V.int y, V.int len]) hq1)
      refine ⟨_, rfl, _, rfl, NL, _, _, _, rfl, rfl, SqL.of (s9 _ _ hNL5), aty, _, rfl, _, rfl, by show 3 ≤ sizeLine; exact len12 (by decide), fun q2 hq2 => ?_⟩
      have s10 := s9.trans (same_upd (o := .lst [V.int y, V.int u, V.int len]) hq2)
      refine ⟨by show 2 ≤ sizeLine; exact len12 (by decide), fun q3 hq3 => ?_⟩
      have s11 := s10.trans (same_upd (o := .lst [V.ref q1, V.ref q2]) hq3)
      have n12 : q1 ≠ q2 := fun z => by rw [← z, upd_same] at hq2; cases hq2
      have n13 : q1 ≠ q3 := fun z => by rw [← z, upd_ne n12, upd_same] at hq3; cases hq3
      have n23 : q2 ≠ q3 := fun z => by rw [← z, upd_same] at hq3; cases hq3
      have f1 : H5 q1 = none := s8.free hq1
      have f2 : H5 q2 = none := s9.free hq2
      have e1 : (upd (upd (upd H8 q1 (.lst [V.int u, V.int y, V.int len])) q2 (.lst [V.int y, V.int u, V.int len])) q3 (.lst [V.ref q1, V.ref q2])) q1 = some (.lst [V.int u, V.int y, V.int len]) := by rw [upd_ne n13, upd_ne n12, upd_same]
      have e2 : (upd (upd (upd H8 q1 (.lst [V.int u, V.int y, V.int len])) q2 (.lst [V.int y, V.int u, V.int len])) q3 (.lst [V.ref q1, V.ref q2])) q2 = some (.lst [V.int y, V.int u, V.int len]) := by rw [upd_ne n23, upd_same]
      have e3 : (upd (upd (upd H8 q1 (.lst [V.int u, V.int y, V.int len])) q2 (.lst [V.int y, V.int u, V.int len])) q3 (.lst [V.ref q1, V.ref q2])) q3 = some (.lst [V.ref q1, V.ref q2]) := upd_same
      generalize upd (upd (upd H8 q1 (.lst [V.int u, V.int y, V.int len])) q2 (.lst [V.int y, V.int u, V.int len])) q3 (.lst [V.ref q1, V.ref q2]) = H9 at s11 e1 e2 e3
      refine ⟨_, rfl, _, _, rfl, rfl, ⟨by decide, by decide⟩, _, _, rfl, rfl, (by show (0 : Int) < 2; decide), ?_⟩
      obtain ⟨q, r, hq, hat, q0, hrow, jn, rlen⟩ : ∃ (q : Addr) (r : Road), (q = q1 ∨ q = q2)/\atI [V.ref q1, V.ref q2] (x / 64 % 2) = some (V.ref q)/\H5 q = none/\H9 q = some (.lst (zV (rowI r)))/\Joins r u y/\r.2.2 = len := by
        have m0 := Int.emod_nonneg (x / 64) (show (2 : Int) ≠ 0 by decide)
        have m1 := Int.emod_lt_of_pos (x / 64) (show (0 : Int) < 2 by decide)
        by_cases h : x / 64 % 2 = 0
        · exact ⟨q1, (u, y, len), .inl rfl, (by rw [h]; rfl), f1, e1, .inl ⟨rfl, rfl⟩, rfl⟩
        · exact ⟨q2, (y, u, len), .inr rfl, (by rw [show x / 64 % 2 = 1 by omega]; rfl), f2, e2, .inr ⟨rfl, rfl⟩, rfl⟩
      refine ⟨q3, _, _, _, rfl, rfl, SqL.of e3, hat, ?_⟩
      have hR9 := s11 _ _ hR5.rows.top
      refine ⟨_, rfl, .inl ⟨rfl, _, SqL.of hR9⟩, _, rfl, _, _, rfl, rfl, ⟨by decide, by decide⟩, _, rfl, RL, _, rfl, .inl (SqL.of hR9), _, _, rfl, rfl, _, _, rfl, rfl, (by omega), _, rfl, ?_⟩
      have i0 := Int.emod_nonneg (x / 128) (show (((as.map V.ref).length : Nat) : Int) + 1 ≠ 0 by omega)
      have i1 := Int.emod_lt_of_pos (x / 128) (show (0 : Int) < (((as.map V.ref).length : Nat) : Int) + 1 by omega)
      rw [List.length_map, al, rl] at i0 i1
      obtain ⟨j, hj⟩ : ∃ j : Nat, x / 128 % (((as.map V.ref).length : Nat) + 1 : Int) = (j : Int) := by
        rw [List.length_map, al, rl]; exact ⟨_, (Int.toNat_of_nonneg i0).symm⟩
      have hj' := hj
      rw [List.length_map, al, rl] at hj'
      refine ⟨RL, _, j, _, rfl, (by rw [← hj]), hR9, by rw [List.length_map, al]; omega, by rw [List.length_map, al]; exact small1000 (by omega), ?_⟩
      refine ⟨as.take j ++ q :: as.drop j, rs.take j ++ r :: rs.drop j, _, _, _, _, _, _, _, rfl, hR5.ins s11 q0 hrow (by omega), ?_, ?_, ?_, ?_, ?_⟩
      · exact grow_step tr nnd (show o.toNat < i + 1 by omega) (by omega) hu hy jn j
      · intro z hz
        rcases List.mem_cons.mp ((ins_perm rs j r).mem_iff.mp hz) with e | e
        · subst e; rw [rlen]; exact ⟨l0, l1⟩
        · exact hlen z e
      · rw [upd_ne nNR]; exact s11 _ _ hNL5
      · rw [upd_ne nR]; exact s11 _ _ hN5
      · intro b o e
        rw [upd_ne (ne_of_none e hRL0)]; exact s11 b o (sm5 b o e)
    rintro σ H5 ⟨as, rs, v8, v9, v10, v11, v12, v13, v14, rfl, hR5, tr, hlen, hNL5, hN5, sm5⟩
    have tr0 : Tree m rs := by
      refine ⟨m1, m2, tr.perm (.refl _) ?_, fun r hr => (hlen r hr).1⟩
      rw [show m - 1 + 1 = m by omega, ← nl, List.take_length]
      rw [nl]; exact pm.symm
    refine ⟨_, rfl, _, rfl, _, rfl, by show 3 ≤ sizeLine; exact len12 (by decide), fun T hT => ?_⟩
    have s6 := same_upd (o := .tup [V.int m, V.ref RL, V.ref N]) hT
    exact k T RL N as m rs xs _ upd_same (hR5.mono s6) tr0 (fun r hr => (hlen r hr).2) (s6 _ _ hN5) nm (sm5.trans s6)
end
end Tw
namespace Tw
open PySem L2
open PySem.Builtin.Int (intBits)
section
variable {P : Program} {w : World} {K : PySem.W.Frag} {mg : Str->Option Value} {base : Heap}
def spCopy : Sp := fun vs H Q _ => ∃ (A : Addr) (as : List Addr) (zss : List (List Int)), vs = [.ref A]/\RowsAt H A as zss/\zss.length ≤ 100 ∧
  ∀ (D : Addr) (bs : List Addr) (H' : Hp), RowsAt H' D bs zss->Same H H'->(∀ b ∈ bs, H b = none)->H D = none->Q (.ref D) H'
theorem scCopy : FnScope ["_law_rows"] ["_law_rows"] (defScope sCopy) := ⟨rfl, rfl, rfl, by decide +kernel, rfl, by decide +kernel, by decide +kernel⟩
theorem ok_copy {f : Addr} {fd : FuncData} (F : Def K mg "_law_copy" sCopy ["_law_rows"] f fd) (B : Bi K mg) : FnOk P w K mg base CX0 1 f fd ["_law_rows"] spCopy := by
  refine F.fn.ok scCopy (fun vs H Q E h => ?_) (fun cdv A outer s H vs Q E hr h => ?_)
  · obtain ⟨A, as, zss, rfl, _⟩ := h
    rfl
  · obtain ⟨A, as, zss, rfl, hR, hz, k⟩ := h
    refine ⟨_, (pss_one (ps_ret (pe_comp (defScope sCopy).names ["_law_rows"] ["_law_rows", "_law_row"] (pi_listK K (pv 0)) (fun _ _ _ _ => pf_nil) (fun _ _ _ _ => (pe_callTy (listK K) (by rfl) B.list PyProof.Rows.boot_list (pa_cons (pv 1) pa_nil)))))), ?_⟩
    refine ⟨_, rfl, A, rfl, ⟨_, SqL.of hR.top⟩, fun D hD => ?_⟩
    exact copy_rows hR hz hD (fun p H4 Qv zs hp kk => ⟨_, rfl, p, _, rfl, .inl (SqL.of hp), kk⟩) fun bs H2 hHd s2 fr2 => k D bs H2 hHd s2 fr2 hD
end
end Tw
namespace Tw
open PySem L2
open PySem.Builtin.Int (intBits)
section
variable {P : Program} {w : World} {K : PySem.W.Frag} {mg : Str->Option Value} {base : Heap}
theorem scLWhole : FnScope ["_law_found"] ["_law_found"] (defScope sLWhole) := ⟨rfl, rfl, rfl, by decide +kernel, rfl, by decide +kernel, by decide +kernel⟩
theorem ok_lwhole {f : Addr} {fd : FuncData} (F : Def K mg "_law_whole" sLWhole ["_law_found"] f fd) (B : Bi K mg) : FnOk P w K mg base CX0 1 f fd ["_law_found"] spWhole := by
  refine F.fn.ok scLWhole (fun vs H Q E h => ?_) (fun cdv A outer s H vs Q E hr h => ?_)
  · obtain ⟨i, rfl, _⟩ := h
    rfl
  · obtain ⟨i, rfl, k⟩ := h
    refine ⟨_, pss_one (ps_ret (pe_and (pe_callB call_isinst (by rfl) B.isinstance PyProof.Rows.boot_isinstance (pa_cons (pv 0) (pa_cons (pe_bltn (v := .ty "int") rfl B.int PyProof.Rows.boot_int rfl) pa_nil)))
      (pe_one (pe_not (pe_callB call_isinst (by rfl) B.isinstance PyProof.Rows.boot_isinstance (pa_cons (pv 0) (pa_cons (pe_bltn (v := .ty "bool") rfl B.bool PyProof.Rows.boot_bool rfl) pa_nil))))))), ?_⟩
    refine ⟨_, rfl, _, _, _, _, rfl, .int i, B.ii, _, rfl, iteT ?_⟩
    exact ⟨_, rfl, _, _, _, _, rfl, .int i, B.ib, _, rfl, k⟩
end
end Tw
namespace Tw
open PySem L2
structure WalkOk (n : Nat) (rs : List Road) (ws : List Int) (js : List Nat) : Prop where
  nd : ws.Nodup
  lo : 2 ≤ ws.length
  hi : ws.length ≤ 12
  len : js.length + 1 = ws.length
  tour : ∀ (i k : Nat), js[i]? = some k->∃ r p q, rs[k]? = some r/\ws[i]? = some p/\ws[i + 1]? = some q/\Joins r p q
end Tw
namespace Tw
open PySem L2
open PyProof.Rows (firstMet firstMet_any firstMet_succ)
theorem map_getD (ns : List Int) : (List.range ns.length).map (fun i => ns.getD i 0) = ns := by
  refine List.ext_getElem? fun i => ?_
  rw [List.getElem?_map]
  by_cases hi : i < ns.length
  · rw [List.getElem?_range hi, List.getElem?_eq_getElem hi]
    show some (ns.getD i 0) = _
    rw [List.getD_eq_getElem?_getD, List.getElem?_eq_getElem hi]; rfl
  · rw [List.getElem?_eq_none (by rw [List.length_range]; omega), List.getElem?_eq_none (by omega)]; rfl
theorem firstMet_mem {ns : List Int} {y : Int} : y ∈ firstMet (fun i => ns.getD i 0) ns.length<->y ∈ ns := by
  have h := firstMet_any (fun i => ns.getD i 0) ns.length y
  rw [map_getD] at h
  rw [Bool.eq_iff_iff, List.any_eq_true, List.any_eq_true] at h
  constructor
  · intro hy
    obtain ⟨x, hx, e⟩ := h.mp ⟨y, hy, by simp⟩
    have : x = y := by simpa using e
    rw [← this]; exact hx
  · intro hy
    obtain ⟨x, hx, e⟩ := h.mpr ⟨y, hy, by simp⟩
    have : x = y := by simpa using e
    rw [← this]; exact hx
theorem firstMet_nodup (val : Nat->Int) : ∀ i, (firstMet val i).Nodup
  | 0 => by show ([] : List Int).Nodup; exact List.nodup_nil
  | i + 1 => by
    rw [firstMet_succ]
    unfold PyProof.Rows.step_dedup
    have ih := firstMet_nodup val i
    split
    · exact ih
    · rename_i h
      refine List.nodup_append.mpr ⟨ih, by simp, fun a ha b hb e => ?_⟩
      have : b = val i := by simpa using hb
      exact h (List.any_eq_true.mpr ⟨a, ha, by rw [e, this]; simp⟩)
theorem inV_zV (v : Int) (l : List Int) : inV (.int v) (zV l) = decide (v ∈ l) := by
  unfold inV
  by_cases h : v ∈ l
  · rw [decide_eq_true h, List.any_eq_true]
    exact ⟨.int v, List.mem_map.mpr ⟨v, h, rfl⟩, by show (v == v) = true; exact beq_self_eq_true v⟩
  · rw [decide_eq_false h, List.any_eq_false]
    rintro y hy
    obtain ⟨x, hx, rfl⟩ := List.mem_map.mp hy
    show ¬ (x == v) = true
    rw [beq_iff_eq]
    rintro rfl
    exact h hx
theorem eqVs_zV : ∀ (a b : List Int), eqVs (zV a) (zV b) = decide (a = b) := by
  intro a b
  by_cases e : a = b
  · subst e; rw [eqVs_refl (zV_flat _), decide_eq_true rfl]
  · rw [decide_eq_false e]
    unfold eqVs
    rw [zV_length, zV_length]
    by_cases hl : a.length = b.length
    · rw [beq_iff_eq.mpr hl, Bool.true_and]
      rw [List.all_eq_false]
      apply Classical.byContradiction
      intro hn
      apply e
      refine List.ext_getElem hl fun i h1 h2 => ?_
      apply Classical.byContradiction
      intro ne
      apply hn
      refine ⟨i, List.mem_range.mpr h1, ?_⟩
      have g1 : (zV a).getD i .non = V.int a[i] := by rw [List.getD_eq_getElem?_getD, zV_get (List.getElem?_eq_getElem h1)]; rfl
      have g2 : (zV b).getD i .non = V.int b[i] := by rw [List.getD_eq_getElem?_getD, zV_get (List.getElem?_eq_getElem h2)]; rfl
      rw [g1, g2]
      show ¬ (a[i] == b[i]) = true
      rw [beq_iff_eq]; exact ne
    · rw [beq_eq_false_iff_ne.mpr hl, Bool.false_and]
theorem unlike_nodup {ns : List Int} (nd : ns.Nodup) : unlike ns = ns.length := by
  unfold unlike
  have pm : (firstMet (fun i => ns.getD i 0) ns.length).Perm ns := (List.perm_ext_iff_of_nodup (firstMet_nodup _ _) nd).mpr fun x => firstMet_mem
  exact pm.length_eq
section
variable {P : Program} {w : World} {K : PySem.W.Frag} {mg : Str->Option Value} {base : Heap}
def spOn : Sp := fun vs H Q _ => ∃ (n : Nat) (R : Addr) (as : List Addr) (rs : List Road) (a b : Int) (k : Nat) (r : Road), vs = [.ref R, .int a, .int b]/\RowsAt H R as (rs.map rowI)/\Tree n rs/\rs[k]? = some r/\Joins r a b/\∀ H' : Hp, Same H H'->Q (.int (k : Nat)) H'
theorem scOn : FnScope ["_law_roads", "_law_a", "_law_b", "_law_k"] ["_law_roads", "_law_a", "_law_b"] (defScope sOn) := ⟨rfl, rfl, rfl, by decide +kernel, rfl, by decide +kernel, by decide +kernel⟩
theorem ok_on {f : Addr} {fd : FuncData} (F : Def K mg "_law_on" sOn ["_law_roads", "_law_a", "_law_b"] f fd) (B : Bi K mg) : FnOk P w K mg base CX0 1 f fd ["_law_roads", "_law_a", "_law_b"] spOn := by
  refine F.fn.ok scOn (fun vs H Q E h => ?_) (fun cdv A outer s H vs Q E hr h => ?_)
  · obtain ⟨n, R, as, rs, a, b, k, r, rfl, _⟩ := h
    rfl
  · obtain ⟨n, R, as, rs, a, b, k, r, rfl, hR, t, hk, jn, q⟩ := h
    have nd := scOn.nd
    have hu := hu_of hr
    have th := t.hi
    have tl := t.length
    have al := hR.len
    rw [List.length_map] at al
    have kl : k < rs.length := (List.getElem?_eq_some_iff.mp hk).1
    refine ⟨_, (pss_cons (ps_for PassesOwn.never rfl (pi_range1 rfl B.range (pa_cons (pe_callB (lenK K) (by rfl) B.len PySem.boot_len (pa_cons (pv 0) pa_nil)) pa_nil)) (pg_name (i := 3) nd rfl (Or.inl rfl)) (pss_one (ps_if (PW.pt (pw_or (pt_cmpR (op_eqLK K (Nat.lt_of_succ_lt hu)) (pe_slice (slK K) (pe_ix (ixK K) (pv 0) (pv 3) (fun _ _ => rfl)) po_none (po_some pe_int)) (pe_lst (pa_cons (pv 1) (pa_cons (pv 2) pa_nil))) (nomark _)) (pw_or1 (pt_cmpR (op_eqLK K (Nat.lt_of_succ_lt hu)) (pe_slice (slK K) (pe_ix (ixK K) (pv 0) (pv 3) (fun _ _ => rfl)) po_none (po_some pe_int)) (pe_lst (pa_cons (pv 2) (pa_cons (pv 1) pa_nil))) (nomark _))))) (pss_one (ps_ret (pv 3))) pss_nil)))
      (pss_one (ps_ret (pe_un un_neg pe_int)))), ?_⟩
    refine ⟨_, rfl, R, _, rfl, .inl (SqL.of hR.top), _, rfl, by omega, by rw [List.length_map]; omega, ?_⟩
    rw [Int.toNat_natCast, List.length_map, al]
    refine for_range (fun i σ H2 => ∃ v3 : Option V, σ = [some (.ref R), some (.int a), some (.int b), v3]/\i ≤ k/\Same H H2) ⟨none, rfl, Nat.zero_le _, Same.refl _⟩ ?_ ?_
    · rintro i σ H2 hi ⟨v3, rfl, ik, s2⟩
      obtain ⟨p, hp, hrow⟩ := hR.get (i := i) (z := rowI rs[i]) (by rw [List.getElem?_map, List.getElem?_eq_getElem hi]; rfl)
      have ei : rs[i]? = some rs[i] := List.getElem?_eq_getElem hi
      have e0 : ((0 : Int) + (i : Int)).toNat = i := by omega
      have look : ∀ (H3 : Hp) (x y : Int), Same H H3->∃ c : Bool, (c = true<->rs[i].1 = x/\rs[i].2.1 = y)/\eqVs (cutV (zV (rowI rs[i])) none (some 2)) (zV [x, y]) = c := fun H3 x y _ => by
        refine ⟨_, ?_, rfl⟩
        show eqVs (zV [rs[i].1, rs[i].2.1]) (zV [x, y]) = true<->_
        rw [eqVs_zV, decide_eq_true_iff]
        simp only [List.cons.injEq, and_true]
      refine ⟨_, rfl, _, rfl, R, _, _, _, rfl, rfl, SqL.of (s2 _ _ hR.top), atI_int (by omega) (by rw [e0]; exact ref_get hp), _, rfl, p, _, rfl, SqL.of (s2 _ _ hrow), fun p1 hp1 => ?_⟩
      refine ⟨_, rfl, _, rfl, by show 2 ≤ sizeLine; exact len12 (by decide), fun p2 hp2 => ?_⟩
      have hp1' : (upd (upd H2 p1 (.lst (cutV (zV (rowI rs[i])) none (some 2)))) p2 (.lst [V.int a, V.int b])) p1 = some (.lst (cutV (zV (rowI rs[i])) none (some 2))) := by rw [upd_ne (ne_of_none upd_same hp2)]; exact upd_same
      refine ⟨p1, p2, _, _, rfl, rfl, SqL.of hp1', SqL.of upd_same, rfl, rfl, _, rfl, ?_⟩
      have s3 := s2.trans ((same_upd (o := .lst (cutV (zV (rowI rs[i])) none (some 2))) hp1).trans (same_upd (o := .lst [V.int a, V.int b]) hp2))
      generalize upd (upd H2 p1 (.lst (cutV (zV (rowI rs[i])) none (some 2)))) p2 (.lst [V.int a, V.int b]) = H3 at s3
      clear hp1' hp1 hp2
      obtain ⟨c1, hc1, ec1⟩ := look H3 a b s3
      show (if eqVs (cutV (zV (rowI rs[i])) none (some 2)) (zV [a, b]) = true then _ else _)
      rw [ec1]
      have done : Joins rs[i] a b->∀ H', Same H H'->Q (.int (0 + (i : Int))) H' := fun j H' s' => by
        have := t.idx ei hk j jn
        rw [show (0 : Int) + (i : Int) = ((k : Nat) : Int) by omega]
        exact q H' s'
      refine iteB (fun e => ⟨_, rfl, done (.inl (hc1.mp e)) H3 s3⟩) (fun e => ?_)
      refine ⟨_, rfl, _, rfl, R, _, _, _, rfl, rfl, SqL.of (s3 _ _ hR.top), atI_int (by omega) (by rw [e0]; exact ref_get hp), _, rfl, p, _, rfl, SqL.of (s3 _ _ hrow), fun p1 hp1 => ?_⟩
      refine ⟨_, rfl, _, rfl, by show 2 ≤ sizeLine; exact len12 (by decide), fun p2 hp2 => ?_⟩
      have hp1' : (upd (upd H3 p1 (.lst (cutV (zV (rowI rs[i])) none (some 2)))) p2 (.lst [V.int b, V.int a])) p1 = some (.lst (cutV (zV (rowI rs[i])) none (some 2))) := by rw [upd_ne (ne_of_none upd_same hp2)]; exact upd_same
      refine ⟨p1, p2, _, _, rfl, rfl, SqL.of hp1', SqL.of upd_same, rfl, rfl, _, rfl, ?_⟩
      have s4 := s3.trans ((same_upd (o := .lst (cutV (zV (rowI rs[i])) none (some 2))) hp1).trans (same_upd (o := .lst [V.int b, V.int a]) hp2))
      generalize upd (upd H3 p1 (.lst (cutV (zV (rowI rs[i])) none (some 2)))) p2 (.lst [V.int b, V.int a]) = H4 at s4
      clear hp1' hp1 hp2
      obtain ⟨c2, hc2, ec2⟩ := look H4 b a s4
      show (if eqVs (cutV (zV (rowI rs[i])) none (some 2)) (zV [b, a]) = true then _ else _)
      rw [ec2]
      refine iteB (fun e2 => ⟨_, rfl, done (.inr (hc2.mp e2)) H4 s4⟩) (fun e2 => ?_)
      refine ⟨_, rfl, ?_, s4⟩
      apply Classical.byContradiction
      intro hn
      have : i = k := by omega
      subst this
      rw [ei] at hk
      cases hk
      rcases jn with h | h
      · rw [hc1.mpr h] at e; cases e
      · rw [hc2.mpr h] at e2; cases e2
    · rintro σ H2 ⟨v3, rfl, ik, s2⟩
      omega
def nI (ks : List Nat) : List Int := ks.map fun k => ((k : Nat) : Int)
def spGone : Sp := fun vs H Q _ => ∃ (n : Nat) (R M : Addr) (as ms : List Addr) (rs : List Road) (wss : List (List Int)) (kss : List (List Nat)), vs = [.int n, .ref R, .ref M]/\RowsAt H R as (rs.map rowI)/\Tree n rs/\RowsAt H M ms wss/\wss.length = kss.length/\wss.length ≤ 100/\(∀ (i : Nat) (ws : List Int) (js : List Nat), wss[i]? = some ws->kss[i]? = some js->WalkOk n rs ws js)/\kss.flatten.length ≤ 100 ∧
  ∀ (F : Addr) (H' : Hp), Same H H'->H F = none->H' F = some (.lst (zV (nI kss.flatten)))->Q (.ref F) H'
theorem scGone : FnScope ["_law_many", "_law_roads", "_law_rows", "_law_found", "_law_row", "_law_k"] ["_law_many", "_law_roads", "_law_rows"] (defScope sGone) := ⟨rfl, rfl, rfl, by decide +kernel, rfl, by decide +kernel, by decide +kernel⟩
theorem ok_gone {f fY fON : Addr} {fd fdY fdON : FuncData} (F : Def K mg "_law_gone" sGone ["_law_many", "_law_roads", "_law_rows"] f fd) (FY : Def K mg "_law_whole" sLWhole ["_law_found"] fY fdY) (FON : Def K mg "_law_on" sOn ["_law_roads", "_law_a", "_law_b"] fON fdON) (B : Bi K mg) : FnOk P w K mg base CX0 2 f fd ["_law_many", "_law_roads", "_law_rows"] spGone := by
  have GY : FnOk P w K mg base CX0 1 fY fdY ["_law_found"] spWhole := ok_lwhole FY B
  have GON : FnOk P w K mg base CX0 1 fON fdON ["_law_roads", "_law_a", "_law_b"] spOn := ok_on FON B
  refine F.fn.ok scGone (fun vs H Q E h => ?_) (fun cdv A outer s H vs Q E hr h => ?_)
  · obtain ⟨n, R, M, as, ms, rs, wss, kss, rfl, _⟩ := h
    rfl
  · obtain ⟨n, R, M, as, ms, rs, wss, kss, rfl, hR, t, hM, wk, wl, wok, fl, k⟩ := h
    have nd := scGone.nd
    have ml := hM.len
    refine ⟨_, (pss_cons (ps_if (pt_not (pt_val (pe_callB (isinstK K) (by rfl) B.isinstance PyProof.Rows.boot_isinstance (pa_cons (pv 2) (pa_cons (pe_bltn (v := .ty "list") rfl B.list PyProof.Rows.boot_list rfl) pa_nil))))) (pss_one (ps_ret pe_non)) pss_nil)
      (pss_cons (ps_set (i := 3) nd rfl (Or.inl rfl) (pe_lst pa_nil))
      (pss_cons (ps_for PassesOwn.never rfl (pi_listK K (pv 2)) (pg_name (i := 4) nd rfl (Or.inl rfl)) (pss_cons (ps_if (PW.pt (pw_or (pt_not (pt_val (pe_callB (isinstK K) (by rfl) B.isinstance PyProof.Rows.boot_isinstance (pa_cons (pv 4) (pa_cons (pe_bltn (v := .ty "list") rfl B.list PyProof.Rows.boot_list rfl) pa_nil))))) (pw_or (pt_cmpR op_lt (pe_callB (lenK K) (by rfl) B.len PySem.boot_len (pa_cons (pv 4) pa_nil)) pe_int (nomark _)) (pw_or1 (pt_not (pt_val (pe_callB (call_all rfl) (by rfl) B.all PyProof.Rows.boot_all (pa_cons (pe_comp (defScope sGone).names ["_law_many", "_law_roads", "_law_rows", "_law_found", "_law_row", "_law_k"] ["_law_many", "_law_roads", "_law_rows", "_law_found", "_law_row", "_law_k", "_law_place"] (pi_listK K (pv 4)) (fun _ _ _ _ => pf_nil) (fun _ _ _ _ => (pe_call GY (hr.mono (by decide)) rfl FY.mg FY.fn.kp FY.bn .nil pass0 (pa_cons (pv 6) pa_nil)))) pa_nil)))))))) (pss_one (ps_ret pe_non)) pss_nil)
      (pss_cons (ps_if (pt_cmpR op_ne (pe_lenset rfl rfl B.len rfl B.set (pv 4)) (pe_callB (lenK K) (by rfl) B.len PySem.boot_len (pa_cons (pv 4) pa_nil)) (nomark _)) (pss_one (ps_ret pe_non)) pss_nil)
      (pss_one (ps_for PassesOwn.never rfl (pi_range2 rfl B.range (pa_consC pe_int (pa_cons (pe_callB (lenK K) (by rfl) B.len PySem.boot_len (pa_cons (pv 4) pa_nil)) pa_nil))) (pg_name (i := 5) nd rfl (Or.inl rfl)) (pss_one (ps_expr (pe_bm PySem.F.plainAttrs_list PySem.F.slot_list_append PySem.F.type_list_append mt_append (pv 3) (pa_cons (pe_call GON (hr.mono (by decide)) rfl FON.mg FON.fn.kp FON.bn .nil pass0 (pa_cons (pv 1) (pa_consS (pe_ix (ixK K) (pv 4) (pe_op op_sub (pv 5) pe_int) (fun _ _ => rfl)) (pa_consS (pe_ix (ixK K) (pv 4) (pv 5) (fun _ _ => rfl)) pa_nil)))) pa_nil)))))))))
      (pss_cons (ps_if (pt_cmpR (inK K) (pe_un un_neg pe_int) (pv 3) rfl) (pss_one (ps_ret pe_non)) pss_nil)
      (pss_one (ps_ret (pv 3))))))), ?_⟩
    refine ⟨_, rfl, _, _, _, _, rfl, .lst hM.top, B.ll, _, rfl, iteF ?_⟩
    refine ⟨by show 0 ≤ sizeLine; exact len12 (by decide), fun FF hFF => ?_⟩
    have part : ∀ j js, kss[j]? = some js->((kss.take j).flatten).length + js.length ≤ 100 := fun j js e => by
      have h1 : kss = kss.take (j + 1) ++ kss.drop (j + 1) := (List.take_append_drop _ _).symm
      have h2 : kss.flatten.length = ((kss.take (j + 1)).flatten).length + ((kss.drop (j + 1)).flatten).length := by
        rw [← List.length_append, ← List.flatten_append, ← h1]
      rw [List.take_add_one, e, List.flatten_append, List.length_append] at h2
      have h3 : ((some js).toList.flatten).length = js.length := by simp
      omega
    refine ⟨_, rfl, M, rfl, ⟨_, SqL.of (same_upd hFF _ _ hM.top)⟩, for_list (K := K) (a := M) (xs := ms.map V.ref) (fun j σ H2 => ∃ v4 v5 : Option V, σ = [some (.int n), some (.ref R), some (.ref M), some (.ref FF), v4, v5]/\H2 FF = some (.lst (zV (nI (kss.take j).flatten)))/\Same H H2) ⟨none, none, rfl, upd_same, same_upd hFF⟩ (fun j σ H2 _ ⟨_, _, _, _, h⟩ => SqL.of (h _ _ hM.top)) ?_ ?_⟩
    · rintro j y σ H2 hj ⟨v4, v5, rfl, hF2, s2⟩
      obtain ⟨p, hp, rfl⟩ := get_ref hj
      have hjl : j < wss.length := by rw [← ml]; exact (List.getElem?_eq_some_iff.mp hp).1
      obtain ⟨ws, ews⟩ : ∃ ws, wss[j]? = some ws := ⟨_, List.getElem?_eq_getElem hjl⟩
      obtain ⟨js, ejs⟩ : ∃ js, kss[j]? = some js := ⟨_, List.getElem?_eq_getElem (by omega)⟩
      have wo := wok j ws js ews ejs
      have hl := wo.lo
      have hh := wo.hi
      have hlen := wo.len
      have pt := part j js ejs
      have hrow0 := hM.row j p ws hp ews
      have hrow := s2 _ _ hrow0
      refine ⟨_, rfl, _, _, _, _, rfl, .lst hrow, B.ll, _, rfl, iteF ?_⟩
      refine ⟨_, rfl, p, _, rfl, .inl (SqL.of hrow), _, _, rfl, rfl, _, rfl, ?_⟩
      rw [zV_length, decide_eq_false (show ¬ (ws.length : Int) < 2 by omega)]
      refine iteF ?_
      refine ⟨_, rfl, p, rfl, ⟨_, SqL.of hrow⟩, fun C hC => ?_⟩
      refine comp_map (K := K) (xs := ws) (el := V.int) (fv := fun _ => V.bl true) hrow hC (by omega) (fun i x hx HA Qw sA kw => ⟨_, rfl, x, rfl, kw _ (Same.refl _)⟩) (fun H3 hC3 s3 => ?_)
      refine ⟨C, ws.map fun _ => true, rfl, SqL.of (by rw [List.map_map]; exact hC3), _, rfl, ?_⟩
      have eall : ((ws.map fun _ => true).all id) = true := by rw [List.all_eq_true]; intro x hx; obtain ⟨_, _, rfl⟩ := List.mem_map.mp hx; rfl
      rw [eall]
      refine iteF ?_
      have s23 := s2.trans s3
      have hrow3 := s3 _ _ hrow
      have hF3 := s3 _ _ hF2
      refine ⟨_, rfl, p, ws, rfl, SqL.of hrow3, by omega, _, rfl, p, _, rfl, .inl (SqL.of hrow3), rfl, _, rfl, ?_⟩
      rw [unlike_nodup wo.nd, zV_length, dec_vint, decide_eq_true rfl]
      refine iteF ?_
      refine ⟨_, rfl, p, _, rfl, .inl (SqL.of hrow3), (1 : Int), _, rfl, ⟨by decide, by decide, by rw [zV_length]; omega, by rw [zV_length]; omega⟩, ?_⟩
      rw [zV_length, show ((ws.length : Int) - 1).toNat = js.length by omega]
      refine for_range (fun i σ H4 => ∃ v5 : Option V, σ = [some (.int n), some (.ref R), some (.ref M), some (.ref FF), some (.ref p), v5]/\H4 FF = some (.lst (zV (nI ((kss.take j).flatten ++ js.take i))))/\Same H H4) ⟨v5, rfl, by rw [List.take_zero, List.append_nil]; exact hF3, s23⟩ ?_ ?_
      · rintro i σ H4 hi ⟨v5, rfl, hF4, s4⟩
        obtain ⟨kk, ekk⟩ : ∃ kk, js[i]? = some kk := ⟨_, List.getElem?_eq_getElem hi⟩
        obtain ⟨r, u, v, hr', hu', hv', jn⟩ := wo.tour i kk ekk
        have hrow4 := s4 _ _ hrow0
        refine ⟨_, rfl, .inl ⟨rfl, _, SqL.of hF4⟩, _, rfl, _, rfl, _, rfl, _, _, rfl, rfl, p, _, _, _, rfl, rfl, SqL.of hrow4, atI_int (by omega) (by rw [show (1 + (i : Int) - 1).toNat = i by omega]; exact zV_get hu'), _, rfl, _, rfl, p, _, _, _, rfl, rfl, SqL.of hrow4, atI_int (by omega) (by rw [show (1 + (i : Int)).toNat = i + 1 by omega]; exact zV_get hv'), n, R, as, rs, u, v, kk, r, rfl, hR.mono s4, t, hr', jn, fun H5 s5 => ?_⟩
        have hF5 := s5 _ _ hF4
        refine ⟨FF, _, _, rfl, rfl, hF5, by rw [zV_length]; unfold nI; rw [List.length_map, List.length_append, List.length_take]; exact small1000 (by omega), ?_⟩
        refine ⟨_, rfl, ?_, fun b o e => by rw [upd_ne (ne_of_none e hFF)]; exact s5 b o (s4 b o e)⟩
        rw [upd_same, List.take_add_one, ekk]
        show _ = some (HO.lst (zV (nI ((kss.take j).flatten ++ (js.take i ++ [kk])))))
        rw [← List.append_assoc]
        rw [show nI ((kss.take j).flatten ++ js.take i ++ [kk]) = nI ((kss.take j).flatten ++ js.take i) ++ [((kk : Nat) : Int)] by unfold nI; rw [List.map_append]; rfl]
        exact congrArg _ (congrArg _ (zV_append _ _))
      · rintro σ H4 ⟨v5, rfl, hF4, s4⟩
        rw [List.take_length] at hF4
        refine ⟨_, _, rfl, ?_, s4⟩
        rw [hF4, List.take_add_one, ejs, List.flatten_append]
        simp
    · rintro σ H2 ⟨v4, v5, rfl, hF2, s2⟩
      rw [List.length_map, ml, wk, List.take_length] at hF2
      refine ⟨_, rfl, _, rfl, FF, _, rfl, .inl (SqL.of hF2), rfl, zV_flat _, _, rfl, ?_⟩
      show (if inV (V.int (-1)) (zV (nI kss.flatten)) = true then _ else _)
      rw [inV_zV, decide_eq_false (fun h => by obtain ⟨q, _, e⟩ := List.mem_map.mp h; have e' : ((q : Nat) : Int) = -1 := e; omega)]
      exact iteF ⟨_, rfl, k FF H2 s2 hFF hF2⟩
end
end Tw
namespace Tw
open PySem L2
theorem enc_between : ∀ {m : Nat} {P A B C : List Int}, Short m A->Short m B->Short m C->enc m A ≤ enc m B->enc m B ≤ enc m C->P <+: A->P <+: C->P <+: B
  | _, [], _, _, _, _, _, _, _, _, _, _ => List.nil_prefix
  | m, x :: P, A, B, C, hA, hB, hC, h1, h2, pa, pc => by
    obtain ⟨A', rfl⟩ := pa
    obtain ⟨C', rfl⟩ := pc
    cases m with
    | zero => exact absurd hA.1 (by simp)
    | succ m =>
      have l1 := lex_enc hB hA
      have l2 := lex_enc hC hB
      rw [decide_eq_false (by omega)] at l1 l2
      cases B with
      | nil =>
        have : lexB [] (x :: P ++ A') = true := rfl
        rw [this] at l1
        cases l1
      | cons y B =>
        have l1' : (if y = x then lexB B (P ++ A') else decide (y < x)) = false := l1
        have l2' : (if x = y then lexB (P ++ C') B else decide (x < y)) = false := l2
        have e : x = y := by
          apply Classical.byContradiction
          intro ne
          rw [if_neg (fun h => ne h.symm)] at l1'
          rw [if_neg ne] at l2'
          have := of_decide_eq_false l1'
          have := of_decide_eq_false l2'
          omega
        subst e
        have e1 : (x + 1) * 13 ^ m + enc m (P ++ A') ≤ (x + 1) * 13 ^ m + enc m B := h1
        have e2 : (x + 1) * 13 ^ m + enc m B ≤ (x + 1) * 13 ^ m + enc m (P ++ C') := h2
        have hA' : Short m (P ++ A') := Short.tail (x := x) hA
        have hC' : Short m (P ++ C') := Short.tail (x := x) hC
        have ih := enc_between (P := P) hA' (Short.tail hB) hC' (by omega) (by omega) (List.prefix_append _ _) (List.prefix_append _ _)
        exact (List.prefix_cons_inj x).mpr ih
theorem flat_len {b : Nat} : ∀ {kss : List (List Nat)}, (∀ js ∈ kss, js.length ≤ b)->kss.flatten.length ≤ kss.length * b
  | [], _ => by simp
  | js :: kss, h => by
    have := flat_len fun z hz => h z (List.mem_cons_of_mem _ hz)
    have := h js (List.mem_cons_self ..)
    rw [List.flatten_cons, List.length_append, List.length_cons, Nat.succ_mul]
    omega
section
variable {K : PySem.W.Frag}
theorem comp_rngN {D : Addr} {n : Nat} {lo : Int} {fz : Nat->List Int} {te : TE} {σ : St} {H1 : Hp} {Qf : Hp->Prop} (hD : H1 D = none) (hl : n ≤ 100) (hte : ∀ (i : Nat), i < n->∀ (H4 : Hp) (Qv : VK), Same H1 H4->(∀ L H5, Same H4 H5->H4 L = none->H5 L = some (.lst (zV (fz i)))->Qv (.ref L) H5)->te (σ ++ [some (.int (lo + i))]) H4 Qv) (k : ∀ (bs : List Addr) (H2 : Hp), RowsAt H2 D bs ((List.range n).map fz)->bs.Nodup->Same H1 H2->(∀ b ∈ bs, H1 b = none)->Qf H2) : ∃ W : Nat->Nat->List V->Hp->Prop, (∃ m, W 0 m [] (upd H1 D (.lst [])))/\∀ i m ys H2, W i m ys H2->H2 D = some (.lst ys)/\(((Itr lo n).stop i H2/\Qf H2) ∨ ((Itr lo n).go i H2/\∃ N : List V->Hp->Prop, (∀ ys' H', N ys' H'->∃ m', m' < m/\W (i + 1) m' ys' H')/\∀ y H3, (Itr lo n).yld i H2 y H3->tYes (σ ++ [some y]) H3 fun c H4 => if c = true then te (σ ++ [some y]) H4 fun z H5 => H5 D = some (.lst ys)/\ys.length < sizeLine/\N (ys ++ [z]) (upd H5 D (.lst (ys ++ [z]))) else N ys H4)) := by
  refine comp_range (fun i ys H2 => ∃ bs : List Addr, ys = bs.map V.ref/\bs.length = i/\bs.Nodup/\H2 D = some (.lst ys)/\Same H1 H2/\(∀ (j : Nat) (p : Addr), bs[j]? = some p->H2 p = some (.lst (zV (fz j))))/\∀ b ∈ bs, H1 b = none/\b ≠ D/\∃ o, H2 b = some o)
      (fun i ys H2 ⟨_, _, _, _, h1, _⟩ => h1) ⟨[], rfl, rfl, List.nodup_nil, upd_same, same_upd hD, (fun j p e => by simp at e), (fun b hb => nomatch hb)⟩ ?_ ?_
  · rintro i ys H2 hi ⟨bs, rfl, bl, bn, hD2, s2, rw2, fr2⟩
    refine yesI ?_
    refine hte i hi H2 _ s2 fun q H5 s5 hq h5 => ?_
    have nDq : D ≠ q := ne_of_none hD2 hq
    have s15 := s2.trans s5
    refine ⟨s5 _ _ hD2, by rw [List.length_map, bl]; exact small1000 (by omega), bs ++ [q], by rw [List.map_append]; rfl, by rw [List.length_append, bl]; rfl, ?_, upd_same, fun b o e => ?_, fun j p' e1 => ?_, fun b hb => ?_⟩
    · rw [List.nodup_append]
      refine ⟨bn, by simp, fun x hx y hy e => ?_⟩
      rw [List.mem_singleton.mp hy] at e
      obtain ⟨o, ho⟩ := (fr2 x hx).2.2
      rw [e, hq] at ho; cases ho
    · rw [upd_ne (ne_of_none e hD)]; exact s15 b o e
    · by_cases hj : j < bs.length
      · rw [List.getElem?_append_left hj] at e1
        have h2 := rw2 j p' e1
        rw [upd_ne (fr2 p' (List.mem_of_getElem? e1)).2.1]; exact s5 _ _ h2
      · rw [List.getElem?_append_right (by omega)] at e1
        have hz : j - bs.length = 0 := by
          have := (List.getElem?_eq_some_iff.mp e1).1
          simp at this; omega
        rw [hz] at e1
        have e3 : q = p' := by simpa using e1
        subst e3
        have e4 : j = i := by omega
        subst e4
        rw [upd_ne nDq.symm]; exact h5
    · rcases List.mem_append.mp hb with z | z
      · obtain ⟨f1, f2, o, ho⟩ := fr2 b z
        exact ⟨f1, f2, o, by rw [upd_ne f2]; exact s5 _ _ ho⟩
      · have e : b = q := by simpa using z
        subst e
        exact ⟨s2.free hq, nDq.symm, _, by rw [upd_ne nDq.symm]; exact h5⟩
  · rintro ys H2 ⟨bs, rfl, bl, bn, hD2, s2, rw2, fr2⟩
    refine k bs H2 ⟨hD2, by rw [bl, List.length_map, List.length_range], fun i p z e1 e2 => ?_⟩ bn s2 fun b hb => (fr2 b hb).1
    have hi : i < n := by have := (List.getElem?_eq_some_iff.mp e1).1; omega
    rw [List.getElem?_map, List.getElem?_range hi] at e2
    cases e2
    exact rw2 i p e1
end
section
variable {P : Program} {w : World} {K : PySem.W.Frag} {mg : Str->Option Value} {base : Heap}
theorem gname_go {i : Nat} {v : V} {Q : St->Hp->Prop} {σ σ0 : St} {H : Hp} (e : σ.set i (some v) = σ0) (h : ∀ σ' H', σ' = σ0->H' = H->Q σ' H') : gName i v σ H Q := h _ H e rfl
def klW (wy : Int->Int->List Int) : V->List Int
  | .int x => wy 0 x
  | _ => []
def lvs (n : Nat) (rs : List Road) : List Int := (pl n).filter fun v => decide (deg rs v = 1)
theorem two_leaves {n : Nat} {rs : List Road} {f : Int->Int->Int} (t : Tree n rs) (m : Met rs (pl n) f) : (lvs n rs).length = 0 ∨ 2 ≤ (lvs n rs).length := by
  cases e : rs with
  | nil =>
    left
    unfold lvs
    rw [List.length_eq_zero_iff, List.filter_eq_nil_iff]
    intro x _
    simp [deg]
  | cons r l =>
    right
    rw [← e]
    have hr : r ∈ rs := by rw [e]; exact List.mem_cons_self ..
    have j : Joins r r.1 r.2.1 := .inl ⟨rfl, rfl⟩
    obtain ⟨y1, y1p, y1s, y1d⟩ := leaf_beyond t m hr j
    obtain ⟨y2, y2p, y2s, y2d⟩ := leaf_beyond t m hr j.symm
    have ne : y1 ≠ y2 := by rintro rfl; omega
    exact nodup_sub (l := [y1, y2]) (k := lvs n rs) (by simp [ne]) fun x hx => by
      simp only [List.mem_cons, List.not_mem_nil, or_false] at hx
      rcases hx with rfl | rfl
      · exact List.mem_filter.mpr ⟨y1p, decide_eq_true y1d⟩
      · exact List.mem_filter.mpr ⟨y2p, decide_eq_true y2d⟩
def spSweeps (T : Addr) (q : Str) : Sp := fun vs H Q _ => ∃ (n : Nat) (R : Addr) (as : List Addr) (rs : List Road) (f : Int->Int->Int) (qs : Array Value), vs = [.int n, .ref R]/\RowsAt H R as (rs.map rowI)/\Tree n rs/\Met rs (pl n) f/\H T = some (.tbl qs)/\qOf qs = q ∧
  ∀ (M : Addr) (ms : List Addr) (wss : List (List Int)) (kss : List (List Nat)) (H' : Hp), Same H H'->H M = none->RowsAt H' M ms wss->ms.Nodup->M ∉ ms->(∀ p ∈ ms, H p = none)->wss.length = kss.length →
    (∀ (i : Nat) (ws : List Int) (js : List Nat), wss[i]? = some ws->kss[i]? = some js->WalkOk n rs ws js)->(∀ k, k < rs.length->k ∈ kss.flatten)->kss.flatten.length ≤ 100->wss.length = ((lvs n rs).length + 1) / 2->Q (.ref M) H'
theorem scSw : FnScope ["many", "roads", "near", "ranked", "half"] ["many", "roads"] (defScope sSweeps) := ⟨rfl, rfl, rfl, by decide +kernel, rfl, by decide +kernel, by decide +kernel⟩
theorem ok_sw {f fC fN fLV fWB T : Addr} {fd fdC fdN fdLV fdWB : FuncData} (F : Def K mg "sweeps" sSweeps ["many", "roads"] f fd) (FC : Def K mg "check_tree" sCheck ["many", "roads"] fC fdC) (FN : Def K mg "neighbours" sNear ["many", "roads"] fN fdN) (FLV : Def K mg "leaves" sLeaves ["many", "roads"] fLV fdLV) (FWB : Def K mg "way_between" sWayB ["near", "a", "b"] fWB fdWB) (GC : FnOk P w K mg base CX0 5 fC fdC ["many", "roads"] spCheck) (GLV : FnOk P w K mg base CX0 6 fLV fdLV ["many", "roads"] (spPick fun d => decide (d = 1))) (GWB : FnOk P w K mg base CX0 2 fWB fdWB ["near", "a", "b"] spWayB) (tb : Tab K fd.code T) (B : Bi K mg) : FnOk P w K mg base CX0 7 f fd ["many", "roads"] (spSweeps T (lamQ "sweeps")) := by
  have GN : FnOk P w K mg base CX0 1 fN fdN ["many", "roads"] spNear := ok_near FN B
  refine F.fn.okL tb scSw (fun vs H Q E h => ?_) (fun cdv TC A outer s H vs Q E hr h => ?_)
  · obtain ⟨n, R, as, rs, f, qs, rfl, _⟩ := h
    rfl
  · obtain ⟨n, R, as, rs, f, qs, rfl, hR, t, m, hT, hq, k⟩ := h
    have nd := scSw.nd
    have th := t.hi
    have tlo := t.lo
    have tl := t.length
    have z0 : (0 : Int) ∈ pl n := mem_pl.mpr ⟨by omega, by omega⟩
    have wex : ∀ a b : Int, ∃ ws, a ∈ pl n->b ∈ pl n->WayOf n rs f a b ws := fun a b => by
      by_cases c : a ∈ pl n/\b ∈ pl n
      · obtain ⟨ws, w⟩ := WayOf.ex t m c.1 c.2
        exact ⟨ws, fun _ _ => w⟩
      · exact ⟨[], fun h1 h2 => absurd ⟨h1, h2⟩ c⟩
    obtain ⟨wy, hwy⟩ : ∃ wy : Int->Int->List Int, ∀ a b, a ∈ pl n->b ∈ pl n->WayOf n rs f a b (wy a b) := ⟨fun a b => Classical.choose (wex a b), fun a b => Classical.choose_spec (wex a b)⟩
    clear wex
    have wnd : ∀ a b, a ∈ pl n->b ∈ pl n->(wy a b).Nodup/\(wy a b).length ≤ 12 := fun a b ha hb => by
      have w := hwy a b ha hb
      have nd := w.d.nodup t.len
      have := nodup_pl nd w.rng
      exact ⟨nd, by omega⟩
    have wsh : ∀ a b, a ∈ pl n->b ∈ pl n->Short 12 (wy a b) := fun a b ha hb => ⟨(wnd a b ha hb).2, fun x hx => by
      have := mem_pl.mp ((hwy a b ha hb).rng x hx)
      omega⟩
    have lin : ∀ x ∈ lvs n rs, x ∈ pl n := fun x hx => (List.mem_filter.mp hx).1
    have ll : (lvs n rs).length ≤ 12 := by
      have := List.length_filter_le (fun v => decide (deg rs v = 1)) (pl n)
      rw [pl_length] at this
      unfold lvs
      omega
    refine ⟨_, (pss_cons (ps_expr (pe_call GC (hr.mono (by decide)) rfl FC.mg FC.fn.kp FC.bn .nil pass0 (pa_cons (pv 0) (pa_cons (pv 1) pa_nil))))
      (pss_cons (ps_set (i := 2) nd rfl (Or.inr rfl) (pe_call GN (hr.mono (by decide)) rfl FN.mg FN.fn.kp FN.bn .nil pass0 (pa_cons (pv 0) (pa_cons (pv 1) pa_nil))))
      (pss_cons (ps_set (i := 3) nd rfl (Or.inr rfl) (pe_sortKeyL (k := 2) K (lam_okR ["many", "roads", "near", "ranked", "half"] "leaf" TC (defScope sSweeps).names ["many", "roads", "near", "ranked", "half"] (fun _ _ _ _ _ _ _ hr => (pe_call GWB (hr.mono (by decide)) rfl FWB.mg FWB.fn.kp FWB.bn .nil pass0 (pa_cons (pv 2) (pa_consC pe_int (pa_cons (pv 5) pa_nil)))))) (hr.mono (by decide)) rfl B.sorted (pe_call GLV (hr.mono (by decide)) rfl FLV.mg FLV.fn.kp FLV.bn .nil pass0 (pa_cons (pv 0) (pa_cons (pv 1) pa_nil)))))
      (pss_cons (ps_set (i := 4) nd rfl (Or.inr rfl) (pe_op op_fdiv (pe_callB (lenK K) (by rfl) B.len PySem.boot_len (pa_cons (pv 3) pa_nil)) pe_int))
      (pss_one (ps_ret (pe_comp (defScope sSweeps).names ["many", "roads", "near", "ranked", "half"] ["many", "roads", "near", "ranked", "half", "number"] (pi_range1 rfl B.range (pa_consB (pe_op op_sub (pe_callB (lenK K) (by rfl) B.len PySem.boot_len (pa_cons (pv 3) pa_nil)) (pv 4)) pa_nil)) (fun _ _ _ _ => pf_nil) (fun _ _ _ _ => (pe_call GWB (hr.mono (by decide)) rfl FWB.mg FWB.fn.kp FWB.bn .nil pass0 (pa_cons (pv 2) (pa_consS (pe_ix (ixK K) (pv 3) (pv 5) (fun _ _ => rfl)) (pa_consS (pe_ix (ixK K) (pv 3) (pe_op op_add (pv 5) (pv 4)) (fun _ _ => rfl)) pa_nil)))))))))))), ?_⟩
    refine ⟨_, rfl, _, rfl, (n : Int), R, as, rs.map rowI, rfl, hR, by rw [List.length_map]; omega, t.isTree, fun H1 s1 => ?_⟩
    refine ⟨_, rfl, _, rfl, n, R, as, rs, rfl, hR.mono s1, th, t.valid, by omega, fun Dn ds H2 s2 hN => ?_⟩
    have s12 := s1.trans s2
    refine ⟨_, rfl, _, rfl, n, R, as, rs, rfl, hR.mono s12, t, fun Lv H3 s3 _ hLv => ?_⟩
    have s13 := s12.trans s3
    refine ⟨Lv, zV (lvs n rs), qs, klW wy, rfl, SqL.of hLv, by rw [zV_length]; omega, fun y hy => ?_, s13 _ _ hT, hq, fun H4 s4 y hy Qv kk => ?_, fun D ys H4 s4 hD pm pw => ?_⟩
    · obtain ⟨x, hx, rfl⟩ := List.mem_map.mp hy
      exact wsh 0 x z0 (lin x hx)
    · obtain ⟨x, hx, rfl⟩ := List.mem_map.mp hy
      refine ⟨_, rfl, _, rfl, n, Dn, ds, rs, 0, x, f, rfl, hN.mono (s3.trans s4), t, m, z0, lin x hx, fun L ws H5 s5 _ hL w => kk L H5 s5 ?_⟩
      show H5 L = some (.lst (zV (wy 0 x)))
      rw [WayOf.uniq t m (lin x hx) (hwy 0 x z0 (lin x hx)) w]
      exact hL
    obtain ⟨rk, pr, er⟩ := perm_map_inv (g := V.int) pm (lvs n rs) rfl
    subst er
    have pw : rk.Pairwise (fun x y => enc 12 (klW wy (V.int x)) ≤ enc 12 (klW wy (V.int y))) := (List.pairwise_map (R := fun y z => enc 12 (klW wy y) ≤ enc 12 (klW wy z))).mp pw
    have pw : rk.Pairwise (fun x y => enc 12 (wy 0 x) ≤ enc 12 (wy 0 y)) := pw
    have rin : ∀ x ∈ rk, x ∈ pl n := fun x hx => lin x (pr.mem_iff.mp hx)
    have rl : rk.length = (lvs n rs).length := pr.length_eq
    have rnd : rk.Nodup := pr.nodup_iff.mpr ((pl_nodup n).sublist List.filter_sublist)
    have w5 := same_upd (o := .lst (rk.map V.int)) hD
    have hD5 : (upd H4 D (.lst (rk.map V.int))) D = some (.lst (zV rk)) := upd_same
    generalize upd H4 D (.lst (rk.map V.int)) = H5 at w5 hD5 ⊢
    have s35 := s4.trans w5
    have s15 := s13.trans s35
    have hN5 := hN.mono (s3.trans s35)
    refine ⟨_, rfl, D, _, rfl, .inl (SqL.of hD5), _, _, rfl, rfl, ⟨by decide, by decide⟩, ?_⟩
    obtain ⟨hf, ehf⟩ : ∃ hf : Nat, hf = rk.length / 2 := ⟨_, rfl⟩
    refine gname_go (σ0 := [some (.int n), some (.ref R), some (.ref Dn), some (.ref D), some (.int (hf : Nat))]) (by rw [zV_length, ehf]; rfl) ?_
    rintro _ H5 rfl rfl
    refine ⟨_, rfl, D, _, rfl, .inl (SqL.of hD5), _, rfl, _, _, rfl, rfl, _, rfl, by rw [zV_length]; omega, by rw [zV_length]; omega, fun M hM => ?_⟩
    have ecn : (((zV rk).length : Nat) - ((hf : Nat) : Int)).toNat = rk.length - hf := by rw [zV_length]; omega
    rw [ecn]
    have gx : ∀ i, i < rk.length->rk[i]? = some (rk.getD i 0)/\rk.getD i 0 ∈ pl n := fun i hi => by
      have e : rk[i]? = some (rk.getD i 0) := by rw [List.getD_eq_getElem?_getD, List.getElem?_eq_getElem hi]; rfl
      exact ⟨e, rin _ (List.mem_of_getElem? e)⟩
    refine comp_rngN (fz := fun i => wy (rk.getD i 0) (rk.getD (i + hf) 0)) hM (by omega) (fun i hi H6 Qv s6 kk => ?_) fun ms H6 hM6 mnd s6 mfr => ?_
    · obtain ⟨g1, p1⟩ := gx i (by omega)
      obtain ⟨g2, p2⟩ := gx (i + hf) (by omega)
      refine ⟨_, rfl, _, rfl, _, rfl, D, _, _, _, rfl, rfl, SqL.of (s6 _ _ hD5), atI_int (by omega) (by rw [show (0 + (i : Int)).toNat = i by omega]; exact zV_get g1), _, rfl, _, rfl, _, rfl, _, _, rfl, rfl, D, _, _, _, rfl, rfl, SqL.of (s6 _ _ hD5), atI_int (by omega) (by rw [show (0 + (i : Int) + (hf : Nat)).toNat = i + hf by omega]; exact zV_get g2), n, Dn, ds, rs, _, _, f, rfl, hN5.mono s6, t, m, p1, p2, fun L ws H7 s7 hL0 hL w => kk L H7 s7 hL0 ?_⟩
      rw [WayOf.uniq t m p2 (hwy _ _ p1 p2) w]
      exact hL
    have kex : ∀ i, ∃ js, i + hf < rk.length->TourOk rs (wy (rk.getD i 0) (rk.getD (i + hf) 0)) js := fun i => by
      by_cases c : i + hf < rk.length
      · obtain ⟨js, h⟩ := (hwy _ _ (gx i (by omega)).2 (gx (i + hf) c).2).tour
        exact ⟨js, fun _ => h⟩
      · exact ⟨[], fun h => absurd h c⟩
    obtain ⟨ks, hks⟩ : ∃ ks : Nat->List Nat, ∀ i, i + hf < rk.length->TourOk rs (wy (rk.getD i 0) (rk.getD (i + hf) 0)) (ks i) := ⟨fun i => Classical.choose (kex i), fun i => Classical.choose_spec (kex i)⟩
    clear kex
    refine k M ms ((List.range (rk.length - hf)).map fun i => wy (rk.getD i 0) (rk.getD (i + hf) 0)) ((List.range (rk.length - hf)).map ks) H6 (s15.trans s6) (s15.free hM) hM6 mnd (fun h => ?_) (fun p hp => s15.free (mfr p hp)) (by rw [List.length_map, List.length_map]) (fun i ws js h1 h2 => ?_) (fun q hq => ?_) ?_ ?_
    · refine hM6.ne_top (fun z hz e => ?_) h
      obtain ⟨i, hi, rfl⟩ := List.mem_map.mp hz
      have hi := List.mem_range.mp hi
      have := (hwy _ _ (gx i (by omega)).2 (gx (i + hf) (by omega)).2).first
      rw [e] at this
      simp at this
    · rw [List.getElem?_map] at h1 h2
      cases e : (List.range (rk.length - hf))[i]? with
      | none => rw [e] at h1; cases h1
      | some j =>
        rw [e] at h1 h2
        cases h1
        cases h2
        have hj := List.mem_range.mp (List.mem_of_getElem? e)
        obtain ⟨g1, p1⟩ := gx j (by omega)
        obtain ⟨g2, p2⟩ := gx (j + hf) (by omega)
        have w := hwy _ _ p1 p2
        have o := hks j (by omega)
        obtain ⟨wn, wl⟩ := wnd _ _ p1 p2
        refine ⟨wn, ?_, wl, o.1, o.2⟩
        have h0 : hf ≠ 0 := by
          rcases two_leaves t m with z | z <;> omega
        have ne : rk.getD j 0 ≠ rk.getD (j + hf) 0 := fun e => by
          have := List.pairwise_iff_getElem.mp rnd j (j + hf) (by omega) (by omega) (by omega)
          rw [List.getD_eq_getElem?_getD, List.getElem?_eq_getElem (show j < rk.length by omega), List.getD_eq_getElem?_getD, List.getElem?_eq_getElem (show j + hf < rk.length by omega)] at e
          exact this e
        have f1 := w.first
        have l1 := w.last
        show 2 ≤ (wy (rk.getD j 0) (rk.getD (j + hf) 0)).length
        match hh : wy (rk.getD j 0) (rk.getD (j + hf) 0), f1, l1 with
        | [], f1, _ => simp at f1
        | [x], f1, l1 =>
          have e1 : x = rk.getD j 0 := by simpa using f1
          have e2 : x = rk.getD (j + hf) 0 := by simpa using l1
          exact absurd (e1.symm.trans e2) ne
        | _ :: _ :: _, _, _ => rw [List.length_cons, List.length_cons]; omega
    ·
      have hr := List.getElem_mem hq
      have hqe : rs[q]? = some rs[q] := List.getElem?_eq_getElem hq
      obtain ⟨j, e0⟩ := far_near t m z0 hr
      generalize nearE f 0 rs[q] = p at j e0
      generalize farE f 0 rs[q] = x at j e0
      obtain ⟨pp, xp, l1⟩ := Met.joins t hr j
      obtain ⟨y1, y1p, y1s, y1d⟩ := leaf_beyond t m hr j
      obtain ⟨y2, y2p, y2s, y2d⟩ := leaf_beyond t m hr j.symm
      have ix : ∀ y, y ∈ pl n->deg rs y = 1->∃ i, i < rk.length/\rk.getD i 0 = y := fun y hy hd => by
        have : y ∈ rk := pr.mem_iff.mpr (List.mem_filter.mpr ⟨hy, decide_eq_true hd⟩)
        obtain ⟨i, hi⟩ := List.mem_iff_getElem?.mp this
        exact ⟨i, (List.getElem?_eq_some_iff.mp hi).1, by rw [List.getD_eq_getElem?_getD, hi]; rfl⟩
      obtain ⟨i1, l1', e1⟩ := ix y1 y1p y1d
      obtain ⟨i2, l2', e2⟩ := ix y2 y2p y2d
      have ne : i1 ≠ i2 := fun e => by
        rw [e, e2] at e1
        subst e1
        omega
      have pre : ∀ i, i < rk.length->(f x (rk.getD i 0) < f p (rk.getD i 0)<->wy 0 x <+: wy 0 (rk.getD i 0)) := fun i hi => beyond_pre t m (W := wy 0) (fun z hz => hwy 0 z z0 hz) hr j e0 (gx i hi).2
      have enc_le : ∀ i j, i ≤ j->j < rk.length->enc 12 (wy 0 (rk.getD i 0)) ≤ enc 12 (wy 0 (rk.getD j 0)) := fun i j hij hj => by
        by_cases c : i = j
        · rw [c]; exact Int.le_refl _
        · have := List.pairwise_iff_getElem.mp pw i j (by omega) hj (by omega)
          rw [List.getD_eq_getElem?_getD, List.getElem?_eq_getElem (show i < rk.length by omega), List.getD_eq_getElem?_getD, List.getElem?_eq_getElem hj]
          exact this
      obtain ⟨i, il, iff⟩ := half_away (L := rk.length) (h := hf) (S := fun i => f x (rk.getD i 0) < f p (rk.getD i 0)) (by omega) (by omega) (fun a b c hab hbc hc sa sc => by
        have sa := (pre a (by omega)).mp sa
        have sc := (pre c hc).mp sc
        exact (pre b (by omega)).mpr (enc_between (wsh 0 _ z0 (gx a (by omega)).2) (wsh 0 _ z0 (gx b (by omega)).2) (wsh 0 _ z0 (gx c hc).2) (enc_le a b hab (by omega)) (enc_le b c hbc hc) sa sc)) ⟨i1, l1', by rw [e1]; exact y1s⟩ ⟨i2, l2', by rw [e2]; omega⟩
      have ga := (gx i (by omega)).2
      have gb := (gx (i + hf) il).2
      have w := hwy _ _ ga gb
      have o := hks i il
      have away : ∀ z ∈ pl n, ¬ f x z < f p z->f p z < f x z := fun z hz h => by
        have s1 := m.sym z hz p pp
        have s2 := m.sym z hz x xp
        rcases m.two hz hr j with e | e <;> omega
      have hk : q ∈ ks i := by
        by_cases c : f x (rk.getD i 0) < f p (rk.getD i 0)
        · have nb : ¬ f x (rk.getD (i + hf) 0) < f p (rk.getD (i + hf) 0) := fun h => iff ⟨fun _ => h, fun _ => c⟩
          exact w.crosses t m o hqe j.symm c nb
        · have yb : f x (rk.getD (i + hf) 0) < f p (rk.getD (i + hf) 0) := Classical.byContradiction fun h => iff ⟨fun z => absurd z c, fun z => absurd z h⟩
          exact w.crosses t m o hqe j (away _ ga c) (by omega)
      exact List.mem_flatten.mpr ⟨ks i, List.mem_map.mpr ⟨i, List.mem_range.mpr (by omega), rfl⟩, hk⟩
    · have := flat_len (b := 11) (kss := (List.range (rk.length - hf)).map ks) fun js hj => by
        obtain ⟨i, hi, rfl⟩ := List.mem_map.mp hj
        have hi := List.mem_range.mp hi
        have o := (hks i (by omega)).1
        have := (wnd _ _ (gx i (by omega)).2 (gx (i + hf) (by omega)).2).2
        omega
      rw [List.length_map, List.length_range] at this
      omega
    · rw [List.length_map, List.length_range, ← rl]
      omega
end
end Tw
namespace Tw
open PySem L2
def spLawT (names : List Str) (K : PySem.W.Frag) : Sp := fun vs H Q _ => ∃ (a : Addr) (ns : List Int), vs = [.ref a]/\SqL K H a (zV ns)/\(∀ n ∈ ns, Bits n)/\ns.length ≤ 63/\Tabs K names H/\∀ H', Q (.bl true) H'
section
variable {P : Program} {w : World} {K : PySem.W.Frag} {mg : Str->Option Value} {base : Heap}
abbrev scnOdd : List (Str × NameKind) := [(".0", .local), ("_law_place", .cell), ("len", .globalImplicit), ("_law_roads", .cell)]
theorem inc_mem {v : Int} {r : Road} : v ∈ [r.1, r.2.1]<->inc v r = true := by
  rw [inc_iff]
  simp only [List.mem_cons, List.not_mem_nil, or_false]
  constructor
  · rintro (h | h)
    · exact .inl h.symm
    · exact .inr h.symm
  · rintro (h | h)
    · exact .inl h.symm
    · exact .inr h.symm
theorem scLaw : FnScope ["_law_script", "_law_many", "_law_roads", "_law_numbers_here", "_law_handed", "_law_rows", "_law_gone_here", "_law_lone", "_law_row"] ["_law_script"] (defScope sLaw) := ⟨rfl, rfl, rfl, by decide +kernel, rfl, by decide +kernel, by decide +kernel⟩
theorem ok_law {f fT fCY fWA fGO T c : Addr} {fd fdT fdCY fdWA fdGO : FuncData} (F : Def K mg "law" sLaw ["_law_script"] f fd) (FT : Def K mg "_law_tree" sTree ["_law_script"] fT fdT) (FCY : Def K mg "_law_copy" sCopy ["_law_rows"] fCY fdCY) (FWA : Def K mg "sweeps" sSweeps ["many", "roads"] fWA fdWA) (FGO : Def K mg "_law_gone" sGone ["_law_many", "_law_roads", "_law_rows"] fGO fdGO) (GT : FnOk P w K mg base CX0 3 fT fdT ["_law_script"] (spTreeN K)) (GWA : FnOk P w K mg base CX0 7 fWA fdWA ["many", "roads"] (spSweeps T (lamQ "sweeps"))) (GGO : FnOk P w K mg base CX0 2 fGO fdGO ["_law_many", "_law_roads", "_law_rows"] spGone) (hT : PySem.W.tabIn K "sweeps" = some (c, T)) (B : Bi K mg) : FnOk P w K mg base CX0 8 f fd ["_law_script"] (spLawT ["sweeps"] K) := by
  have GCY : FnOk P w K mg base CX0 1 fCY fdCY ["_law_rows"] spCopy := ok_copy FCY B
  refine F.fn.ok scLaw (fun vs H Q E h => ?_) (fun cdv A outer s H vs Q E hr h => ?_)
  · obtain ⟨a, ns, rfl, _⟩ := h
    rfl
  · obtain ⟨a, ns, rfl, hS, hb, hl, tb, k⟩ := h
    have hTt : H T = some (.tbl #[.str (lamQ "sweeps") 0]) := tb "sweeps" (by simp) _ _ hT
    have nd := scLaw.nd
    have hu := hu_of hr
    refine ⟨_, (pss_cons (ps_asg (pe_call GT (hr.mono (by decide)) rfl FT.mg FT.fn.kp FT.bn .nil pass0 (pa_cons (pv 0) pa_nil)) (pg_tup rfl (pgs_cons (pg_name (i := 1) nd rfl (Or.inl rfl)) (pgs_cons (pg_name (i := 2) nd rfl (Or.inr rfl)) (pgs_cons (pg_name (i := 3) nd rfl (Or.inl rfl)) pgs_nil)))))
      (pss_cons (ps_set (i := 4) nd rfl (Or.inl rfl) (pe_call GCY (hr.mono (by decide)) rfl FCY.mg FCY.fn.kp FCY.bn .nil pass0 (pa_cons (pv 2) pa_nil)))
      (pss_cons (ps_set (i := 5) nd rfl (Or.inl rfl) (pe_call GWA (hr.mono (by decide)) rfl FWA.mg FWA.fn.kp FWA.bn .nil pass0 (pa_cons (pv 1) (pa_cons (pv 4) pa_nil))))
      (pss_cons (ps_set (i := 6) nd rfl (Or.inr rfl) (pe_call GGO (hr.mono (by decide)) rfl FGO.mg FGO.fn.kp FGO.bn .nil pass0 (pa_cons (pv 1) (pa_cons (pv 2) (pa_cons (pv 5) pa_nil)))))
      (pss_cons (ps_setC (defScope sLaw).names ["_law_script", "_law_many", "_law_roads", "_law_numbers_here", "_law_handed", "_law_rows", "_law_gone_here", "_law_lone", "_law_row"] ["_law_script", "_law_many", "_law_roads", "_law_numbers_here", "_law_handed", "_law_rows", "_law_gone_here", "_law_lone", "_law_row", "_law_place"] 7 nd rfl (Or.inl rfl) (pi_range1 rfl B.range (pa_cons (pv 1) pa_nil)) (fun _ _ _ _ => (pf_one (pt_cmpR op_eq (pe_callB (lenK K) (by rfl) B.len PySem.boot_len (pa_cons (pe_comp scnOdd ["_law_script", "_law_many", "_law_roads", "_law_numbers_here", "_law_handed", "_law_rows", "_law_gone_here", "_law_lone", "_law_row", "_law_place"] ["_law_script", "_law_many", "_law_roads", "_law_numbers_here", "_law_handed", "_law_rows", "_law_gone_here", "_law_lone", "_law_row", "_law_place", "_law_road"] (pi_listK K (pv 2)) (fun _ _ _ _ => (pf_one (pt_cmpR (inK K) (pv 9) (pe_slice (slK K) (pv 10) po_none (po_some pe_int)) rfl))) (fun _ _ _ _ => (pv 10))) pa_nil)) pe_int (nomark _)))) (fun _ _ _ _ => (pv 9)))
      (pss_cons (ps_if (PW.pt (pw_or (pt_cmpR op_isN (pv 6) pe_non (nomark _)) (pw_or (pt_not (pt_val (pe_callB (call_all rfl) (by rfl) B.all PyProof.Rows.boot_all (pa_cons (pe_comp (defScope sLaw).names ["_law_script", "_law_many", "_law_roads", "_law_numbers_here", "_law_handed", "_law_rows", "_law_gone_here", "_law_lone", "_law_row"] ["_law_script", "_law_many", "_law_roads", "_law_numbers_here", "_law_handed", "_law_rows", "_law_gone_here", "_law_lone", "_law_row", "_law_k"] (pi_range1 rfl B.range (pa_cons (pe_callB (lenK K) (by rfl) B.len PySem.boot_len (pa_cons (pv 2) pa_nil)) pa_nil)) (fun _ _ _ _ => pf_nil) (fun _ _ _ _ => (pe_cmpR (inK K) (pv 9) (pv 6) rfl))) pa_nil)))) (pw_or1 (pt_cmpR op_ne (pe_callB (lenK K) (by rfl) B.len PySem.boot_len (pa_cons (pv 5) pa_nil)) (pe_op op_fdiv (pe_op op_add (pe_callB (lenK K) (by rfl) B.len PySem.boot_len (pa_cons (pv 7) pa_nil)) pe_int) pe_int) (nomark _)))))) (pss_one (ps_ret pe_bl)) pss_nil)
      (pss_cons (ps_for PassesOwn.never rfl (pi_listK K (pv 5)) (pg_name (i := 8) nd rfl (Or.inl rfl)) (pss_one (ps_expr (pe_bm PySem.F.plainAttrs_list PySem.F.slot_list_append PySem.F.type_list_append mt_append (pv 8) (pa_consC pe_int pa_nil)))))
      (pss_cons (ps_expr (pe_bm PySem.F.plainAttrs_list PySem.F.slot_list_append PySem.F.type_list_append mt_append (pv 5) (pa_consL (pe_lst (pa_consC pe_int pa_nil)) pa_nil)))
      (pss_one (ps_ret (pe_cmpR (op_eqR hu) (pv 4) (pv 2) (nomark _)))))))))))), ?_⟩
    refine ⟨_, rfl, a, ns, rfl, hS, hl, fun U R N as n rs xs H1 hU hR t hle hN nm s1 => ?_⟩
    refine ⟨U, _, rfl, SqT.of hU, rfl, _, _, rfl, _, _, rfl, _, _, rfl, rfl, ?_⟩
    have th := t.hi
    have tlo := t.lo
    have tl := t.length
    have al := hR.len
    obtain ⟨f, m⟩ := t.met
    refine ⟨_, rfl, R, as, rs.map rowI, rfl, hR.rows, by rw [List.length_map]; omega, fun D bs H2 hD2 s2 dfr hD0 => ?_⟩
    have dis : ∀ p ∈ bs, p ∉ as := fun p hp => hR.fresh (dfr p hp)
    have hR2 := hR.mono s2
    refine ⟨_, rfl, _, rfl, n, D, bs, rs, f, _, rfl, hD2, t, m, (s1.trans s2) _ _ hTt, rfl, fun M ms wss kss H3 s3 hM0 hM3 mnd nM mfr wk wok call kfl cnt => ?_⟩
    have hR3 := hR2.mono s3
    have lvl : (lvs n rs).length ≤ 12 := by
      have := List.length_filter_le (fun v => decide (deg rs v = 1)) (pl n)
      rw [pl_length] at this
      unfold lvs; omega
    have wl : wss.length ≤ 12 := by omega
    refine ⟨_, rfl, _, rfl, _, rfl, n, R, M, as, ms, rs, wss, kss, rfl, hR3.rows, t, hM3, wk, by omega, wok, by omega, fun FF H4 s4 hF0 hF4 => ?_⟩
    have s24 := s3.trans s4
    have hR4 := hR2.mono s24
    have hM4 := hM3.mono s4
    refine ⟨_, rfl, (n : Int), rfl, by omega, by omega, fun O hO => ?_⟩
    rw [Int.toNat_natCast]
    refine comp_range (fun i ys H5 => ys = zV (((pl n).take i).filter fun v => decide (deg rs v = 1))/\H5 O = some (.lst ys)/\Same H4 H5) (fun _ _ _ h => h.2.1) ⟨rfl, upd_same, same_upd hO⟩ ?_ ?_
    · rintro i ys H5 hi ⟨rfl, hO5, s5⟩
      have hR5 := hR4.mono s5
      have e0 : (0 : Int) + (i : Int) = (i : Int) := by omega
      refine ⟨_, rfl, R, rfl, ⟨_, SqL.of hR5.rows.top⟩, fun C hC => ?_⟩
      refine comp_list (K := K) (a := R) (xs := as.map V.ref) (fun q zs H6 => zs.length = (rs.take q).countP (inc (i : Int))/\H6 C = some (.lst zs)/\Same H5 H6) (fun _ _ _ h => ⟨h.2.1, SqL.of (h.2.2 _ _ hR5.rows.top)⟩) ⟨rfl, upd_same, same_upd hC⟩ ?_ ?_
      · rintro q y zs H6 hq ⟨zl, hC6, s6⟩
        obtain ⟨p, hp, rfl⟩ := get_ref hq
        have hql : q < rs.length := by rw [← al]; exact (List.getElem?_eq_some_iff.mp hp).1
        obtain ⟨r, er⟩ : ∃ r, rs[q]? = some r := ⟨_, List.getElem?_eq_getElem hql⟩
        have hrow : H6 p = some (.lst [.int r.1, .int r.2.1, .int r.2.2]) := s6 _ _ (hR5.rows.row q p (rowI r) hp (by rw [List.getElem?_map, er]; rfl))
        refine ⟨_, rfl, _, rfl, _, rfl, p, _, rfl, SqL.of hrow, fun p1 hp1 => ?_⟩
        refine ⟨p1, _, rfl, .inl (SqL.of upd_same), rfl, rfl, _, rfl, ?_⟩
        show (if inV (V.int (0 + (i : Int))) (zV [r.1, r.2.1]) = true then _ else _)
        rw [inV_zV, e0]
        have s7 := s6.trans (same_upd (o := .lst (cutV [V.int r.1, V.int r.2.1, V.int r.2.2] none (some 2))) hp1)
        have hC7 : (upd H6 p1 (.lst (cutV [V.int r.1, V.int r.2.1, V.int r.2.2] none (some 2)))) C = some (.lst zs) := by rw [upd_ne (ne_of_none hC6 hp1)]; exact hC6
        generalize upd H6 p1 (.lst (cutV [V.int r.1, V.int r.2.1, V.int r.2.2] none (some 2))) = H7 at s7 hC7
        have cl : (rs.take q).countP (inc (i : Int)) ≤ 12 := by
          have := List.countP_le_length (p := inc (i : Int)) (l := rs.take q)
          rw [List.length_take] at this; omega
        have ecnt : (rs.take (q + 1)).countP (inc (i : Int)) = (rs.take q).countP (inc (i : Int)) + if inc (i : Int) r = true then 1 else 0 := by
          rw [List.take_add_one, er, List.countP_append]
          show _ + [r].countP _ = _
          rw [List.countP_singleton]
        refine iteD (fun e => ?_) (fun e => ?_)
        · refine ⟨_, rfl, hC7, by rw [zl]; exact small1000 (by omega), ?_, upd_same, fun b o e => by rw [upd_ne (ne_of_none e hC)]; exact s7 b o e⟩
          rw [List.length_append, zl, ecnt, if_pos (inc_mem.mp e)]; rfl
        · refine ⟨?_, hC7, s7⟩
          rw [zl, ecnt, if_neg (fun h => e (inc_mem.mpr h))]; rfl
      rintro zs H6 ⟨zl, hC6, s6⟩
      rw [List.length_map, al, List.take_length] at zl
      have dg : zs.length = deg rs (i : Int) := zl
      refine ⟨C, _, rfl, .inl (SqL.of hC6), rfl, _, rfl, ?_⟩
      rw [dec_vint, dg]
      have hO6 := s6 _ _ hO5
      refine iteD (fun e => ?_) (fun e => ?_)
      · refine ⟨_, rfl, hO6, ?_, ?_, upd_same, fun b o e => by rw [upd_ne (ne_of_none e hO)]; exact s6 b o (s5 b o e)⟩
        · rw [zV_length]
          refine small1000 (Nat.le_trans (List.length_filter_le _ _) ?_)
          rw [List.length_take]; omega
        · rw [take_pl hi, List.filter_append]
          have : decide (deg rs (i : Int) = 1) = true := by simp; omega
          rw [show ([(i : Int)].filter fun v => decide (deg rs v = 1)) = [(i : Int)] by rw [List.filter_cons, if_pos this]; rfl, ← zV_append, e0]
      · refine ⟨?_, hO6, s5.trans s6⟩
        rw [take_pl hi, List.filter_append]
        have : ¬ decide (deg rs (i : Int) = 1) = true := by simp; omega
        rw [show ([(i : Int)].filter fun v => decide (deg rs v = 1)) = [] by rw [List.filter_cons, if_neg this]; rfl, List.append_nil]
    rintro ys H5 ⟨rfl, hO5, s5⟩
    rw [List.take_of_length_le (by rw [pl_length]; exact Nat.le_refl _)] at hO5
    have hO5 : H5 O = some (.lst (zV (lvs n rs))) := hO5
    have s25 := s24.trans s5
    have hF5 := s5 _ _ hF4
    have hM5 := hM4.mono s5
    refine ⟨_, rfl, rfl, _, rfl, ?_⟩
    rw [decide_eq_false (fun h => by cases h)]
    refine iteF ?_
    have hR5 := hR2.mono s25
    refine ⟨_, rfl, R, _, rfl, .inl (SqL.of hR5.rows.top), _, rfl, by rw [List.length_map]; omega, by rw [List.length_map]; omega, fun A2 hA2 => ?_⟩
    rw [List.length_map, al, Int.toNat_natCast]
    refine comp_rng (fv := fun _ => V.bl true) hA2 (by omega) (fun i hi H6 Qv s6 kk => ?_) fun H6 hA6 s6 => ?_
    · have mem : ((i : Nat) : Int) ∈ nI kss.flatten := List.mem_map.mpr ⟨i, call i hi, rfl⟩
      have := kk H6 (Same.refl _)
      rw [show true = decide (((0 : Int) + (i : Int)) ∈ nI kss.flatten) from (decide_eq_true (by rw [Int.zero_add]; exact mem)).symm, ← inV_zV] at this
      exact ⟨_, rfl, _, rfl, FF, _, rfl, .inl (SqL.of (s6 _ _ hF5)), rfl, zV_flat _, this⟩
    refine ⟨A2, (List.range rs.length).map fun _ => true, rfl, SqL.of (by rw [hA6, List.map_map]; rfl), _, rfl, ?_⟩
    have ea : ((List.range rs.length).map fun _ => true).all id = true := by
      rw [List.all_eq_true]
      intro b hb
      obtain ⟨_, _, rfl⟩ := List.mem_map.mp hb
      rfl
    rw [ea]
    refine iteF ?_
    have s7 := s6
    have s27 := s25.trans s7
    have hM7 := hM5.mono s7
    have hO7 := s7 _ _ hO5
    have ml := hM7.len
    refine ⟨_, rfl, M, _, rfl, .inl (SqL.of hM7.top), _, rfl, O, _, rfl, .inl (SqL.of hO7), _, _, rfl, rfl, _, _, rfl, rfl, ⟨by decide, by decide⟩, rfl, _, rfl, ?_⟩
    rw [List.length_map, zV_length, dec_vint, decide_eq_true (show (ms.length : Int) = (((lvs n rs).length : Int) + 1) / 2 by omega)]
    refine iteF ?_
    refine ⟨_, rfl, M, rfl, ⟨_, SqL.of hM7.top⟩, for_list (K := K) (a := M) (xs := ms.map V.ref) (fun j σ HX => ∃ v8 : Option V, σ = [some (.ref a), some (.int n), some (.ref R), some (.ref N), some (.ref D), some (.ref M), some (.ref FF), some (.ref O), v8]/\(∀ b o, H6 b = some o->b ∉ ms->HX b = some o)/\∀ i p, j ≤ i->ms[i]? = some p->HX p = H6 p) ⟨none, rfl, fun b o e _ => e, fun _ _ _ _ => rfl⟩ (fun j σ HX _ ⟨_, _, h, _⟩ => SqL.of (h _ _ hM7.top nM)) ?_ ?_⟩
    · rintro j y σ HX hj ⟨v8, rfl, o1, o2⟩
      obtain ⟨p, hp, rfl⟩ := get_ref hj
      have hjl : j < wss.length := by rw [← ml]; exact (List.getElem?_eq_some_iff.mp hp).1
      have hrow : HX p = some (.lst (zV wss[j])) := by rw [o2 j p (Nat.le_refl _) hp]; exact hM7.row j p wss[j] hp (List.getElem?_eq_getElem hjl)
      have wo := wok j wss[j] kss[j] (List.getElem?_eq_getElem hjl) (List.getElem?_eq_getElem (by omega))
      have wh := wo.hi
      refine ⟨_, rfl, .inl ⟨rfl, _, SqL.of hrow⟩, p, _, _, rfl, rfl, hrow, by rw [zV_length]; exact small1000 (by omega), ?_⟩
      refine ⟨_, rfl, fun b o e nb => ?_, fun i q hi hq => ?_⟩
      · rw [upd_ne (show b ≠ p from fun z => nb (by rw [z]; exact List.mem_of_getElem? hp))]; exact o1 b o e nb
      · have nqp : q ≠ p := fun z => by
          subst z
          obtain ⟨h1, q1⟩ := List.getElem?_eq_some_iff.mp hp
          obtain ⟨h2, q2⟩ := List.getElem?_eq_some_iff.mp hq
          have := (List.getElem_inj mnd).mp (q1.trans q2.symm)
          omega
        rw [upd_ne nqp]; exact o2 i q (by omega) hq
    rintro σ HX ⟨v8, rfl, o1, _⟩
    have sX : Same H2 HX := fun b o e => o1 b o (s27 b o e) fun hb => by have := mfr b hb; rw [e] at this; cases this
    have hMX := o1 _ _ hM7.top nM
    refine ⟨_, rfl, .inl ⟨rfl, _, SqL.of hMX⟩, by show 1 ≤ sizeLine; exact len12 (by decide), fun q2 hq2 => ?_⟩
    refine ⟨M, _, _, rfl, rfl, by rw [upd_ne (ne_of_none hMX hq2)]; exact hMX, by rw [List.length_map]; exact small1000 (by omega), ?_⟩
    have sY : Same H2 (upd (upd HX q2 (.lst [V.int 99])) M (.lst (ms.map V.ref ++ [V.ref q2]))) := fun b o e => by
      rw [upd_ne (ne_of_none e hM0), upd_ne (ne_of_none (sX b o e) hq2)]; exact sX b o e
    generalize upd (upd HX q2 (.lst [V.int 99])) M (.lst (ms.map V.ref ++ [V.ref q2])) = HY at sY
    refine ⟨_, rfl, _, rfl, D, R, bs, as, _, _, rfl, rfl, rows2_of (hD2.mono sY), rows2_of (hR2.mono sY).rows, dis, rfl, ?_⟩
    rw [rows_same]
    exact k _
end
end Tw
namespace Tw
open PySem L2
theorem def_mk {K : PySem.W.Frag} {h : Heap} {mg : Str->Option Value} {x : Str} {st : Stmt} {ps : List Str} {f : Addr} {oc : Value} {od an : Option Addr} {osl : Array (Option Value)} {kV doc pm cdv ct : Value} (X : K.In h) (G : h.Ns mainGlobals mg) (a : PySem.W.nsIn K mainGlobals x = some (some (.ref f))) (l : K.lookup f = some ⟨oc, od, .func (PySem.W.fnOf x x (defArgs st) (defBody st) (defScope st) .none kV doc pm an cdv ct), osl⟩) (c : PySem.W.codeIn K cdv x = true) (k : PySem.W.keepIn K (.ref f) = true) (b : ∀ (kV doc pm : Value) (an : Option Addr) (cdv ct : Value) (us : List Value), us.length = ps.length->bindArgs (PySem.W.fnOf x x (defArgs st) (defBody st) (defScope st) .none kV doc pm an cdv ct) ⟨us, []⟩ = pure (ps.zip us)) : Def K mg x st ps f (PySem.W.fnOf x x (defArgs st) (defBody st) (defScope st) .none kV doc pm an cdv ct) := ⟨fun_mk l c k, (fun_mk l c k).binds b, PySem.W.mg_of X G a⟩
theorem tabs_some {K : PySem.W.Frag} {names : List Str} {n : Str} (h : tabsOk K names = true) (hn : n ∈ names) : ∃ c P, PySem.W.tabIn K n = some (c, P) := by
  have t := List.all_eq_true.mp (Bool.and_eq_true_iff.mp h).1 n hn
  cases e : PySem.W.tabIn K n with
  | none => rw [e] at t; cases t
  | some x => exact ⟨x.1, x.2, rfl⟩
theorem all_mk {l : PySem.W.OpenLaw} {w : World} {K : PySem.W.Frag} {h : Heap} {mg : Str->Option Value} {fa fW fP fRD fI fC fN fS fWB fLV fSW fY fA fM fE fU fT fCY fON fGO fX : Addr} (X : K.In h) (G : h.Ns mainGlobals mg) (hfa : mg "law" = some (.ref fa)) (hCd : ∀ n ∈ ((["sweeps"] : List Str) : List Str), ∀ c P, PySem.W.tabIn K n = some (c, P)->PySem.W.CodeHd h c P)
    {odW anW odP anP odRD anRD odI anI odC anC odN anN odS anS odWB anWB odLV anLV odSW anSW odY anY odA anA odM anM odE anE odU anU odT anT odCY anCY odON anON odGO anGO odX anX : Option Addr} {slW slP slRD slI slC slN slS slWB slLV slSW slY slA slM slE slU slT slCY slON slGO slX : Array (Option Value)}
    {ocW kVW dcW pmW cdW ctW ocP kVP dcP pmP cdP ctP ocRD kVRD dcRD pmRD cdRD ctRD ocI kVI dcI pmI cdI ctI ocC kVC dcC pmC cdC ctC ocN kVN dcN pmN cdN ctN ocS kVS dcS pmS cdS ctS ocWB kVWB dcWB pmWB cdWB ctWB ocLV kVLV dcLV pmLV cdLV ctLV ocSW kVSW dcSW pmSW cdSW ctSW ocY kVY dcY pmY cdY ctY ocA kVA dcA pmA cdA ctA ocM kVM dcM pmM cdM ctM ocE kVE dcE pmE cdE ctE ocU kVU dcU pmU cdU ctU ocT kVT dcT pmT cdT ctT ocCY kVCY dcCY pmCY cdCY ctCY ocON kVON dcON pmON cdON ctON ocGO kVGO dcGO pmGO cdGO ctGO ocX kVX dcX pmX cdX ctX : Value}
    (aW : PySem.W.nsIn K mainGlobals "is_whole" = some (some (.ref fW))) (lW : K.lookup fW = some ⟨ocW, odW, .func (PySem.W.fnOf "is_whole" "is_whole" (defArgs sWhole) (defBody sWhole) (defScope sWhole) .none kVW dcW pmW anW cdW ctW), slW⟩) (cW : PySem.W.codeIn K cdW "is_whole" = true) (kW : PySem.W.keepIn K (.ref fW) = true)
    (aP : PySem.W.nsIn K mainGlobals "is_place" = some (some (.ref fP))) (lP : K.lookup fP = some ⟨ocP, odP, .func (PySem.W.fnOf "is_place" "is_place" (defArgs sPlace) (defBody sPlace) (defScope sPlace) .none kVP dcP pmP anP cdP ctP), slP⟩) (cP : PySem.W.codeIn K cdP "is_place" = true) (kP : PySem.W.keepIn K (.ref fP) = true)
    (aRD : PySem.W.nsIn K mainGlobals "is_road" = some (some (.ref fRD))) (lRD : K.lookup fRD = some ⟨ocRD, odRD, .func (PySem.W.fnOf "is_road" "is_road" (defArgs sRoad) (defBody sRoad) (defScope sRoad) .none kVRD dcRD pmRD anRD cdRD ctRD), slRD⟩) (cRD : PySem.W.codeIn K cdRD "is_road" = true) (kRD : PySem.W.keepIn K (.ref fRD) = true)
    (aI : PySem.W.nsIn K mainGlobals "is_tree" = some (some (.ref fI))) (lI : K.lookup fI = some ⟨ocI, odI, .func (PySem.W.fnOf "is_tree" "is_tree" (defArgs sIsTree) (defBody sIsTree) (defScope sIsTree) .none kVI dcI pmI anI cdI ctI), slI⟩) (cI : PySem.W.codeIn K cdI "is_tree" = true) (kI : PySem.W.keepIn K (.ref fI) = true)
    (aC : PySem.W.nsIn K mainGlobals "check_tree" = some (some (.ref fC))) (lC : K.lookup fC = some ⟨ocC, odC, .func (PySem.W.fnOf "check_tree" "check_tree" (defArgs sCheck) (defBody sCheck) (defScope sCheck) .none kVC dcC pmC anC cdC ctC), slC⟩) (cC : PySem.W.codeIn K cdC "check_tree" = true) (kC : PySem.W.keepIn K (.ref fC) = true)
    (aN : PySem.W.nsIn K mainGlobals "neighbours" = some (some (.ref fN))) (lN : K.lookup fN = some ⟨ocN, odN, .func (PySem.W.fnOf "neighbours" "neighbours" (defArgs sNear) (defBody sNear) (defScope sNear) .none kVN dcN pmN anN cdN ctN), slN⟩) (cN : PySem.W.codeIn K cdN "neighbours" = true) (kN : PySem.W.keepIn K (.ref fN) = true)
    (aS : PySem.W.nsIn K mainGlobals "steps_to" = some (some (.ref fS))) (lS : K.lookup fS = some ⟨ocS, odS, .func (PySem.W.fnOf "steps_to" "steps_to" (defArgs sSteps) (defBody sSteps) (defScope sSteps) .none kVS dcS pmS anS cdS ctS), slS⟩) (cS : PySem.W.codeIn K cdS "steps_to" = true) (kS : PySem.W.keepIn K (.ref fS) = true)
    (aWB : PySem.W.nsIn K mainGlobals "way_between" = some (some (.ref fWB))) (lWB : K.lookup fWB = some ⟨ocWB, odWB, .func (PySem.W.fnOf "way_between" "way_between" (defArgs sWayB) (defBody sWayB) (defScope sWayB) .none kVWB dcWB pmWB anWB cdWB ctWB), slWB⟩) (cWB : PySem.W.codeIn K cdWB "way_between" = true) (kWB : PySem.W.keepIn K (.ref fWB) = true)
    (aLV : PySem.W.nsIn K mainGlobals "leaves" = some (some (.ref fLV))) (lLV : K.lookup fLV = some ⟨ocLV, odLV, .func (PySem.W.fnOf "leaves" "leaves" (defArgs sLeaves) (defBody sLeaves) (defScope sLeaves) .none kVLV dcLV pmLV anLV cdLV ctLV), slLV⟩) (cLV : PySem.W.codeIn K cdLV "leaves" = true) (kLV : PySem.W.keepIn K (.ref fLV) = true)
    (aSW : PySem.W.nsIn K mainGlobals "sweeps" = some (some (.ref fSW))) (lSW : K.lookup fSW = some ⟨ocSW, odSW, .func (PySem.W.fnOf "sweeps" "sweeps" (defArgs sSweeps) (defBody sSweeps) (defScope sSweeps) .none kVSW dcSW pmSW anSW cdSW ctSW), slSW⟩) (cSW : PySem.W.codeIn K cdSW "sweeps" = true) (kSW : PySem.W.keepIn K (.ref fSW) = true)
    (aY : PySem.W.nsIn K mainGlobals "_law_whole" = some (some (.ref fY))) (lY : K.lookup fY = some ⟨ocY, odY, .func (PySem.W.fnOf "_law_whole" "_law_whole" (defArgs sLWhole) (defBody sLWhole) (defScope sLWhole) .none kVY dcY pmY anY cdY ctY), slY⟩) (cY : PySem.W.codeIn K cdY "_law_whole" = true) (kY : PySem.W.keepIn K (.ref fY) = true)
    (aA : PySem.W.nsIn K mainGlobals "_law_cell_at" = some (some (.ref fA))) (lA : K.lookup fA = some ⟨ocA, odA, .func (PySem.W.fnOf "_law_cell_at" "_law_cell_at" (defArgs sCell) (defBody sCell) (defScope sCell) .none kVA dcA pmA anA cdA ctA), slA⟩) (cA : PySem.W.codeIn K cdA "_law_cell_at" = true) (kA : PySem.W.keepIn K (.ref fA) = true)
    (aM : PySem.W.nsIn K mainGlobals "_law_mixed" = some (some (.ref fM))) (lM : K.lookup fM = some ⟨ocM, odM, .func (PySem.W.fnOf "_law_mixed" "_law_mixed" (defArgs sMixed) (defBody sMixed) (defScope sMixed) .none kVM dcM pmM anM cdM ctM), slM⟩) (cM : PySem.W.codeIn K cdM "_law_mixed" = true) (kM : PySem.W.keepIn K (.ref fM) = true)
    (aE : PySem.W.nsIn K mainGlobals "_law_names" = some (some (.ref fE))) (lE : K.lookup fE = some ⟨ocE, odE, .func (PySem.W.fnOf "_law_names" "_law_names" (defArgs sNames) (defBody sNames) (defScope sNames) .none kVE dcE pmE anE cdE ctE), slE⟩) (cE : PySem.W.codeIn K cdE "_law_names" = true) (kE : PySem.W.keepIn K (.ref fE) = true)
    (aU : PySem.W.nsIn K mainGlobals "_law_numbers" = some (some (.ref fU))) (lU : K.lookup fU = some ⟨ocU, odU, .func (PySem.W.fnOf "_law_numbers" "_law_numbers" (defArgs sNumbers) (defBody sNumbers) (defScope sNumbers) .none kVU dcU pmU anU cdU ctU), slU⟩) (cU : PySem.W.codeIn K cdU "_law_numbers" = true) (kU : PySem.W.keepIn K (.ref fU) = true)
    (aT : PySem.W.nsIn K mainGlobals "_law_tree" = some (some (.ref fT))) (lT : K.lookup fT = some ⟨ocT, odT, .func (PySem.W.fnOf "_law_tree" "_law_tree" (defArgs sTree) (defBody sTree) (defScope sTree) .none kVT dcT pmT anT cdT ctT), slT⟩) (cT : PySem.W.codeIn K cdT "_law_tree" = true) (kT : PySem.W.keepIn K (.ref fT) = true)
    (aCY : PySem.W.nsIn K mainGlobals "_law_copy" = some (some (.ref fCY))) (lCY : K.lookup fCY = some ⟨ocCY, odCY, .func (PySem.W.fnOf "_law_copy" "_law_copy" (defArgs sCopy) (defBody sCopy) (defScope sCopy) .none kVCY dcCY pmCY anCY cdCY ctCY), slCY⟩) (cCY : PySem.W.codeIn K cdCY "_law_copy" = true) (kCY : PySem.W.keepIn K (.ref fCY) = true)
    (aON : PySem.W.nsIn K mainGlobals "_law_on" = some (some (.ref fON))) (lON : K.lookup fON = some ⟨ocON, odON, .func (PySem.W.fnOf "_law_on" "_law_on" (defArgs sOn) (defBody sOn) (defScope sOn) .none kVON dcON pmON anON cdON ctON), slON⟩) (cON : PySem.W.codeIn K cdON "_law_on" = true) (kON : PySem.W.keepIn K (.ref fON) = true)
    (aGO : PySem.W.nsIn K mainGlobals "_law_gone" = some (some (.ref fGO))) (lGO : K.lookup fGO = some ⟨ocGO, odGO, .func (PySem.W.fnOf "_law_gone" "_law_gone" (defArgs sGone) (defBody sGone) (defScope sGone) .none kVGO dcGO pmGO anGO cdGO ctGO), slGO⟩) (cGO : PySem.W.codeIn K cdGO "_law_gone" = true) (kGO : PySem.W.keepIn K (.ref fGO) = true)
    (aX : PySem.W.nsIn K mainGlobals "law" = some (some (.ref fX))) (lX : K.lookup fX = some ⟨ocX, odX, .func (PySem.W.fnOf "law" "law" (defArgs sLaw) (defBody sLaw) (defScope sLaw) .none kVX dcX pmX anX cdX ctX), slX⟩) (cX : PySem.W.codeIn K cdX "law" = true) (kX : PySem.W.keepIn K (.ref fX) = true)
    (tbs : tabsOk K (["sweeps"] : List Str) = true)
    (zisinstance : PySem.W.nsIn K mainGlobals "isinstance" = some none)
    (zint : PySem.W.nsIn K mainGlobals "int" = some none)
    (zbool : PySem.W.nsIn K mainGlobals "bool" = some none)
    (zlist : PySem.W.nsIn K mainGlobals "list" = some none)
    (zlen : PySem.W.nsIn K mainGlobals "len" = some none)
    (zall : PySem.W.nsIn K mainGlobals "all" = some none)
    (zsum : PySem.W.nsIn K mainGlobals "sum" = some none)
    (zrange : PySem.W.nsIn K mainGlobals "range" = some none)
    (zmax : PySem.W.nsIn K mainGlobals "max" = some none)
    (zmin : PySem.W.nsIn K mainGlobals "min" = some none)
    (zset : PySem.W.nsIn K mainGlobals "set" = some none)
    (zsorted : PySem.W.nsIn K mainGlobals "sorted" = some none)
    (zzip : PySem.W.nsIn K mainGlobals "zip" = some none)
    (zany : PySem.W.nsIn K mainGlobals "any" = some none)
    (zdict : PySem.W.nsIn K mainGlobals "dict" = some none)
    (zreversed : PySem.W.nsIn K mainGlobals "reversed" = some none)
    (ztuple : PySem.W.nsIn K mainGlobals "tuple" = some none)
    {tm : Tok} (zM : PySem.W.nsIn K mainGlobals "MOST_PLACES" = some (some (.int 12 tm)))
    (ii : PySem.W.kitOne K (.type "int") (.type "int") = some true) (ib : PySem.W.kitOne K (.type "int") (.type "bool") = some false) (ll : PySem.W.kitOne K (.type "list") (.type "list") = some true) (bb : PySem.W.kitOne K (.type "bool") (.type "bool") = some true) (tt : PySem.W.kitOne K (.type "tuple") (.type "tuple") = some true) :
    ∃ fd : FuncData, (∀ (s : Shared) (v : Value), BindsTo s fd ⟨[v], []⟩ [("_law_script", v)])/\∀ base : Heap, K.In base->base.Ns mainGlobals mg->FnOk l.prog w K mg base CX0 8 fa fd ["_law_script"] (spLawT (["sweeps"] : List Str) K) := by
  have e := hfa.symm.trans (PySem.W.mg_of X G aX)
  cases e
  have B : Bi K mg := ⟨PySem.W.mg_none_of X G zisinstance, PySem.W.mg_none_of X G zint, PySem.W.mg_none_of X G zbool, PySem.W.mg_none_of X G zlist, PySem.W.mg_none_of X G zlen, PySem.W.mg_none_of X G zall, PySem.W.mg_none_of X G zsum, PySem.W.mg_none_of X G zrange, PySem.W.mg_none_of X G zmax, PySem.W.mg_none_of X G zmin, PySem.W.mg_none_of X G zset, PySem.W.mg_none_of X G zsorted, PySem.W.mg_none_of X G zzip, PySem.W.mg_none_of X G zany, PySem.W.mg_none_of X G zdict, PySem.W.mg_none_of X G zreversed, PySem.W.mg_none_of X G ztuple, ii, ib, ll, bb, tt⟩
  have hM := PySem.W.mg_of X G zM
  have FW := def_mk (st := sWhole) (ps := ["value"]) X G aW lW cW kW fun _ _ _ _ _ _ us hl => match us, hl with | [_], _ => rfl
  have FP := def_mk (st := sPlace) (ps := ["many", "value"]) X G aP lP cP kP fun _ _ _ _ _ _ us hl => match us, hl with | [_, _], _ => rfl
  have FRD := def_mk (st := sRoad) (ps := ["many", "row"]) X G aRD lRD cRD kRD fun _ _ _ _ _ _ us hl => match us, hl with | [_, _], _ => rfl
  have FI := def_mk (st := sIsTree) (ps := ["many", "roads"]) X G aI lI cI kI fun _ _ _ _ _ _ us hl => match us, hl with | [_, _], _ => rfl
  have FC := def_mk (st := sCheck) (ps := ["many", "roads"]) X G aC lC cC kC fun _ _ _ _ _ _ us hl => match us, hl with | [_, _], _ => rfl
  have FN := def_mk (st := sNear) (ps := ["many", "roads"]) X G aN lN cN kN fun _ _ _ _ _ _ us hl => match us, hl with | [_, _], _ => rfl
  have FS := def_mk (st := sSteps) (ps := ["near", "goal"]) X G aS lS cS kS fun _ _ _ _ _ _ us hl => match us, hl with | [_, _], _ => rfl
  have FWB := def_mk (st := sWayB) (ps := ["near", "a", "b"]) X G aWB lWB cWB kWB fun _ _ _ _ _ _ us hl => match us, hl with | [_, _, _], _ => rfl
  have FLV := def_mk (st := sLeaves) (ps := ["many", "roads"]) X G aLV lLV cLV kLV fun _ _ _ _ _ _ us hl => match us, hl with | [_, _], _ => rfl
  have FSW := def_mk (st := sSweeps) (ps := ["many", "roads"]) X G aSW lSW cSW kSW fun _ _ _ _ _ _ us hl => match us, hl with | [_, _], _ => rfl
  have FY := def_mk (st := sLWhole) (ps := ["_law_found"]) X G aY lY cY kY fun _ _ _ _ _ _ us hl => match us, hl with | [_], _ => rfl
  have FA := def_mk (st := sCell) (ps := ["_law_script", "_law_k"]) X G aA lA cA kA fun _ _ _ _ _ _ us hl => match us, hl with | [_, _], _ => rfl
  have FM := def_mk (st := sMixed) (ps := ["_law_cell", "_law_k"]) X G aM lM cM kM fun _ _ _ _ _ _ us hl => match us, hl with | [_, _], _ => rfl
  have FE := def_mk (st := sNames) (ps := ["_law_cell", "_law_many"]) X G aE lE cE kE fun _ _ _ _ _ _ us hl => match us, hl with | [_, _], _ => rfl
  have FU := def_mk (st := sNumbers) (ps := ["_law_script"]) X G aU lU cU kU fun _ _ _ _ _ _ us hl => match us, hl with | [_], _ => rfl
  have FT := def_mk (st := sTree) (ps := ["_law_script"]) X G aT lT cT kT fun _ _ _ _ _ _ us hl => match us, hl with | [_], _ => rfl
  have FCY := def_mk (st := sCopy) (ps := ["_law_rows"]) X G aCY lCY cCY kCY fun _ _ _ _ _ _ us hl => match us, hl with | [_], _ => rfl
  have FON := def_mk (st := sOn) (ps := ["_law_roads", "_law_a", "_law_b"]) X G aON lON cON kON fun _ _ _ _ _ _ us hl => match us, hl with | [_, _, _], _ => rfl
  have FGO := def_mk (st := sGone) (ps := ["_law_many", "_law_roads", "_law_rows"]) X G aGO lGO cGO kGO fun _ _ _ _ _ _ us hl => match us, hl with | [_, _, _], _ => rfl
  have FX := def_mk (st := sLaw) (ps := ["_law_script"]) X G aX lX cX kX fun _ _ _ _ _ _ us hl => match us, hl with | [_], _ => rfl
  obtain ⟨tcSW, tTSW, tbSW⟩ := tabs_some tbs (show ("sweeps" : Str) ∈ (["sweeps"] : List Str) by simp)
  have TBSW := tab_mk X (hCd "sweeps" (by simp) _ _ tbSW) aSW lSW tbSW
  refine ⟨PySem.W.fnOf "law" "law" (defArgs sLaw) (defBody sLaw) (defScope sLaw) .none kVX dcX pmX anX cdX ctX, fun s v => .of_eq rfl, fun base _ _ => ?_⟩
  have GI : FnOk l.prog w K mg base CX0 4 fI _ ["many", "roads"] spIsTree := ok_istree FI FW FP FRD FN FS B hM
  have GC : FnOk l.prog w K mg base CX0 5 fC _ ["many", "roads"] spCheck := ok_check FC FI GI
  have GLV : FnOk l.prog w K mg base CX0 6 fLV _ ["many", "roads"] (spPick fun d => decide (d = 1)) := ok_leaves FLV FC FN GC B
  have GWB : FnOk l.prog w K mg base CX0 2 fWB _ ["near", "a", "b"] spWayB := ok_wayb FWB FS B
  have GSW : FnOk l.prog w K mg base CX0 7 fSW _ ["many", "roads"] (spSweeps tTSW (lamQ "sweeps")) := ok_sw FSW FC FN FLV FWB GC GLV GWB TBSW B
  exact ok_law FX FT FCY FSW FGO (ok_tree FT FU FA FE (ok_numbers FU FM FA B) B) GSW (ok_gone FGO FY FON B) tbSW B
end Tw
open PySem PySem.W PyProof.Rows
set_option maxRecDepth 100000 in
set_option maxHeartbeats 0 in
theorem PySem.Challenge.cw_treewells_k72_whole_sweeps_holds : PySem.Challenge.rw_treewells_k72_whole_sweeps.Holds := by
  w_on; o_law
  refine PySem.W.holds_open (q := KH.kView) (loose := []) (N := 2198)
    (XP := PySem.W.XL KH.kView []) (Xt := (fun s => PySem.W.xlAt KH.kView [] s &&
    PySem.W.recOk (PySem.W.RowW.records (PySem.W.OpenRow.toRowW PySem.Challenge.rw_treewells_k72_whole_sweeps.row)) s))
    (Yf := (PySem.W.kHook KH.kHeap KH.kAddrs KH.kAddrs_eq).obs) (Ya := (PySem.W.kHook KH.kHeap KH.kAddrs KH.kAddrs_eq).val) (YP := (PySem.W.kHook KH.kHeap KH.kAddrs KH.kAddrs_eq).says)
    KH.kLeft (PySem.W.Hook.of _) (PySem.W.Hook.keeps _)
    (fun s e => PySem.W.xl_of s (Bool.and_eq_true_iff.mp e).1)
    PySem.W.XL.keeps (by rfl) (by rfl) (by rfl)
    (fun s e => PySem.W.recFacts_of (Bool.and_eq_true_iff.mp e).2)
    (by rfl) (by first | assumption | decide +kernel)
    (by decide +kernel) ⟨rfl, rfl, rfl, rfl, rfl, by decide +kernel⟩ ?hw ?hc
  (case hw => w_witness2)
  k_fill
  refine L2.walk_bitsT (l := PySem.Challenge.rw_treewells_k72_whole_sweeps) (n := 63) (k := 8) (x := "_law_script") (names := (["sweeps"] : List Str)) (sp := Tw.spLawT (["sweeps"] : List Str)) rfl (by decide) rfl ⟨rfl, by decide, by decide⟩ (fun w h Y => PySem.W.kIn_of Y) ?T ?R ?F ?S
  case S => exact fun K H a ns hl hb tb hS => ⟨a, ns, rfl, hS, hb, hl, tb, fun _ => rfl⟩
  case T => intro w; first | kernel_rfl | rfl | decide +kernel
  case R => exact fun n hn => by (simp only [List.mem_cons, List.not_mem_nil, or_false] at hn; first | (subst hn; first | kernel_rfl | rfl) | (rcases hn with rfl <;> first | kernel_rfl | rfl))
  case F =>
    intro w mg fa h KX G hCd hmg
    refine' Tw.all_mk KX G hmg hCd ?aW ?lW ?cW ?kW ?aP ?lP ?cP ?kP ?aRD ?lRD ?cRD ?kRD ?aI ?lI ?cI ?kI ?aC ?lC ?cC ?kC ?aN ?lN ?cN ?kN ?aS ?lS ?cS ?kS ?aWB ?lWB ?cWB ?kWB ?aLV ?lLV ?cLV ?kLV ?aSW ?lSW ?cSW ?kSW ?aY ?lY ?cY ?kY ?aA ?lA ?cA ?kA ?aM ?lM ?cM ?kM ?aE ?lE ?cE ?kE ?aU ?lU ?cU ?kU ?aT ?lT ?cT ?kT ?aCY ?lCY ?cCY ?kCY ?aON ?lON ?cON ?kON ?aGO ?lGO ?cGO ?kGO ?aX ?lX ?cX ?kX ?tbs ?zisinstance ?zint ?zbool ?zlist ?zlen ?zall ?zsum ?zrange ?zmax ?zmin ?zset ?zsorted ?zzip ?zany ?zdict ?zreversed ?ztuple ?zM ?ii ?ib ?ll ?bb ?tt
    (case aW => k_is)
    (case lW => k_is)
    (case cW => k_is)
    (case kW => k_is)
    (case aP => k_is)
    (case lP => k_is)
    (case cP => k_is)
    (case kP => k_is)
    (case aRD => k_is)
    (case lRD => k_is)
    (case cRD => k_is)
    (case kRD => k_is)
    (case aI => k_is)
    (case lI => k_is)
    (case cI => k_is)
    (case kI => k_is)
    (case aC => k_is)
    (case lC => k_is)
    (case cC => k_is)
    (case kC => k_is)
    (case aN => k_is)
    (case lN => k_is)
    (case cN => k_is)
    (case kN => k_is)
    (case aS => k_is)
    (case lS => k_is)
    (case cS => k_is)
    (case kS => k_is)
    (case aWB => k_is)
    (case lWB => k_is)
    (case cWB => k_is)
    (case kWB => k_is)
    (case aLV => k_is)
    (case lLV => k_is)
    (case cLV => k_is)
    (case kLV => k_is)
    (case aSW => k_is)
    (case lSW => k_is)
    (case cSW => k_is)
    (case kSW => k_is)
    (case aY => k_is)
    (case lY => k_is)
    (case cY => k_is)
    (case kY => k_is)
    (case aA => k_is)
    (case lA => k_is)
    (case cA => k_is)
    (case kA => k_is)
    (case aM => k_is)
    (case lM => k_is)
    (case cM => k_is)
    (case kM => k_is)
    (case aE => k_is)
    (case lE => k_is)
    (case cE => k_is)
    (case kE => k_is)
    (case aU => k_is)
    (case lU => k_is)
    (case cU => k_is)
    (case kU => k_is)
    (case aT => k_is)
    (case lT => k_is)
    (case cT => k_is)
    (case kT => k_is)
    (case aCY => k_is)
    (case lCY => k_is)
    (case cCY => k_is)
    (case kCY => k_is)
    (case aON => k_is)
    (case lON => k_is)
    (case cON => k_is)
    (case kON => k_is)
    (case aGO => k_is)
    (case lGO => k_is)
    (case cGO => k_is)
    (case kGO => k_is)
    (case aX => k_is)
    (case lX => k_is)
    (case cX => k_is)
    (case kX => k_is)
    (case tbs => first | kernel_rfl | rfl | decide +kernel)
    (case zisinstance => k_is)
    (case zint => k_is)
    (case zbool => k_is)
    (case zlist => k_is)
    (case zlen => k_is)
    (case zall => k_is)
    (case zsum => k_is)
    (case zrange => k_is)
    (case zmax => k_is)
    (case zmin => k_is)
    (case zset => k_is)
    (case zsorted => k_is)
    (case zzip => k_is)
    (case zany => k_is)
    (case zdict => k_is)
    (case zreversed => k_is)
    (case ztuple => k_is)
    (case zM => k_is)
    (case ii => first | k_is | kernel_rfl | rfl | decide +kernel)
    (case ib => first | k_is | kernel_rfl | rfl | decide +kernel)
    (case ll => first | k_is | kernel_rfl | rfl | decide +kernel)
    (case bb => first | k_is | kernel_rfl | rfl | decide +kernel)
    (case tt => first | k_is | kernel_rfl | rfl | decide +kernel)
