import PyProof.Rows.All
import Wide.All
import OpenK.AllK
import Wide.FinOn
import Lean
import PyProof.EqAt
import PyProof.EqKinds
import PyProof.TupleCall
import PyProof.StationsW
import PyProof.RulesAs
import PyProof.ExcClass2
import PyProof.ExcInit
import PyProof.InstStore
import PyProof.ExcBaseAll.ValueError
import PyProof.ExcArgs
import PyProof.IsiBase
import PyProof.NsDelKeeps
import PyProof.CompFree
import PyProof.CompUse
import KE.LcSums
import PyProof.Rows.SortWalk
import PyProof.DictWalks
import PyProof.Rows.MinMaxN
import PyProof.Rows.DictUnroll
import PyProof.StrBlockI
import PyProof.NeKinds
import PyProof.AutoListH
import KE.KItemsList
import KE.RegMulBits
import KE.KDictOf
import PyProof.AttrMissHeap
import KE.KDictList
import KE.KRevIter
import KE.KSortTup
import PyProof.Rows.EnumRows
import PyProof.EnumFor
import PyProof.ConsumeWalk
import PyProof.TupleOfSeq
import PyProof.Draws
import PyProof.FactsAll.set
import PyProof.DictItems
import KE.KPairComp
import PyProof.DictValues
import PyProof.ZipIter
import PyProof.Rows.ZipGen
import PyProof.CollectWalk
import PySem.Challenge.RW_groupbooks_k45_whole_paper_or_mix
set_option Elab.async false
set_option linter.all false
set_option maxRecDepth 100000
set_option maxHeartbeats 4000000
section
open PySem PySem.W PyProof.Rows
set_option maxHeartbeats 0
noncomputable def K45.runTop (p : Program) (w : World) (m : Nat) : Nat → SharedT → Thread → Option SharedT
 | 0, _, _ => none
 | k + 1, s, t => match through t with
   | true => some s
   | false => match PySem.W.Fast.tw6613529449190102663 m (some (.ref 6)) t with
     | false => none
     | true => match PySem.W.Fast.tw10156331382660048174 (PySem.W.Fast.tw11892475500146522536 treeTable) p w s t with
       | some x => K45.runTop p w m k x.1 x.2
       | none => none
theorem K45.runTop_eq (p : Program) (w : World) (m : Nat) : ∀ (k : Nat) (s s' : SharedT) (t : Thread),
   K45.runTop p w m k s t = some s' → topRun treeTable p w m (some (.ref 6)) k s.abs t = some s'.abs
 | 0, _, _, _, h => by cases h
 | k + 1, s, s', t, h => by
   unfold K45.runTop at h
   unfold topRun
   cases hT : through t with
   | true => rw [hT] at h; cases h; rfl
   | false =>
     rw [hT] at h
     dsimp only at h ⊢
     rw [← PySem.W.Fast.te6613529449190102663] at h
     cases hk : stepOk m (some (.ref 6)) t with
     | false => rw [hk] at h; exact absurd h (by simp)
     | true =>
       rw [hk] at h
       dsimp only at h ⊢
       rw [← PySem.W.Fast.te10156331382660048174, ← PySem.W.Fast.te11892475500146522536] at h
       cases hs : stepT (denote treeTable) p w s t with
       | none => rw [hs] at h; exact absurd h (by simp)
       | some x =>
         rw [hs] at h
         rw [stepT_spec (s' := x.1) (t' := x.2) hs]
         exact K45.runTop_eq p w m k _ _ _ h
noncomputable def K45.bootT (P : Params) : BT := ((boot_heap P).objs.toList.foldl (fun a o => (a.1.ins a.2 o, a.2 + 1)) (BT.nil, 0)).1
theorem K45.boot_is (P : Params) : absHeap (K45.bootT P) 11 (boot_heap P).life = boot_heap P := by kernel_rfl
theorem K45.boot_has (P : Params) : ((boot_heap P).isNs mainGlobals, (boot_heap P).objs.size, (boot_heap P).nsMap mainGlobals "__annotations__") = (true, 11, some (.ref 6)) := by kernel_rfl
theorem K45.leftAtOnce {p q : Program} {lo : List Str} {A : Shared → Bool} {β : Type} {B : Shared → β} {D : World → β} {N : Nat} {g : Bool}
   (e : opening p = plainProg p.main.scope.names) (f : ∀ s, fenceModules? p s = some s) (hN : Nat.ble 600 N = true)
   (h : ∀ (w : World) (os : OsState), (K45.runTop p w 11 N ⟨K45.bootT w.params, 11, (boot_heap w.params).life, Array.mk [], boot_drawn, boot_toks, os⟩ (topStub p)).map
     (fun s => (staticsOk (importedModules p.main.body) (boot_heap w.params) s.abs.heap && namesBound p s.abs.heap && gensDone s.abs && laidKept (boot_heap w.params) s.abs.heap,
       openSeen q lo (importedModules p.main.body) A g s.abs, B s.abs)) = some (true, openGood q lo, D w)) : LeftO p q lo A B D N g := by
 intro w
 obtain ⟨⟨hh, gs, d, k, os⟩, e1, e2⟩ := Option.map_eq_some_iff.mp (boot_open e hN f w)
 obtain ⟨rfl, rfl, rfl, rfl⟩ : hh = boot_heap w.params ∧ gs = Array.mk [] ∧ d = boot_drawn ∧ k = boot_toks := by simpa using e2
 obtain ⟨s, h1, h2⟩ := Option.map_eq_some_iff.mp (h w os)
 have h3 := K45.runTop_eq _ _ _ _ _ _ _ h1
 have h4 := K45.boot_has w.params
 simp only [Prod.mk.injEq] at h2 h4
 unfold openEnds
 rw [e1]
 change Option.map _ (topFrom treeTable p w N _) = _
 unfold topFrom
 dsimp only
 rw [h4.1, h4.2.1, h4.2.2]
 have h5 : SharedT.abs ⟨K45.bootT w.params, 11, (boot_heap w.params).life, Array.mk [], boot_drawn, boot_toks, os⟩ = ⟨boot_heap w.params, Array.mk [], boot_drawn, boot_toks, os⟩ := by
   unfold SharedT.abs
   rw [K45.boot_is]
 rw [h5] at h3
 show ((topRun treeTable p w 11 (some (.ref 6)) N _ _).bind _).map _ = _
 rw [h3]
 dsimp only [Option.bind]
 rw [h2.1]
 show some (_, _) = _
 rw [h2.2.1, h2.2.2]
def K45.sieve {α : Type} : List α → List Bool → List α
 | a :: l, b :: m => bif b then a :: sieve l m else sieve l m
 | _, _ => []
def K45.headView : Program := { PySem.Challenge.pw_groupbooks_k45_whole_paper_or_mix with main := { PySem.Challenge.pw_groupbooks_k45_whole_paper_or_mix.main with
 body := K45.sieve PySem.Challenge.pw_groupbooks_k45_whole_paper_or_mix.main.body [false, false, false, false, false, false, false, false, false, false, false, false, false, false, false, false, false, false, false, false, false, false, false, false, false, false, false, false, false, true] } }
set_option hygiene false in
local macro_rules | `(tactic| o_head $H) => `(tactic|
 refine holds_open (q := K45.headView) (loose := [PySem.Str.ofString "BooksError", PySem.Str.ofString "NoNumber", PySem.Str.ofString "Ringed", PySem.Str.ofString "Singular", PySem.Str.ofString "divisor", PySem.Str.ofString "only_at", PySem.Str.ofString "widened", PySem.Str.ofString "lean", PySem.Str.ofString "cleared", PySem.Str.ofString "first_with", PySem.Str.ofString "turned", PySem.Str.ofString "pair_of", PySem.Str.ofString "paper_of", PySem.Str.ofString "_law_cell_at", PySem.Str.ofString "_law_whole", PySem.Str.ofString "_law_mix", PySem.Str.ofString "_law_names", PySem.Str.ofString "_law_divisor", PySem.Str.ofString "_law_mixed", PySem.Str.ofString "_law_entry", PySem.Str.ofString "_law_square", PySem.Str.ofString "_law_paper_told", PySem.Str.ofString "_law_mix_told", PySem.Str.ofString "_law_mix_again", PySem.Str.ofString "_law_by_base"]) (N := 20000)
   (Yf := Hook.obs $H) (Ya := Hook.val $H) (YP := Hook.says $H)
   (XP := XL K45.headView []) (Xt := fun s => xlAt K45.headView [] s && recOk (RowW.records (OpenRow.toRowW (OpenLaw.row PySem.Challenge.rw_groupbooks_k45_whole_paper_or_mix))) s)
   (K45.leftAtOnce (by kernel_rfl) (fun s => by kernel_rfl) rfl (fun w os => by kernel_rfl)) (Hook.of $H) (Hook.keeps $H)
   (fun s e => xl_of s (Bool.and_eq_true_iff.mp e).1)
   XL.keeps (by rfl) (by rfl) (by rfl)
   (fun s e => recFacts_of (Bool.and_eq_true_iff.mp e).2) (by rfl) (by assumption) (by decide +kernel)
   ⟨rfl, rfl, rfl, rfl, rfl, by decide +kernel⟩ ?hw ?hc)
open_top K45.headTop for PySem.Challenge.rw_groupbooks_k45_whole_paper_or_mix
end
namespace L2
open PySem PySem.Spec PyProof.Rows
abbrev Key := Sum Int Str
def keyIs : Key → Value → Bool
 | .inl k, v => Value.isInt k v
 | .inr x, v => Value.isStrOf x v
def keyH (w : World) : Key → Int
 | .inl k => hashInt k
 | .inr x => hashStr w x
theorem keyIs_shape : ∀ {k : Key} {v : Value}, keyIs k v = true → (∃ i t, k = Sum.inl i ∧ v = Value.int i t) ∨ (∃ x t, k = Sum.inr x ∧ v = Value.str x t)
 | .inl i, v, h => by
   obtain ⟨t, e⟩ := Value.isInt_shape (k := i) (v := v) h
   exact .inl ⟨i, t, rfl, e⟩
 | .inr x, v, h => by
   obtain ⟨t, e⟩ := Value.isStrOf_shape (x := x) (v := v) h
   exact .inr ⟨x, t, rfl, e⟩
theorem key_ll (a b : Int) : decide ((Sum.inl a : Key) = Sum.inl b) = (a == b) := by
 by_cases e : a = b
 · subst e; simp
 · have h : ¬ (Sum.inl a : Key) = Sum.inl b := fun q => e (Sum.inl.inj q)
   rw [decide_eq_false h]
   exact (beq_eq_false_iff_ne.mpr e).symm
theorem key_rr (a b : Str) : decide ((Sum.inr a : Key) = Sum.inr b) = decide (a = b) := by
 by_cases e : a = b
 · subst e; simp
 · have h : ¬ (Sum.inr a : Key) = Sum.inr b := fun q => e (Sum.inr.inj q)
   rw [decide_eq_false h, decide_eq_false e]
theorem key_lr (a : Int) (b : Str) : decide ((Sum.inl a : Key) = Sum.inr b) = false := decide_eq_false (fun q => nomatch q)
theorem key_rl (a : Str) (b : Int) : decide ((Sum.inr a : Key) = Sum.inl b) = false := decide_eq_false (fun q => nomatch q)
def mixKind (prog : Program) (w : World) : PySem.KeyKind prog w Key where
 is := keyIs
 hash := keyH w
 inj := fun v a b ha hb => by
   rcases keyIs_shape ha with ⟨i, t, rfl, rfl⟩ | ⟨x, t, rfl, rfl⟩
   · rcases keyIs_shape hb with ⟨j, u, rfl, e⟩ | ⟨y, u, rfl, e⟩
     · injection e with e1 _; rw [e1]
     · exact nomatch e
   · rcases keyIs_shape hb with ⟨j, u, rfl, e⟩ | ⟨y, u, rfl, e⟩
     · exact nomatch e
     · injection e with e1 _; rw [e1]
 byValue := fun k v h => by
   rcases keyIs_shape h with ⟨i, t, rfl, rfl⟩ | ⟨x, t, rfl, rfl⟩ <;> rfl
 pyHash := fun hv h => by
   rcases keyIs_shape hv with ⟨i, t, rfl, rfl⟩ | ⟨x, t, rfl, rfl⟩
   · exact wpAny_pyHash_int h
   · exact wpAny_pyHash_str h
 eqBool := fun hu hv h => by
   rcases keyIs_shape hu with ⟨i, t, rfl, rfl⟩ | ⟨x, t, rfl, rfl⟩
   · rcases keyIs_shape hv with ⟨j, u, rfl, rfl⟩ | ⟨y, u, rfl, rfl⟩
     · rw [key_ll] at h; exact wpAny_eqBool_int h
     · rw [key_lr] at h; exact SeqAt.EqAt.int_str i t y u _ _ _ _ h
   · rcases keyIs_shape hv with ⟨j, u, rfl, rfl⟩ | ⟨y, u, rfl, rfl⟩
     · rw [key_rl] at h; exact SeqAt.EqAt.str_int x t j u _ _ _ _ h
     · rw [key_rr] at h; exact wpAny_eqBool_str h
 «strs» := fun k x t v h => by
   rcases keyIs_shape h with ⟨i, u, rfl, e⟩ | ⟨y, u, rfl, e⟩
   · exact nomatch e
   · injection e with e1 _
     subst e1
     cases v <;> rfl
end L2
namespace L2
open PySem PySem.Spec PyProof.Rows
inductive V where
 | non | bl (b : Bool) | int (i : Int) | str (x : Str) | byt (b : Array UInt8) | flt (b : UInt64) | ref (a : Addr) | ty (n : String)
 deriving DecidableEq
def RelV : V → Value → Prop
 | .non, u => u = Value.none
 | .bl b, u => u = Value.bool b
 | .int i, u => ∃ t, u = Value.int i t
 | .str x, u => ∃ t, u = Value.str x t
 | .byt b, u => ∃ t, u = Value.bytes b t
 | .flt b, u => ∃ t, u = Value.float b t
 | .ref a, u => u = Value.ref a
 | .ty n, u => u = Value.type n
abbrev Vals : List V → List Value → Prop := Paired RelV
theorem Vals.length {xs : List V} {us : List Value} (r : Vals xs us) : xs.length = us.length := Paired.length r
theorem Vals.get : ∀ {xs : List V} {us : List Value} {i : Nat} {x : V}, Vals xs us → xs[i]? = some x → ∃ u, us[i]? = some u ∧ RelV x u
 | _, _, _, _, .nil, e => by simp at e
 | _, _, 0, _, .cons r _, e => by simp at e; subst e; exact ⟨_, rfl, r⟩
 | _, _, i + 1, x, .cons _ t, e => by
   obtain ⟨u, h1, h2⟩ := Vals.get (i := i) (x := x) t (by simpa using e)
   exact ⟨u, by simpa using h1, h2⟩
theorem Vals.set {x : V} {u : Value} (r : RelV x u) : ∀ {xs : List V} {us : List Value} (i : Nat), Vals xs us → Vals (xs.set i x) (us.set i u)
 | _, _, _, .nil => .nil
 | _, _, 0, .cons _ t => .cons r t
 | _, _, i + 1, .cons q t => .cons q (Vals.set r i t)
theorem Vals.append : ∀ {xs ys : List V} {us ws : List Value}, Vals xs us → Vals ys ws → Vals (xs ++ ys) (us ++ ws)
 | _, _, _, _, .nil, s => s
 | _, _, _, _, .cons r t, s => .cons r (Vals.append t s)
theorem Vals.take : ∀ {xs : List V} {us : List Value} (n : Nat), Vals xs us → Vals (xs.take n) (us.take n)
 | _, _, 0, _ => .nil
 | _, _, _ + 1, .nil => .nil
 | _, _, n + 1, .cons r t => .cons r (Vals.take n t)
theorem Vals.drop : ∀ {xs : List V} {us : List Value} (n : Nat), Vals xs us → Vals (xs.drop n) (us.drop n)
 | _, _, 0, r => r
 | _, _, _ + 1, .nil => .nil
 | _, _, n + 1, .cons _ t => Vals.drop n t
theorem Vals.none_of : ∀ {xs : List V} {us : List Value} {i : Nat}, Vals xs us → xs[i]? = none → us[i]? = none := fun {xs us i} r e => by
 have h1 := r.length
 have h2 : xs.length ≤ i := List.getElem?_eq_none_iff.mp e
 exact List.getElem?_eq_none_iff.mpr (by omega)
def RelO : Option V → Option Value → Prop
 | some v, some u => RelV v u
 | none, none => True
 | _, _ => False
def KV {κ : Type} : List (κ × V) → List (κ × Value) → Prop := Paired fun (p : κ × V) (q : κ × Value) => p.1 = q.1 ∧ RelV p.2 q.2
def kV : Key → V
 | .inl i => .int i
 | .inr x => .str x
inductive HO where
 /-- a list -/
 | lst (xs : List V)
 /-- a tuple (never changes) -/
 | tup (xs : List V)
 /-- a dict whose keys are ints and texts; one whose keys are tuples of ints and texts (the empty one is both) -/
 | dK (kvs : List (Key × V)) | dT (kvs : List (List Key × V))
 /-- a set of ints: its members, its size -/
 | set (S : Int → Bool) (n : Nat)
 /-- an instance of the class at C, its dict at dx, its attributes -/
 | ins (C dx : Addr) (fs : List (Str × V))
 /-- the dict of the instance at x -/
 | own (x : Addr)
 /-- the dict of an exception -/
 | xd (fs : List (Str × V))
 /-- a bound method, f of x -/
 | met (f x : Addr)
 /-- a range object lo, lo + 1, .. below hi -/
 | rng (lo hi : Int)
 /-- a thing that is known to the object (the script; a dict while a loop walks it): read, never written while it is so -/
 | frz (o : Obj) (u : HO)
 /-- a code object's table -/
 | tbl (ps : Array Value)
 /-- any other thing, by what is true of its one object (a def of one's own: SetO a S n := HO.ext fun h => ..) -/
 | ext (φ : Heap → Prop)
abbrev Hp := Addr → Option HO
def upd (H : Hp) (a : Addr) (o : HO) : Hp := fun b => if b = a then some o else H b
theorem upd_same {H : Hp} {a : Addr} {o : HO} : upd H a o a = some o := by unfold upd; rw [if_pos rfl]
theorem upd_ne {H : Hp} {a b : Addr} {o : HO} (h : b ≠ a) : upd H a o b = H b := by unfold upd; rw [if_neg h]
theorem ne_of_none {H : Hp} {a b : Addr} {o : HO} (h : H a = some o) (h' : H b = none) : a ≠ b := by
 intro e; subst e; rw [h] at h'; cases h'
section
variable (P : Program) (w : World)
def ObjOk (H : Hp) (h : Heap) (a : Addr) : HO → Prop
 | .lst xs => xs.length ≤ sizeLine ∧ ∃ (its : List Value) (n : Nat), Vals xs its ∧ h.get? a = some { cls := .type "list", data := .seq its.toArray n }
 | .tup xs => xs.length ≤ sizeLine ∧ ∃ its : List Value, Vals xs its ∧ IsTup h a its.toArray
 | .dK kvs => kvs.length ≤ sizeLine ∧ (a == sysModules) = false ∧ ∃ vs, KV kvs vs ∧ h.DictOf (mixKind P w) a vs
 | .dT kvs => kvs.length ≤ sizeLine ∧ (a == sysModules) = false ∧ ∃ xs : List (List Key × Addr × Value),
     Paired (fun (p : List Key × V) (q : List Key × Addr × Value) => p.1 = q.1 ∧ H q.2.1 = some (.tup (p.1.map kV)) ∧ RelV p.2 q.2.2) kvs xs ∧
     ∃ o es ep, h.get? a = some o ∧ o.ExactDict ∧ o.data = .dict es ep ∧ es.toList = xs.map (entryOfKey (tupleKind (mixKind P w))) ∧ (xs.map (·.1)).Nodup
 | .set S n => h.SetOf (intKind P w) a S n
 | .ins C dx fs => H dx = some (.own a) ∧ fs.length ≤ 1000 ∧ dx ≠ a ∧ h.get? a = some (PySem.W.instObj C dx) ∧
     ∃ mA, h.Ns1 dx mA ∧ (∀ f, RelO (fs.lookup f) (mA f)) ∧ PySem.Within mA (fs.map (·.1))
 | .own _ => ∃ o, h.get? a = some o
 | .xd fs => ∃ mA, h.Ns1 a mA ∧ ∀ f, RelO (fs.lookup f) (mA f)
 | .rng lo hi => ∃ t u v, h.get? a = some { cls := .type "range", data := .fields #[.int lo t, .int hi u, .int 1 v] }
 | .frz o u => h.get? a = some o ∧ ObjOk H h a u
 | .tbl ps => h.get? a = some { cls := .none, data := .fields ps }
 | .met f x => h.get? a = some (PySem.W.methodObj (.ref f) (.ref x))
 | .ext φ => φ h ∧ (∃ o, h.get? a = some o) ∧ ∀ h1 h2 : Heap, φ h1 → (∀ o, h1.get? a = some o → h2.get? a = some o) → φ h2
def HOk (H : Hp) (h : Heap) : Prop := ∀ a o, H a = some o → ObjOk P w H h a o
end
section
variable {P : Program} {w : World} {H H' : Hp} {h h' : Heap} {a : Addr} {o : HO}
theorem ObjOk.lt (x : ObjOk P w H h a o) : a < h.objs.size := by
 cases o with
 | lst xs => obtain ⟨_, _, _, _, e⟩ := x; exact Heap.lt_size e
 | tup xs => obtain ⟨_, _, _, p⟩ := x; exact p.lt
 | dK kvs => obtain ⟨_, _, _, _, o, _, _, e, _⟩ := x; exact Heap.lt_size e
 | dT kvs => obtain ⟨_, _, _, _, o, _, _, e, _⟩ := x; exact Heap.lt_size e
 | set S n => obtain ⟨o, _, _, _, e, _⟩ := x; exact Heap.lt_size e
 | ins C dx fs => obtain ⟨_, _, _, e, _⟩ := x; exact Heap.lt_size e
 | own y => obtain ⟨_, e⟩ := x; exact Heap.lt_size e
 | xd fs => obtain ⟨_, ⟨_, _, _, e, _⟩, _⟩ := x; exact Heap.lt_size e
 | rng lo hi => obtain ⟨_, _, _, e⟩ := x; exact Heap.lt_size e
 | frz ob u => obtain ⟨e, _⟩ := x; exact Heap.lt_size e
 | tbl ps => exact Heap.lt_size (show h.get? a = some _ from x)
 | met f y => exact Heap.lt_size (show h.get? a = some _ from x)
 | ext φ => obtain ⟨_, ⟨_, e⟩, _⟩ := x; exact Heap.lt_size e
theorem Paired.mapP {α β : Type} {F G : α → β → Prop} : ∀ {l₁ : List α} {l₂ : List β}, Paired F l₁ l₂ → (∀ a b, F a b → G a b) → Paired G l₁ l₂
 | _, _, .nil, _ => .nil
 | _, _, .cons r t, f => .cons (f _ _ r) (Paired.mapP t f)
theorem ObjOk.stay (x : ObjOk P w H h a o) (k : ∀ b u, (b = a ∨ H b = some (.own a)) → h.get? b = some u → h'.get? b = some u)
   (ho : ∀ b, H b = some (.own a) → H' b = some (.own a)) (ht : ∀ b xs, H b = some (.tup xs) → H' b = some (.tup xs)) : ObjOk P w H' h' a o := by
 induction o with
 | lst xs => obtain ⟨z, its, n, r, e⟩ := x; exact ⟨z, its, n, r, k _ _ (.inl rfl) e⟩
 | tup xs => obtain ⟨z, its, r, ob, e, c⟩ := x; exact ⟨z, its, r, ob, k _ _ (.inl rfl) e, c⟩
 | dK kvs => obtain ⟨z, y, vs, r, ob, es, ep, e, c⟩ := x; exact ⟨z, y, vs, r, ob, es, ep, k _ _ (.inl rfl) e, c⟩
 | dT kvs =>
   obtain ⟨z, y, xs, r, ob, es, ep, e, c⟩ := x
   exact ⟨z, y, xs, Paired.mapP r fun p q z => ⟨z.1, ht _ _ z.2.1, z.2.2⟩, ob, es, ep, k _ _ (.inl rfl) e, c⟩
 | set S n => obtain ⟨ob, es, ep, t, e, c⟩ := x; exact ⟨ob, es, ep, t, k _ _ (.inl rfl) e, c⟩
 | ins C dx fs =>
   obtain ⟨d, z, ne, e, mA, ⟨od, es, ep, e2, c⟩, r⟩ := x
   exact ⟨ho _ d, z, ne, k _ _ (.inl rfl) e, mA, ⟨od, es, ep, k _ _ (.inr d) e2, c⟩, r⟩
 | own y => obtain ⟨ob, e⟩ := x; exact ⟨ob, k _ _ (.inl rfl) e⟩
 | xd fs => obtain ⟨mA, ⟨od, es, ep, e, c⟩, r⟩ := x; exact ⟨mA, ⟨od, es, ep, k _ _ (.inl rfl) e, c⟩, r⟩
 | rng lo hi => obtain ⟨t, u, v, e⟩ := x; exact ⟨t, u, v, k _ _ (.inl rfl) e⟩
 | frz ob u ih => obtain ⟨e, q⟩ := x; exact ⟨k _ _ (.inl rfl) e, ih q⟩
 | tbl ps =>
   have e : h.get? a = some { cls := .none, data := .fields ps } := x
   show h'.get? a = some { cls := .none, data := .fields ps }
   exact k a _ (.inl rfl) e
 | met f y =>
   have e : h.get? a = some (PySem.W.methodObj (.ref f) (.ref y)) := x
   show h'.get? a = some (PySem.W.methodObj (.ref f) (.ref y))
   exact k a _ (.inl rfl) e
 | ext φ => obtain ⟨p, ⟨o, e⟩, st⟩ := x; exact ⟨st _ _ p fun o q => k _ _ (.inl rfl) q, ⟨o, k _ _ (.inl rfl) e⟩, st⟩
theorem HOk.lt (x : HOk P w H h) (e : H a = some o) : a < h.objs.size := (x a o e).lt
theorem HOk.fresh (x : HOk P w H h) (e : h.objs.size ≤ a) : H a = none := by
 cases q : H a with
 | none => rfl
 | some u => exact absurd (Nat.lt_of_lt_of_le (x.lt q) e) (Nat.lt_irrefl _)
theorem HOk.kept (x : HOk P w H h) (k : ∀ b u, h.get? b = some u → h'.get? b = some u) : HOk P w H h' := fun a o e =>
 (x a o e).stay (fun b u _ q => k b u q) (fun _ q => q) fun _ _ q => q
theorem HOk.laid (x : HOk P w H h) (k : ∀ b u, h.get? b = some u → h'.get? b = some u) (hp : h.objs.size ≤ a) (new : ObjOk P w (upd H a o) h' a o) : HOk P w (upd H a o) h' := fun b u e => by
 have hn := x.fresh hp
 by_cases hb : b = a
 · subst hb; rw [upd_same] at e; cases e; exact new
 · rw [upd_ne hb] at e
   exact (x b u e).stay (fun c v _ q => k c v q) (fun c q => by rw [upd_ne (ne_of_none q hn)]; exact q) fun c xs q => by rw [upd_ne (ne_of_none q hn)]; exact q
end
def Rd (H : Hp) (a : Addr) (u : HO) : Prop := H a = some u ∨ ∃ o, H a = some (.frz o u)
theorem Rd.of {H : Hp} {a : Addr} {u : HO} (h : H a = some u) : Rd H a u := .inl h
theorem Rd.ok {P : Program} {w : World} {H : Hp} {h : Heap} {a : Addr} {u : HO} (r : Rd H a u) (x : HOk P w H h) : ObjOk P w H h a u := by
 rcases r with r | ⟨o, r⟩
 · exact x a u r
 · obtain ⟨_, q⟩ := x a _ r
   exact q
def Mut : Option HO → Prop
 | some (.lst _) => True
 | some (.dK _) => True
 | some (.dT _) => True
 | some (.set _ _) => True
 | some (.ins _ _ _) => True
 | some (.ext _) => True
 | _ => False
section
variable {P : Program} {w : World} {H : Hp} {h h' : Heap} {x e : Addr} {o' : HO}
theorem HOk.write (ok : HOk P w H h) (mu : Mut (H x)) (he : e = x ∨ H e = some (.own x)) (k : ∀ b u, b ≠ e → h.get? b = some u → h'.get? b = some u) (heo : ∃ u, h'.get? e = some u)
   (new : ObjOk P w (upd H x o') h' x o') : HOk P w (upd H x o') h' := fun b u q => by
 have nown : ∀ c y, H c = some (.own y) → c ≠ x := fun c y r z => by subst z; rw [r] at mu; exact mu
 have ntup : ∀ c xs, H c = some (.tup xs) → c ≠ x := fun c xs r z => by subst z; rw [r] at mu; exact mu
 by_cases hb : b = x
 · subst hb; rw [upd_same] at q; cases q; exact new
 · rw [upd_ne hb] at q
   by_cases hbe : b = e
   · have q' : H b = some (.own x) := by
       rcases he with z | z
       · exact absurd (hbe.trans z) hb
       · rw [hbe]; exact z
     rw [q] at q'; cases q'
     obtain ⟨v, hv⟩ := heo
     exact ⟨v, by rw [hbe]; exact hv⟩
   · refine (ok b u q).stay (fun c v hc r => k c v ?_ r) (fun c r => by rw [upd_ne (nown c b r)]; exact r) fun c xs r => by rw [upd_ne (ntup c xs r)]; exact r
     rcases hc with rfl | hc
     · exact hbe
     · rintro rfl
       rcases he with z | z
       · exact nown c b hc z
       · rw [hc] at z; cases z; exact hb rfl
end
structure Un (fs ex : List Addr) (H H' : Hp) (h h' : Heap) : Prop where
 keep : ∀ b o, h.get? b = some o → H b = none → b ∉ fs → b ∉ ex → h'.get? b = some o
 slot : ∀ b o, h.get? b = some o → H b = none → b ∈ fs → b ∉ ex → ∃ sl, h'.get? b = some { o with slots := sl }
 free : ∀ b o, h.get? b = some o → H b = none → b ∉ ex → H' b = none
 there : ∀ b o, h.get? b = some o → b ∉ ex → ∃ o', h'.get? b = some o'
 tups : ∀ b xs, H b = some (.tup xs) → H' b = some (.tup xs)
 frzs : ∀ b o u, H b = some (.frz o u) → H' b = some (.frz o u)
 tbls : ∀ b ps, H b = some (.tbl ps) → ∃ more, H' b = some (.tbl (ps ++ more))
section
variable {fs fs' ex ex' : List Addr} {H H1 H2 : Hp} {h h1 h2 h' : Heap} {a x e : Addr} {o : HO}
theorem Un.any (u : Un fs ex H H1 h h1) {b : Addr} {ob : Obj} (q : h.get? b = some ob) (n : H b = none) (hx : b ∉ ex) : ∃ sl, h1.get? b = some { ob with slots := sl } := by
 by_cases hb : b ∈ fs
 · exact u.slot b ob q n hb hx
 · exact ⟨ob.slots, u.keep b ob q n hb hx⟩
theorem Un.trans (a : Un fs ex H H1 h h1) (b : Un fs ex H1 H2 h1 h2) : Un fs ex H H2 h h2 where
 keep := fun c ob q n hc hx => b.keep c ob (a.keep c ob q n hc hx) (a.free c ob q n hx) hc hx
 slot := fun c ob q n hc hx => by
   obtain ⟨sl, e1⟩ := a.slot c ob q n hc hx
   obtain ⟨sl', e2⟩ := b.slot c _ e1 (a.free c ob q n hx) hc hx
   exact ⟨sl', e2⟩
 free := fun c ob q n hx => by
   obtain ⟨o', e1⟩ := a.there c ob q hx
   exact b.free c o' e1 (a.free c ob q n hx) hx
 there := fun c ob q hx => by
   obtain ⟨o', e1⟩ := a.there c ob q hx
   exact b.there c o' e1 hx
 tups := fun c xs q => b.tups c xs (a.tups c xs q)
 frzs := fun c ob xs q => b.frzs c ob xs (a.frzs c ob xs q)
 tbls := fun c ps q => by
   obtain ⟨m1, e1⟩ := a.tbls c ps q
   obtain ⟨m2, e2⟩ := b.tbls c _ e1
   exact ⟨m1 ++ m2, by rw [e2, Array.append_assoc]⟩
theorem Un.kept (k : ∀ b u, h.get? b = some u → h'.get? b = some u) : Un fs ex H H h h' :=
 ⟨fun b ob q _ _ _ => k b ob q, fun b ob q _ _ _ => ⟨ob.slots, k b ob q⟩, fun _ _ _ n _ => n, fun b ob q _ => ⟨ob, k b ob q⟩, fun _ _ q => q, fun _ _ _ q => q, fun _ ps q => ⟨#[], by rw [q]; simp⟩⟩
theorem Un.refl : Un fs ex H H h h := Un.kept fun _ _ q => q
theorem Un.laid (k : ∀ b u, h.get? b = some u → h'.get? b = some u) (hp : h.objs.size ≤ a) (hn : H a = none) : Un fs ex H (upd H a o) h h' where
 keep := fun b u q _ _ _ => k b u q
 slot := fun b u q _ _ _ => ⟨u.slots, k b u q⟩
 free := fun b u q n _ => by rw [upd_ne (Nat.ne_of_lt (Nat.lt_of_lt_of_le (Heap.lt_size q) hp))]; exact n
 there := fun b u q _ => ⟨u, k b u q⟩
 tups := fun b xs q => by rw [upd_ne (ne_of_none q hn)]; exact q
 frzs := fun b u xs q => by rw [upd_ne (ne_of_none q hn)]; exact q
 tbls := fun b ps q => ⟨#[], by rw [upd_ne (ne_of_none q hn), q]; simp⟩
theorem Un.write (mu : Mut (H x)) (he : e = x ∨ H e = some (.own x)) (k : ∀ b u, b ≠ e → h.get? b = some u → h'.get? b = some u) (heo : ∃ u, h'.get? e = some u) : Un fs ex H (upd H x o) h h' := by
 have hx : ∀ b, H b = none → b ≠ x := fun b n z => by subst z; rw [n] at mu; exact mu
 have hb : ∀ b, H b = none → b ≠ e := fun b n z => by
   subst z
   rcases he with r | r
   · exact hx b n r
   · rw [n] at r; cases r
 have hm : ∀ b u, H b = some u → ¬ Mut (some u) → b ≠ x := fun b u q nm z => by subst z; rw [q] at mu; exact nm mu
 refine ⟨fun b u q n _ _ => k b u (hb b n) q, fun b u q n _ _ => ⟨u.slots, k b u (hb b n) q⟩, fun b u q n _ => by rw [upd_ne (hx b n)]; exact n, fun b u q _ => ?_,
   fun b xs q => by rw [upd_ne (hm b _ q fun z => z)]; exact q, fun b u xs q => by rw [upd_ne (hm b _ q fun z => z)]; exact q, fun b ps q => ⟨#[], by rw [upd_ne (hm b _ q fun z => z), q]; simp⟩⟩
 by_cases hbe : b = e
 · subst hbe; exact heo
 · exact ⟨u, k b u hbe q⟩
theorem Un.mono (u : Un fs ex H H1 h h1) (hs : ∀ b ∈ fs, b ∈ fs') (hx : ∀ b ∈ ex, b ∈ ex') : Un fs' ex' H H1 h h1 :=
 ⟨fun b ob q n hb he => u.keep b ob q n (fun z => hb (hs b z)) fun z => he (hx b z), fun _ _ q n _ he => u.any q n fun z => he (hx _ z), fun b ob q n he => u.free b ob q n fun z => he (hx b z), fun b ob q he => u.there b ob q fun z => he (hx b z), u.tups, u.frzs, u.tbls⟩
end
def trk (h : Heap) (H : Hp) : List Addr := (List.range h.objs.size).filter fun a => (H a).isSome
def hidT (h : Heap) (H : Hp) : Heap := PySem.W.hideAll h (trk h H)
theorem hidT_size (h : Heap) (H : Hp) : (hidT h H).objs.size = h.objs.size := PySem.W.hideAll_size _ _
theorem hidT_get {h : Heap} {H : Hp} {b : Addr} {o : Obj} (e : h.get? b = some o) (n : H b = none) : (hidT h H).get? b = some o :=
 PySem.W.hideAll_get _ e fun hm => by
   have q : (H b).isSome = true := (List.mem_filter.mp hm).2
   rw [n] at q; simp at q
theorem of_hidT {h : Heap} {H : Hp} {b : Addr} {o : Obj} (e : (hidT h H).get? b = some o) : h.get? b = some o ∧ H b = none := by
 have e' : h.get? b = some o := PySem.W.of_hideAll (trk h H) e
 refine ⟨e', ?_⟩
 cases q : H b with
 | none => rfl
 | some x =>
   have hm : b ∈ trk h H := List.mem_filter.mpr ⟨List.mem_range.mpr (Heap.lt_size e'), by simp [q]⟩
   have z : (hidT h H).get? b = none := PySem.W.hideAll_none (trk h H) hm
   rw [z] at e; cases e
def allNews (g h : Heap) (L : Addr) : List (Addr × Obj) := (List.range h.objs.size).filterMap fun a => if a = L ∨ (g.get? a).isSome = true then none else (h.get? a).map fun o => (a, o)
def rest (g h : Heap) (L d : Addr) : List (Addr × Obj) := (allNews g h L).filter fun p => decide (p.1 ≠ d)
end L2
namespace L2
open PySem PySem.Spec PyProof.Rows
structure Mod (K : PySem.W.Frag) (mg : Str → Option Value) (base : Heap) : Prop where
 kin : K.In base
 glob : base.Ns mainGlobals mg
 blt : ∃ mb, base.Ns builtinsNs mb ∧ ∀ x : Str, x ≠ "__name__" → mb x = bootBuiltins x
 nolimit : base.NoLimit
structure Cx where
 prog : Program
 w : World
 K : PySem.W.Frag
 mg : Str → Option Value
 base : Heap
 A : Around
 N : List Str
 s₀ : Shared
 H₀ : Hp
 env : Env
 outer : List Env
 stack : List Env
 ex : List Addr
 fn : Str → Bool
 calm : Bool
 pn : List (Addr × Obj)
 xe : Value → Shared → Prop
def frs (l : List Env) : List Addr := l.filterMap (·.frame)
abbrev Cx.fs (X : Cx) : List Addr := frs X.outer
def Vis (sc : Scope) (x : Str) : Prop := sc.names.lookup x = some .local ∨ sc.names.lookup x = some .cell ∨ sc.names.lookup x = some .free
def Loc (sc : Scope) (x : Str) : Prop := sc.names.lookup x = some .local ∨ sc.names.lookup x = some .cell
def Look (env : Env) (h : Heap) (m : Str → Option Value) (x : Str) (u : Value) : Prop :=
 (env.kindOf x = some .local ∧ m x = some u) ∨ ((env.kindOf x = some .cell ∨ env.kindOf x = some .free) ∧ ∃ c, env.cells.lookup x = some c ∧ h.IsCell c (some u))
structure Cx.Ok (X : Cx) : Prop where
 mod : Mod X.K X.mg X.base
 kind : X.env.scope.kind = .function
 glob : X.env.globals = mainGlobals
 blt : X.env.builtins = builtinsNs
 above : X.s₀.heap.objs.size ≤ X.env.locals
 inj : ∀ x y c, X.env.cells.lookup x = some c → X.env.cells.lookup y = some c → x = y
 has : ∀ x, (X.env.kindOf x = some .cell ∨ X.env.kindOf x = some .free) → ∃ c, X.env.cells.lookup x = some c
 cab : ∀ x c, X.fn x = true → X.env.cells.lookup x = some c → X.s₀.heap.objs.size ≤ c
 hd : X.calm = true → X.A.handled = none
 frames : X.A.frames = some X.stack
 stk : X.stack = X.outer ∨ (X.stack = X.env :: X.outer ∧ X.env.frame = some X.env.locals)
 exf : ∀ b ∈ X.ex, b ≠ X.env.locals ∧ ∀ x c, X.env.cells.lookup x = some c → c ≠ b
 bs : ∀ b o, X.base.get? b = some o → X.s₀.heap.get? b = some o ∧ X.H₀ b = none
 bsz : X.base.objs.size ≤ X.s₀.heap.objs.size
 noex : ∀ b o, X.base.get? b = some o → b ∉ X.ex
 exfs : ∀ b ∈ X.ex, b ∉ X.fs
 funs : X.s₀.heap.FunFrames X.base X.outer
 frf : ∀ b ∈ X.fs, X.H₀ b = none
structure Inv (X : Cx) (pins : List (Addr × Obj)) (σ : List (Option V)) (H : Hp) (s : Shared) : Prop where
 ok : X.Ok
 os : s.os = X.s₀.os
 bare : AllBare s.gens
 base : Un X.fs X.ex X.H₀ H X.s₀.heap s.heap
 loc : ∃ m, s.heap.Ns X.env.locals m ∧ ∀ (i : Nat) (x : Str) (v : V), X.N[i]? = some x → σ[i]? = some (some v) → Vis X.env.scope x → ∃ u, RelV v u ∧ Look X.env s.heap m x u
 cell : ∀ x c, X.env.cells.lookup x = some c → ∃ v, s.heap.IsCell c v
 free : H X.env.locals = none
 freeC : ∀ x c, X.env.cells.lookup x = some c → H c = none
 pin : ∀ p ∈ X.pn ++ pins, s.heap.get? p.1 = some p.2 ∧ H p.1 = none ∧ p.1 ≠ X.env.locals ∧ p.1 ∉ X.fs ∧ ∀ v, p.2.data ≠ .cell v
 hok : HOk X.prog X.w H s.heap
 len : σ.length = X.N.length
section
variable {X : Cx} {pins : List (Addr × Obj)} {σ : List (Option V)} {H H' : Hp} {s : Shared} {h' : Heap}
theorem Cx.Ok.nofr (ok : X.Ok) {b : Addr} {o : Obj} (e : X.base.get? b = some o) : b ∉ X.fs := fun hb => by
 have := (ok.funs.mem hb).1
 rw [e] at this; cases this
theorem Inv.bs (I : Inv X pins σ H s) : ∀ b o, X.base.get? b = some o → s.heap.get? b = some o ∧ H b = none := fun b o e =>
 ⟨I.base.keep b o (I.ok.bs b o e).1 (I.ok.bs b o e).2 (I.ok.nofr e) (I.ok.noex b o e), I.base.free b o (I.ok.bs b o e).1 (I.ok.bs b o e).2 (I.ok.noex b o e)⟩
theorem Inv.bk (I : Inv X pins σ H s) : ∀ b o, X.base.get? b = some o → s.heap.get? b = some o := fun b o e => (I.bs b o e).1
theorem Inv.mod (I : Inv X pins σ H s) : Mod X.K X.mg X.base := I.ok.mod
theorem Inv.kIn (I : Inv X pins σ H s) : X.K.In s.heap := I.ok.mod.kin.keeps I.bk
theorem Inv.nolimit (I : Inv X pins σ H s) : s.heap.NoLimit := I.ok.mod.nolimit.keeps I.bk
theorem Inv.fr (I : Inv X pins σ H s) : ∃ m, Fr X.base X.env.locals s.heap m :=
 let ⟨m, hn, _⟩ := I.loc
 ⟨m, hn, I.bk, Nat.le_trans I.ok.bsz I.ok.above⟩
theorem Inv.lt (I : Inv X pins σ H s) : X.env.locals < s.heap.objs.size := let ⟨_, hn, _⟩ := I.loc; hn.lt
theorem Inv.sz (I : Inv X pins σ H s) : X.s₀.heap.objs.size ≤ s.heap.objs.size := Nat.le_trans I.ok.above (Nat.le_of_lt I.lt)
theorem Inv.nofs (I : Inv X pins σ H s) {a : Addr} (h : s.heap.objs.size ≤ a) : a ∉ X.fs := fun hb => by
 obtain ⟨_, o, ho, _⟩ := I.ok.funs.mem hb
 exact absurd (Nat.lt_of_lt_of_le (Heap.lt_size ho) (Nat.le_trans I.sz h)) (Nat.lt_irrefl _)
theorem Inv.cne (I : Inv X pins σ H s) : ∀ x c, X.env.cells.lookup x = some c → c ≠ X.env.locals := fun x c e z => by
 obtain ⟨v, o, ho, hd⟩ := I.cell x c e
 obtain ⟨m, ⟨o', es, ep, ho', hd', _⟩, _⟩ := I.loc
 rw [z, ho'] at ho; cases ho; rw [hd'] at hd; cases hd
theorem Inv.funs (I : Inv X pins σ H s) : s.heap.FunFrames X.base X.outer := by
 have all : ∀ (l : List Env), (∀ b ∈ frs l, b ∈ X.fs) → X.s₀.heap.FunFrames X.base l → s.heap.FunFrames X.base l := by
   intro l
   induction l with
   | nil => intro _ _; trivial
   | cons env r ih =>
     intro hs hl
     obtain ⟨hk, ⟨L, o, hf, hn, ho, hd⟩, hr⟩ := hl
     have hL : L ∈ X.fs := hs L (by unfold frs; rw [List.filterMap_cons, hf]; exact List.mem_cons_self)
     obtain ⟨sl, e⟩ := I.base.slot L o ho (I.ok.frf L hL) hL fun z => I.ok.exfs L z hL
     exact ⟨hk, ⟨L, _, hf, hn, e, hd⟩, ih (fun b hb => hs b (by unfold frs; rw [List.filterMap_cons, hf]; exact List.mem_cons_of_mem _ hb)) hr⟩
 exact all X.outer (fun _ hb => hb) I.ok.funs
theorem Inv.stack (I : Inv X pins σ H s) : s.heap.FunFrames X.base X.stack := by
 rcases I.ok.stk with e | ⟨e, hf⟩
 · rw [e]; exact I.funs
 · rw [e]
   obtain ⟨m, hn, _⟩ := I.loc
   refine .cons (by rw [I.ok.kind]; decide) hf hn ?_ I.funs
   exact Heap.get?_none_of_le (Nat.le_trans I.ok.bsz I.ok.above)
theorem Inv.stkSub (I : Inv X pins σ H s) : ∀ b ∈ frs X.stack, b ∈ X.env.locals :: X.fs := fun b hb => by
 rcases I.ok.stk with e | ⟨e, hf⟩
 · rw [e] at hb; exact List.mem_cons_of_mem _ hb
 · rw [e] at hb
   unfold frs at hb
   rw [List.filterMap_cons, hf] at hb
   exact hb
theorem Inv.stkFree (I : Inv X pins σ H s) : ∀ b ∈ frs X.stack, H b = none := fun b hb => by
 rcases List.mem_cons.mp (I.stkSub b hb) with e | hb
 · rw [e]; exact I.free
 · obtain ⟨_, o, ho, _⟩ := I.ok.funs.mem hb
   exact I.base.free b o ho (I.ok.frf b hb) fun z => I.ok.exfs b z hb
theorem Inv.step {g' : Array GenState} {t' : Nat} {d' : Drawn} {ch : List Addr} (I : Inv X pins σ H s)
   (hch : ∀ b ∈ ch, (b ∈ X.ex ∨ X.s₀.heap.objs.size ≤ b) ∧ b ≠ X.env.locals ∧ (∀ x c, X.env.cells.lookup x = some c → c ≠ b) ∧ ∀ p ∈ X.pn ++ pins, p.1 ≠ b)
   (keep : ∀ b o, b ≠ X.env.locals → b ∉ X.fs → b ∉ ch → s.heap.get? b = some o → H b = none → h'.get? b = some o)
   (slot : ∀ b o, b ≠ X.env.locals → b ∈ X.fs → b ∉ ch → s.heap.get? b = some o → H b = none → ∃ sl, h'.get? b = some { o with slots := sl }) (free : ∀ b o, b ∉ ch → s.heap.get? b = some o → H b = none → H' b = none)
   (there : ∀ b o, b ∉ ch → s.heap.get? b = some o → ∃ o', h'.get? b = some o')
   (tups : ∀ b xs, H b = some (.tup xs) → H' b = some (.tup xs)) (frzs : ∀ b o u, H b = some (.frz o u) → H' b = some (.frz o u)) (tbls : ∀ b ps, H b = some (.tbl ps) → ∃ more, H' b = some (.tbl (ps ++ more)))
   (ns : ∀ m, s.heap.Ns X.env.locals m → h'.Ns X.env.locals m) (hok : HOk X.prog X.w H' h') (hg : AllBare g') :
   Inv X pins σ H' { s with heap := h', gens := g', drawn := d', toks := t' } := by
 have neL : ∀ b o, X.s₀.heap.get? b = some o → b ≠ X.env.locals := fun b o e => Nat.ne_of_lt (Nat.lt_of_lt_of_le (Heap.lt_size e) I.ok.above)
 have neC : ∀ b o, X.s₀.heap.get? b = some o → b ∉ X.ex → b ∉ ch := fun b o e hx hb => by
   rcases (hch b hb).1 with z | z
   · exact hx z
   · exact absurd (Nat.lt_of_lt_of_le (Heap.lt_size e) z) (Nat.lt_irrefl _)
 have cellK : ∀ x c, X.env.cells.lookup x = some c → ∀ v, s.heap.IsCell c v → h'.IsCell c v := fun x c e v ⟨o, ho, hd⟩ => by
   have nch : c ∉ ch := fun z => (hch c z).2.2.1 x c e rfl
   by_cases hc : c ∈ X.fs
   · obtain ⟨sl, q⟩ := slot c o (I.cne x c e) hc nch ho (I.freeC x c e)
     exact ⟨_, q, hd⟩
   · exact ⟨o, keep c o (I.cne x c e) hc nch ho (I.freeC x c e), hd⟩
 refine ⟨I.ok, I.os, hg, ⟨fun b o e n hb hx => ?_, fun b o e n hb hx => ?_, fun b o e n hx => ?_, fun b o e hx => ?_, fun b xs e => tups b xs (I.base.tups b xs e), fun b o xs e => frzs b o xs (I.base.frzs b o xs e), fun b ps e => ?_⟩, ?_, fun x c e => ?_, ?_, fun x c e => ?_, fun p hp => ?_, hok, I.len⟩
 · exact keep b o (neL b o e) hb (neC b o e hx) (I.base.keep b o e n hb hx) (I.base.free b o e n hx)
 · obtain ⟨sl, e1⟩ := I.base.slot b o e n hb hx
   obtain ⟨sl', e2⟩ := slot b _ (neL b o e) hb (neC b o e hx) e1 (I.base.free b o e n hx)
   exact ⟨sl', e2⟩
 · obtain ⟨o', e1⟩ := I.base.there b o e hx
   exact free b o' (neC b o e hx) e1 (I.base.free b o e n hx)
 · obtain ⟨o', e1⟩ := I.base.there b o e hx
   exact there b o' (neC b o e hx) e1
 · obtain ⟨m1, e1⟩ := I.base.tbls b ps e
   obtain ⟨m2, e2⟩ := tbls b _ e1
   exact ⟨m1 ++ m2, by rw [e2, Array.append_assoc]⟩
 · obtain ⟨m, hn, hl⟩ := I.loc
   refine ⟨m, ns m hn, fun i x v e1 e2 e3 => ?_⟩
   obtain ⟨u, r, l⟩ := hl i x v e1 e2 e3
   refine ⟨u, r, ?_⟩
   rcases l with l | ⟨k, c, e, z⟩
   · exact .inl l
   · exact .inr ⟨k, c, e, cellK x c e _ z⟩
 · obtain ⟨v, z⟩ := I.cell x c e
   exact ⟨v, cellK x c e v z⟩
 · obtain ⟨m, ⟨o, _, _, ho, _⟩, _⟩ := I.loc
   exact free _ o (fun z => (hch _ z).2.1 rfl) ho I.free
 · obtain ⟨v, o, ho, hd⟩ := I.cell x c e
   exact free c o (fun z => (hch c z).2.2.1 x c e rfl) ho (I.freeC x c e)
 · obtain ⟨e, n, ne, nf, d⟩ := I.pin p hp
   have nch : p.1 ∉ ch := fun z => (hch p.1 z).2.2.2 p hp rfl
   exact ⟨keep p.1 p.2 ne nf nch e n, free p.1 p.2 nch e n, ne, nf, d⟩
theorem Inv.un {t' : Nat} (I : Inv X pins σ H s) (u : Un X.fs [] H H' s.heap h') (hok : HOk X.prog X.w H' h') : Inv X pins σ H' { s with heap := h', toks := t' } := by
 obtain ⟨m, ⟨o, es, ep, ho, r⟩, _⟩ := id I.loc
 obtain ⟨sl, hL⟩ := u.any ho I.free (by simp)
 exact I.step (g' := s.gens) (d' := s.drawn) (ch := []) (fun _ z => nomatch z) (fun b o _ hb _ e n => u.keep b o e n hb (by simp)) (fun b o _ hb _ e n => u.slot b o e n hb (by simp)) (fun b o _ e n => u.free b o e n (by simp)) (fun b o _ e => u.there b o e (by simp)) u.tups u.frzs u.tbls (fun m' hm => by
   obtain ⟨o', es', ep', ho', r'⟩ := hm
   rw [ho] at ho'; cases ho'
   exact ⟨_, es', ep', hL, r'⟩) hok I.bare
theorem Inv.call {g' : Array GenState} {t' : Nat} {d' : Drawn} {ch : List Addr} (I : Inv X pins σ H s) (u : Un (frs X.stack) ch H H' s.heap h') (hok : HOk X.prog X.w H' h') (hg : AllBare g')
   (hch : ∀ b ∈ ch, (b ∈ X.ex ∨ X.s₀.heap.objs.size ≤ b) ∧ b ≠ X.env.locals ∧ (∀ x c, X.env.cells.lookup x = some c → c ≠ b) ∧ ∀ p ∈ X.pn ++ pins, p.1 ≠ b) :
   Inv X pins σ H' { s with heap := h', gens := g', drawn := d', toks := t' } := by
 obtain ⟨m, ⟨o, es, ep, ho, r⟩, _⟩ := id I.loc
 obtain ⟨sl, hL⟩ := u.any ho I.free fun z => (hch _ z).2.1 rfl
 exact I.step (ch := ch) hch (fun b o hL hb hc e n => u.keep b o e n (fun z => (List.mem_cons.mp (I.stkSub b z)).elim hL hb) hc) (fun b o _ _ hc e n => u.any e n hc) (fun b o hc e n => u.free b o e n hc) (fun b o hc e => u.there b o e hc) u.tups u.frzs u.tbls (fun m' hm => by
   obtain ⟨o', es', ep', ho', r'⟩ := hm
   rw [ho] at ho'; cases ho'
   exact ⟨_, es', ep', hL, r'⟩) hok hg
theorem Inv.turned {t' : Nat} {it : Addr} (I : Inv X pins σ H s) (k : ∀ b o, b ≠ it → s.heap.get? b = some o → h'.get? b = some o) (hn : H it = none) (hL : it ≠ X.env.locals)
   (h1 : it ∈ X.ex ∨ X.s₀.heap.objs.size ≤ it) (h2 : ∀ x c, X.env.cells.lookup x = some c → c ≠ it) (h3 : ∀ p ∈ X.pn ++ pins, p.1 ≠ it) : Inv X pins σ H { s with heap := h', toks := t' } := by
 have nit : ∀ b u, H b = some u → b ≠ it := fun b u e z => by rw [z, hn] at e; cases e
 refine I.step (g' := s.gens) (d' := s.drawn) (ch := [it]) (fun b hb => ?_) (fun b o _ _ hc e _ => k b o (fun z => hc (by simp [z])) e) (fun b o _ _ hc e _ => ⟨o.slots, k b o (fun z => hc (by simp [z])) e⟩) (fun _ _ _ _ n => n)
   (fun b o hc e => ⟨o, k b o (fun z => hc (by simp [z])) e⟩) (fun _ _ e => e) (fun _ _ _ e => e) (fun b ps e => ⟨#[], by rw [e]; simp⟩) (fun m hm => ?_) (fun b u e => ?_) I.bare
 · have e : b = it := by simpa using hb
   subst e
   exact ⟨h1, hL, h2, h3⟩
 · obtain ⟨o, es, ep, ho, r⟩ := hm
   exact ⟨o, es, ep, k _ o (Ne.symm hL) ho, r⟩
 · refine (I.hok b u e).stay (fun c v hc q => k c v ?_ q) (fun _ q => q) fun _ _ q => q
   rcases hc with z | z
   · rw [z]; exact nit b u e
   · exact nit c _ z
theorem Inv.tok (I : Inv X pins σ H s) (t : Nat) : Inv X pins σ H { s with toks := t } := I.un (h' := s.heap) (t' := t) Un.refl I.hok
theorem Inv.kept {t' : Nat} (I : Inv X pins σ H s) (k : ∀ b u, s.heap.get? b = some u → h'.get? b = some u) : Inv X pins σ H { s with heap := h', toks := t' } := I.un (Un.kept k) (I.hok.kept k)
theorem Inv.laid {a : Addr} {o : HO} {t' : Nat} (I : Inv X pins σ H s) (k : ∀ b u, s.heap.get? b = some u → h'.get? b = some u) (hp : s.heap.objs.size ≤ a) (new : ObjOk X.prog X.w (upd H a o) h' a o) :
   Inv X pins σ (upd H a o) { s with heap := h', toks := t' } := I.un (Un.laid k hp (I.hok.fresh hp)) (I.hok.laid k hp new)
theorem Inv.write {x e : Addr} {o : HO} {t' : Nat} (I : Inv X pins σ H s) (mu : Mut (H x)) (he : e = x ∨ H e = some (.own x)) (k : ∀ b u, b ≠ e → s.heap.get? b = some u → h'.get? b = some u) (heo : ∃ u, h'.get? e = some u)
   (new : ObjOk X.prog X.w (upd H x o) h' x o) : Inv X pins σ (upd H x o) { s with heap := h', toks := t' } := I.un (Un.write mu he k heo) (I.hok.write mu he k heo new)
theorem Inv.pins_of {pins' : List (Addr × Obj)} (I : Inv X pins σ H s) (h : ∀ p ∈ pins', s.heap.get? p.1 = some p.2 ∧ H p.1 = none ∧ p.1 ≠ X.env.locals ∧ p.1 ∉ X.fs ∧ ∀ v, p.2.data ≠ .cell v) : Inv X pins' σ H s :=
 ⟨I.ok, I.os, I.bare, I.base, I.loc, I.cell, I.free, I.freeC, fun p hp => (List.mem_append.mp hp).elim (fun z => I.pin p (List.mem_append_left _ z)) (h p), I.hok, I.len⟩
theorem nodup_ix {N : List Str} (hN : N.Nodup) {i j : Nat} {x : Str} (a : N[i]? = some x) (b : N[j]? = some x) : i = j := by
 obtain ⟨h1, e1⟩ := List.getElem?_eq_some_iff.mp a
 obtain ⟨h2, e2⟩ := List.getElem?_eq_some_iff.mp b
 exact (List.getElem_inj hN).mp (e1.trans e2.symm)
theorem store_ok2 {M : Model} {A : Around} {E : Value → Shared → Prop} {i : Nat} {x : Str} {v : V} {u : Value} {Q : Unit → Shared → Prop} (I : Inv X pins σ H s) (hN : X.N.Nodup) (hi : X.N[i]? = some x) (hx : Loc X.env.scope x) (r : RelV v u)
   (h : ∀ s', Inv X pins (σ.set i (some v)) H s' → (∃ a, Heap.SameBut a s.heap s'.heap ∧ (a = X.env.locals ∨ X.env.cells.lookup x = some a)) → Q () s') (hf : X.fn x = true ∨ X.env.scope.names.lookup x = some .local := by first | exact .inl rfl | exact .inr rfl | assumption) : wpAny M A (storeName X.env x u) Q E s := by
 obtain ⟨m, hn, hl⟩ := id I.loc
 have hcls : (X.env.scope.kind == .class || (X.env.scope.kind == .module && X.env.locals != X.env.globals)) = false := by rw [I.ok.kind]; rfl
 have hiσ : i < σ.length := by rw [I.len]; exact (List.getElem?_eq_some_iff.mp hi).1
 have cne := I.cne
 have tracked : ∀ {a : Addr} {h' : Heap}, (∃ o, s.heap.get? a = some o ∧ H a = none) → Heap.SameBut a s.heap h' → HOk X.prog X.w H h' := fun {a h'} ha hs b ob e => by
   obtain ⟨_, _, hfree⟩ := ha
   refine (I.hok b ob e).stay (fun c w' hc q => (hs.2 c ?_).trans q) (fun _ q => q) fun _ _ q => q
   rintro rfl
   rcases hc with rfl | hc
   · rw [hfree] at e; cases e
   · rw [hfree] at hc; cases hc
 rcases hx with hk | hk
 · refine wpAny_storeName_local hk hn (fun h' hn' hs => ?_) hcls
   obtain ⟨oL, _, _, hoL, _⟩ := id hn
   refine h _ ⟨I.ok, I.os, I.bare, ⟨fun b o e n hb hx => ?_, fun b o e n hb hx => ?_, I.base.free, fun b o e hx => ?_, I.base.tups, I.base.frzs, I.base.tbls⟩, ⟨_, hn', fun j y v' e1 e2 e3 => ?_⟩, fun y c e => ?_, I.free, I.freeC, fun p hp => ?_, tracked ⟨oL, hoL, I.free⟩ hs, by simpa using I.len⟩ ⟨_, hs, .inl rfl⟩
   · exact (hs.2 b (Nat.ne_of_lt (Nat.lt_of_lt_of_le (Heap.lt_size e) I.ok.above))).trans (I.base.keep b o e n hb hx)
   · obtain ⟨sl, e1⟩ := I.base.slot b o e n hb hx
     exact ⟨sl, (hs.2 b (Nat.ne_of_lt (Nat.lt_of_lt_of_le (Heap.lt_size e) I.ok.above))).trans e1⟩
   · obtain ⟨o', e1⟩ := I.base.there b o e hx
     exact ⟨o', (hs.2 b (Nat.ne_of_lt (Nat.lt_of_lt_of_le (Heap.lt_size e) I.ok.above))).trans e1⟩
   · by_cases hj : j = i
     · subst hj
       rw [hi] at e1; cases e1
       rw [List.getElem?_set_self hiσ] at e2
       cases e2
       exact ⟨u, r, .inl ⟨hk, by simp⟩⟩
     · rw [List.getElem?_set_ne (Ne.symm hj)] at e2
       obtain ⟨u', r', q⟩ := hl j y v' e1 e2 e3
       refine ⟨u', r', ?_⟩
       rcases q with ⟨k, e⟩ | ⟨k, c, e, z⟩
       · refine .inl ⟨k, ?_⟩
         have : y ≠ x := fun e => hj (nodup_ix hN e1 (e ▸ hi))
         simp [this, e]
       · exact .inr ⟨k, c, e, z.sameBut hs (cne y c e)⟩
   · obtain ⟨w', z⟩ := I.cell y c e
     exact ⟨w', z.sameBut hs (cne y c e)⟩
   · obtain ⟨e, n, ne, nf, d⟩ := I.pin p hp
     exact ⟨(hs.2 p.1 ne).trans e, n, ne, nf, d⟩
 · have hfn : X.fn x = true := by
     rcases hf with z | z
     · exact z
     · rw [z] at hk; cases hk
   obtain ⟨c, hc⟩ := I.ok.has x (.inl hk)
   obtain ⟨w', z⟩ := I.cell x c hc
   refine wpAny_storeName_cell I.ok.kind hk hc z (fun h' hc' hs => ?_)
   obtain ⟨oc, hoc, hocd⟩ := id z
   refine h { s with heap := h' } ⟨I.ok, I.os, I.bare, ⟨fun b o e n hb hx => ?_, fun b o e n hb hx => ?_, I.base.free, fun b o e hx => ?_, I.base.tups, I.base.frzs, I.base.tbls⟩, ⟨m, hn.sameBut hs (Ne.symm (cne x c hc)), fun j y v' e1 e2 e3 => ?_⟩, fun y c' e => ?_, I.free, I.freeC, fun p hp => ?_, tracked ⟨oc, hoc, I.freeC x c hc⟩ hs, by simpa using I.len⟩ ⟨c, hs, .inr hc⟩
   · exact (hs.2 b (Nat.ne_of_lt (Nat.lt_of_lt_of_le (Heap.lt_size e) (I.ok.cab x c hfn hc)))).trans (I.base.keep b o e n hb hx)
   · obtain ⟨sl, e1⟩ := I.base.slot b o e n hb hx
     exact ⟨sl, (hs.2 b (Nat.ne_of_lt (Nat.lt_of_lt_of_le (Heap.lt_size e) (I.ok.cab x c hfn hc)))).trans e1⟩
   · obtain ⟨o', e1⟩ := I.base.there b o e hx
     exact ⟨o', (hs.2 b (Nat.ne_of_lt (Nat.lt_of_lt_of_le (Heap.lt_size e) (I.ok.cab x c hfn hc)))).trans e1⟩
   · by_cases hj : j = i
     · subst hj
       rw [hi] at e1; cases e1
       rw [List.getElem?_set_self hiσ] at e2
       cases e2
       exact ⟨u, r, .inr ⟨.inl hk, c, hc, hc'⟩⟩
     · rw [List.getElem?_set_ne (Ne.symm hj)] at e2
       obtain ⟨u', r', q⟩ := hl j y v' e1 e2 e3
       refine ⟨u', r', ?_⟩
       rcases q with q | ⟨k, c', e, z'⟩
       · exact .inl q
       · refine .inr ⟨k, c', e, z'.sameBut hs ?_⟩
         rintro rfl
         exact hj (nodup_ix hN e1 (I.ok.inj _ _ _ e hc ▸ hi))
   · by_cases hcc : c' = c
     · subst hcc; exact ⟨_, hc'⟩
     · obtain ⟨w2, z2⟩ := I.cell y c' e
       exact ⟨w2, z2.sameBut hs hcc⟩
   · obtain ⟨e, n, ne, nf, d⟩ := I.pin p hp
     refine ⟨(hs.2 p.1 ?_).trans e, n, ne, nf, d⟩
     intro q
     rw [q, hoc] at e
     have q' : oc = p.2 := Option.some.inj e
     exact d w' (by rw [← q']; exact hocd)
theorem store_ok {M : Model} {A : Around} {E : Value → Shared → Prop} {i : Nat} {x : Str} {v : V} {u : Value} {Q : Unit → Shared → Prop} (I : Inv X pins σ H s) (hN : X.N.Nodup) (hi : X.N[i]? = some x) (hx : Loc X.env.scope x) (r : RelV v u)
   (h : ∀ s', Inv X pins (σ.set i (some v)) H s' → Q () s') (hf : X.fn x = true ∨ X.env.scope.names.lookup x = some .local := by first | exact .inl rfl | exact .inr rfl | assumption) : wpAny M A (storeName X.env x u) Q E s :=
 store_ok2 I hN hi hx r (fun s' I' _ => h s' I') hf
theorem Inv.call' {s' : Shared} {ch : List Addr} (I : Inv X pins σ H s) (ho : s'.os = s.os) (u : Un (frs X.stack) ch H H' s.heap s'.heap) (hok : HOk X.prog X.w H' s'.heap) (hg : AllBare s'.gens)
   (hch : ∀ b ∈ ch, (b ∈ X.ex ∨ X.s₀.heap.objs.size ≤ b) ∧ b ≠ X.env.locals ∧ (∀ x c, X.env.cells.lookup x = some c → c ≠ b) ∧ ∀ p ∈ X.pn ++ pins, p.1 ≠ b) : Inv X pins σ H' s' := by
 obtain ⟨h', g', d', t', o'⟩ := s'
 have e : o' = s.os := ho
 subst e
 exact I.call (g' := g') (t' := t') (d' := d') u hok hg hch
end
abbrev XK := Value → Option Addr → Hp → Prop
abbrev St := List (Option V)
abbrev VK := V → Hp → Prop
abbrev TE := St → Hp → VK → Prop
abbrev TT := St → Hp → (Bool → Hp → Prop) → Prop
abbrev TA := St → Hp → (List V → Hp → Prop) → Prop
structure Ends where
 nx : St → Hp → Prop
 rt : VK
 bk : St → Hp → Prop := fun _ _ => False
 ct : St → Hp → Prop := fun _ _ => False
abbrev TS := Ends → St → Hp → Prop
def EP (X : Cx) (pins : List (Addr × Obj)) (σ : St) (Q : VK) (u : Value) (s' : Shared) : Prop := ∃ v H', Inv X pins σ H' s' ∧ RelV v u ∧ Q v H'
def TP (X : Cx) (pins : List (Addr × Obj)) (σ : St) (Q : Bool → Hp → Prop) (b : Bool) (s' : Shared) : Prop := ∃ H', Inv X pins σ H' s' ∧ Q b H'
def AP (X : Cx) (pins : List (Addr × Obj)) (σ : St) (Q : List V → Hp → Prop) (us : List Value) (s' : Shared) : Prop := ∃ vs H', Inv X pins σ H' s' ∧ Vals vs us ∧ Q vs H'
def SP (X : Cx) (pins : List (Addr × Obj)) (D : Ends) (f : Flow) (s' : Shared) : Prop :=
 match f with
 | .next => ∃ σ' H', Inv X pins σ' H' s' ∧ D.nx σ' H'
 | .brk => ∃ σ' H', Inv X pins σ' H' s' ∧ D.bk σ' H'
 | .cont => ∃ σ' H', Inv X pins σ' H' s' ∧ D.ct σ' H'
 | .ret u => ∃ v σ' H', Inv X pins σ' H' s' ∧ RelV v u ∧ D.rt v H'
def PE (X : Cx) (e : Expr) (t : TE) : Prop :=
 ∀ (pins : List (Addr × Obj)) (s : Shared) (σ : St) (H : Hp) (Q : VK), Inv X pins σ H s → t σ H Q → wpAny (model X.prog X.w) X.A (eval e X.env) (EP X pins σ Q) X.xe s
def PT (X : Cx) (e : Expr) (t : TT) : Prop :=
 ∀ (pins : List (Addr × Obj)) (s : Shared) (σ : St) (H : Hp) (Q : Bool → Hp → Prop), Inv X pins σ H s → t σ H Q → wpAny (model X.prog X.w) X.A (isTrue e X.env (eval e X.env)) (TP X pins σ Q) X.xe s
def PW (X : Cx) (e : Expr) (t : TT) : Prop :=
 ∀ (whole : Sem Value) (pins : List (Addr × Obj)) (s : Shared) (σ : St) (H : Hp) (Q : Bool → Hp → Prop), Inv X pins σ H s → t σ H Q → wpAny (model X.prog X.w) X.A (isTrue e X.env whole) (TP X pins σ Q) X.xe s
theorem PW.pt {X : Cx} {e : Expr} {t : TT} (h : PW X e t) : PT X e t := h _
def PA (X : Cx) (es : List Expr) (t : TA) : Prop :=
 ∀ (pos : Pos) (pins : List (Addr × Obj)) (s : Shared) (σ : St) (H : Hp) (Q : List V → Hp → Prop), Inv X pins σ H s → t σ H Q → wpAny (model X.prog X.w) X.A (spliced (backTo pos (starEach es X.env))) (AP X pins σ Q) X.xe s
def PS (X : Cx) (st : Stmt) (t : TS) : Prop :=
 ∀ (pins : List (Addr × Obj)) (s : Shared) (σ : St) (H : Hp) (D : Ends), Inv X pins σ H s → t D σ H → wpAny (model X.prog X.w) X.A (exec st X.env) (SP X pins D) X.xe s
def PSs (X : Cx) (st : List Stmt) (t : TS) : Prop :=
 ∀ (pins : List (Addr × Obj)) (s : Shared) (σ : St) (H : Hp) (D : Ends), Inv X pins σ H s → t D σ H → wpAny (model X.prog X.w) X.A (execs st X.env) (SP X pins D) X.xe s
theorem thn {α : Type} {t : Sem α} {Q Q' : α → Shared → Prop} {M : Model} {A : Around} {E : Value → Shared → Prop} {s : Shared} (h : wpAny M A t Q E s) (hQ : ∀ a s, Q a s → Q' a s) : wpAny M A t Q' E s := wpAny_mono h hQ fun _ _ x => x
end L2
namespace L2
open PySem PySem.Spec PyProof.Rows
section
variable {X : Cx}
def tVar (i : Nat) : TE := fun σ H Q => ∃ v, σ[i]? = some (some v) ∧ Q v H
def tC (v : V) : TE := fun _ H Q => Q v H
theorem pe_var {i : Nat} {x : Str} {pos : Pos} (hN : X.N[i]? = some x) (hv : Vis X.env.scope x) (hd : (x == ("__debug__" : Str)) = false := by decide) (hcd : (x == ("__classdict__" : Str)) = false := by decide) : PE X (.Name x pos) (tVar i) := by
 intro pins s σ H Q I h
 obtain ⟨v, e, h⟩ := h
 obtain ⟨m, hn, hl⟩ := I.loc
 obtain ⟨u, r, l⟩ := hl i x v hN e hv
 have fin : EP X pins σ Q u s := ⟨v, H, I, r, h⟩
 rcases l with ⟨hk, hm⟩ | ⟨hk, c, hc, hcell⟩
 · exact wpAny_Name (wpAny_loadName_local I.ok.kind hk hn hm fin) hd
 · rcases hk with hk | hk
   · exact wpAny_Name (wpAny_loadName_cell I.ok.kind hk hc hcell fin) hd
   · exact wpAny_Name (wpAny_loadName_free I.ok.kind hk hc hcell fin hcd) hd
theorem pe_int {i j pos} : PE X (.Constant (.int i) j pos) (tC (.int i)) := fun _ _ _ H _ I h => wpAny_Constant_int ⟨.int i, H, I.tok _, ⟨_, rfl⟩, h⟩
theorem pe_bl {b j pos} : PE X (.Constant (.bool b) j pos) (tC (.bl b)) := fun _ _ _ H _ I h => Constant_bool ⟨.bl b, H, I, rfl, h⟩
theorem pe_non {j pos} : PE X (.Constant .none j pos) (tC .non) := fun _ _ _ H _ I h => Constant_none ⟨.non, H, I, rfl, h⟩
def Gl (X : Cx) (x : Str) : Prop := X.env.kindOf x = some .globalImplicit
theorem ld_glob {E : Value → Shared → Prop} {pins : List (Addr × Obj)} {s : Shared} {σ : St} {H : Hp} {x : Str} {u : Value} {pos : Pos} {Q : Value → Shared → Prop} (I : Inv X pins σ H s) (hg : Gl X x) (hm : X.mg x = some u) (h : Q u s)
   (hd : (x == ("__debug__" : Str)) = false := by decide) : wpAny (model X.prog X.w) X.A (eval (.Name x pos) X.env) Q E s :=
 Calls.Name_function_global I.ok.kind hg (Calls.loadGlobal_global (by rw [I.ok.glob]; exact I.mod.glob.keeps I.bk) hm h) hd
theorem ld_blt {E : Value → Shared → Prop} {pins : List (Addr × Obj)} {s : Shared} {σ : St} {H : Hp} {x : Str} {u : Value} {pos : Pos} {Q : Value → Shared → Prop} (I : Inv X pins σ H s) (hg : Gl X x) (hm : X.mg x = none) (hv : bootBuiltins x = some u) (h : Q u s)
   (hn : x ≠ "__name__" := by decide) (hd : (x == ("__debug__" : Str)) = false := by decide) : wpAny (model X.prog X.w) X.A (eval (.Name x pos) X.env) Q E s := by
 obtain ⟨mb, h1, h2⟩ := I.mod.blt
 exact Calls.Name_function_global I.ok.kind hg (Calls.loadGlobal_builtin (by rw [I.ok.glob]; exact I.mod.glob.keeps I.bk) hm (by rw [I.ok.blt]; exact h1.keeps I.bk) ((h2 x hn).trans hv) h) hd
theorem pe_glob {x : Str} {v : V} {u : Value} {pos : Pos} (hg : Gl X x) (hm : X.mg x = some u) (r : RelV v u) (hd : (x == ("__debug__" : Str)) = false := by decide) : PE X (.Name x pos) (tC v) :=
 fun _ _ _ H _ I h => ld_glob I hg hm ⟨v, H, I, r, h⟩ hd
theorem pe_bltn {x : Str} {v : V} {u : Value} {pos : Pos} (hg : Gl X x) (hm : X.mg x = none) (hv : bootBuiltins x = some u) (r : RelV v u) (hn : x ≠ "__name__" := by decide) (hd : (x == ("__debug__" : Str)) = false := by decide) : PE X (.Name x pos) (tC v) :=
 fun _ _ _ H _ I h => ld_blt I hg hm hv ⟨v, H, I, r, h⟩ hn hd
variable {a b : Expr} {ta tb : TE} {pos : Pos}
def tB (t : TE) : TT := fun σ H Q => t σ H fun x H1 => ∃ c, x = .bl c ∧ Q c H1
theorem pt_val {e : Expr} {t : TE} (h : PE X e t) (he : ∀ whole, isTrue e X.env whole = (do let v ← whole; standAt e.pos; holding [v] (truthy v)) := by intro _; rfl) : PT X e (tB t) := by
 intro pins s σ H Q I hw
 refine isTrue_plain (thn (h pins s σ H _ I hw) fun v s1 ⟨x, H1, I1, r1, q1⟩ => ?_) (he _)
 obtain ⟨d, rfl, q⟩ := q1
 cases r1
 exact wpAny_truthy_bool ⟨H1, I1, q⟩
variable {tA tB' : TT} {rest : List Expr}
def tAnd (t u : TT) : TT := fun σ H Q => t σ H fun c H1 => if c = true then u σ H1 Q else Q false H1
def tOr (t u : TT) : TT := fun σ H Q => t σ H fun c H1 => if c = true then Q true H1 else u σ H1 Q
def tNot (t : TT) : TT := fun σ H Q => t σ H fun c H1 => Q (!c) H1
theorem pw_and1 (ha : PT X a tA) : PW X (.BoolOp .And [a] pos) tA := by
 intro wh pins s σ H Q I h
 refine isTrue_and (thn (ha pins s σ H Q I h) fun c s1 e => ?_)
 cases c with
 | true => exact isTrue_and_nil e
 | false => exact e
theorem pw_or1 (ha : PT X a tA) : PW X (.BoolOp .Or [a] pos) tA := by
 intro wh pins s σ H Q I h
 refine isTrue_or (thn (ha pins s σ H Q I h) fun c s1 e => ?_)
 cases c with
 | false => exact isTrue_or_nil e
 | true => exact e
theorem pw_and (ha : PT X a tA) (hb : PW X (.BoolOp .And (b :: rest) pos) tB') : PW X (.BoolOp .And (a :: b :: rest) pos) (tAnd tA tB') := by
 intro wh pins s σ H Q I h
 refine isTrue_and (thn (ha pins s σ H _ I h) fun c s1 ⟨H1, I1, q1⟩ => ?_)
 cases c with
 | true => exact hb wh pins s1 σ H1 Q I1 q1
 | false => exact ⟨H1, I1, q1⟩
theorem pw_or (ha : PT X a tA) (hb : PW X (.BoolOp .Or (b :: rest) pos) tB') : PW X (.BoolOp .Or (a :: b :: rest) pos) (tOr tA tB') := by
 intro wh pins s σ H Q I h
 refine isTrue_or (thn (ha pins s σ H _ I h) fun c s1 ⟨H1, I1, q1⟩ => ?_)
 cases c with
 | true => exact ⟨H1, I1, q1⟩
 | false => exact hb wh pins s1 σ H1 Q I1 q1
theorem pt_not (ha : PT X a tA) : PT X (.UnaryOp .Not a pos) (tNot tA) := by
 intro pins s σ H Q I h
 exact isTrue_not (ha pins s σ H (fun c H1 => Q (!c) H1) I h)
def tAndV (ta tb : TE) : TE := fun σ H Q => ta σ H fun x H1 => ∃ c, x = .bl c ∧ if c = true then tb σ H1 Q else Q (.bl false) H1
def tNotV (ta : TE) : TE := fun σ H Q => ta σ H fun x H1 => ∃ c, x = .bl c ∧ Q (.bl (!c)) H1
theorem pe_one {op} {t : TE} (h : PE X a t) : PE X (.BoolOp op [a] pos) t := fun pins s σ H Q I hw => BoolOp_one (h pins s σ H Q I hw)
theorem pe_and (ha : PE X a ta) (hb : PE X (.BoolOp .And (b :: rest) pos) tb) : PE X (.BoolOp .And (a :: b :: rest) pos) (tAndV ta tb) := by
 intro pins s σ H Q I h
 refine BoolOp_and (thn (ha pins s σ H _ I h) fun v s1 ⟨x, H1, I1, r1, q1⟩ => ?_)
 obtain ⟨c, rfl, q1⟩ := q1
 cases r1
 refine wpAny_truthy_bool ?_
 cases c with
 | true => exact hb pins s1 σ H1 Q I1 q1
 | false => exact ⟨.bl false, H1, I1, rfl, q1⟩
theorem pe_not (ha : PE X a ta) : PE X (.UnaryOp .Not a pos) (tNotV ta) := by
 intro pins s σ H Q I h
 refine UnaryOp_ (thn (ha pins s σ H _ I h) fun v s1 ⟨x, H1, I1, r1, q1⟩ => ?_)
 obtain ⟨c, rfl, q1⟩ := q1
 cases r1
 exact not_of (wpAny_truthy_bool ⟨.bl (!c), H1, I1, rfl, q1⟩)
def tIf (t : TT) (ta tb : TE) : TE := fun σ H Q => t σ H fun c H1 => if c = true then ta σ H1 Q else tb σ H1 Q
theorem pe_ifExp {c : Expr} (hc : PT X c tA) (ha : PE X a ta) (hb : PE X b tb) : PE X (.IfExp c a b pos) (tIf tA ta tb) := by
 intro pins s σ H Q I h
 refine wpAny_IfExp (thn (hc pins s σ H _ I h) fun d s1 ⟨H1, I1, q1⟩ => ?_)
 cases d with
 | true => exact ha pins s1 σ H1 Q I1 q1
 | false => exact hb pins s1 σ H1 Q I1 q1
end
end L2
namespace L2
open PySem PySem.Spec PyProof.Rows
def SqL (K : PySem.W.Frag) (H : Hp) (a : Addr) (xs : List V) : Prop :=
 Rd H a (.lst xs) ∨
   ∃ (o : Obj) (its : Array Value) (n : Nat), K.lookup a = some o ∧ o.cls = .type "list" ∧ o.dict = none ∧ o.data = .seq its n ∧ its.size ≤ sizeLine ∧ Vals xs its.toList
def SqT (K : PySem.W.Frag) (H : Hp) (a : Addr) (xs : List V) : Prop :=
 Rd H a (.tup xs) ∨
   ∃ (o : Obj) (its : Array Value) (n : Nat), K.lookup a = some o ∧ o.cls = .type "tuple" ∧ o.data = .seq its n ∧ its.size ≤ sizeLine ∧ Vals xs its.toList
def absV : Value → Option V
 | .none => some .non
 | .bool b => some (.bl b)
 | .int i _ => some (.int i)
 | .str x _ => some (.str x)
 | .bytes b _ => some (.byt b)
 | .float b _ => some (.flt b)
 | .ref a => some (.ref a)
 | .type n => some (.ty n)
 | _ => none
theorem RelV.abs {x : V} {u : Value} (r : RelV x u) : absV u = some x := by
 cases x with
 | non => cases r; rfl
 | bl _ => cases r; rfl
 | int _ => obtain ⟨t, rfl⟩ := r; rfl
 | str _ => obtain ⟨t, rfl⟩ := r; rfl
 | byt _ => obtain ⟨t, rfl⟩ := r; rfl
 | flt _ => obtain ⟨t, rfl⟩ := r; rfl
 | ref _ => cases r; rfl
 | ty _ => cases r; rfl
theorem RelV.inj {x y : V} {u : Value} (r : RelV x u) (q : RelV y u) : x = y := Option.some.inj (r.abs.symm.trans q.abs)
theorem Vals.inj : ∀ {xs ys : List V} {us : List Value}, Vals xs us → Vals ys us → xs = ys
 | _, _, _, .nil, .nil => rfl
 | _, _, _, .cons r t, .cons r' t' => by rw [r.inj r', Vals.inj t t']
section
variable {X : Cx} {pins : List (Addr × Obj)} {σ : St} {H : Hp} {s : Shared} {a : Addr} {xs ys : List V}
theorem SqL.of {K : PySem.W.Frag} (h : H a = some (.lst xs)) : SqL K H a xs := .inl (.inl h)
theorem SqT.of {K : PySem.W.Frag} (h : H a = some (.tup xs)) : SqT K H a xs := .inl (.inl h)
theorem Inv.list (I : Inv X pins σ H s) (h : SqL X.K H a xs) : ∃ its : List Value, Vals xs its ∧ PlainL s.heap a its.toArray ∧ xs.length ≤ sizeLine := by
 rcases h with h | ⟨o, its, n, hk, hc, hd, hs, hz, r⟩
 · obtain ⟨z, its, n, r, e⟩ := h.ok I.hok
   exact ⟨its, r, ⟨_, n, e, rfl, rfl, rfl⟩, z⟩
 · refine ⟨its.toList, r, ⟨o, n, I.kIn a o hk, hc, hd, by simpa using hs⟩, ?_⟩
   have e := r.length
   simp only [Array.length_toList] at e
   omega
theorem Inv.tuple (I : Inv X pins σ H s) (h : SqT X.K H a xs) : ∃ its : List Value, Vals xs its ∧ IsTup s.heap a its.toArray ∧ xs.length ≤ sizeLine := by
 rcases h with h | ⟨o, its, n, hk, hc, hs, hz, r⟩
 · obtain ⟨z, its, r, p⟩ := h.ok I.hok
   exact ⟨its, r, p, z⟩
 · refine ⟨its.toList, r, ⟨o, I.kIn a o hk, hc, n, by simpa using hs⟩, ?_⟩
   have e := r.length
   simp only [Array.length_toList] at e
   omega
theorem Inv.list_inj (I : Inv X pins σ H s) (h : SqL X.K H a xs) (h' : SqL X.K H a ys) : xs = ys := by
 obtain ⟨its, r, ⟨o, n, e, _, _, d⟩, _⟩ := I.list h
 obtain ⟨its', r', ⟨o', n', e', _, _, d'⟩, _⟩ := I.list h'
 rw [e] at e'; cases e'
 rw [d] at d'
 injection d' with d1 _
 have : its = its' := by simpa using congrArg Array.toList d1
 subst this
 exact r.inj r'
end
abbrev Cx.wish (X : Cx) (E : Value → Shared → Prop) : Cx := { X with xe := E }
abbrev Cx.nox (X : Cx) : Cx := X.wish fun _ _ => False
theorem Cx.Ok.wish {X : Cx} (ok : X.Ok) (E : Value → Shared → Prop) : (X.wish E).Ok :=
 ⟨ok.mod, ok.kind, ok.glob, ok.blt, ok.above, ok.inj, ok.has, ok.cab, ok.hd, ok.frames, ok.stk, ok.exf, ok.bs, ok.bsz, ok.noex, ok.exfs, ok.funs, ok.frf⟩
theorem Cx.Ok.unwish {X : Cx} {E : Value → Shared → Prop} (ok : (X.wish E).Ok) : X.Ok :=
 ⟨ok.mod, ok.kind, ok.glob, ok.blt, ok.above, ok.inj, ok.has, ok.cab, ok.hd, ok.frames, ok.stk, ok.exf, ok.bs, ok.bsz, ok.noex, ok.exfs, ok.funs, ok.frf⟩
section
variable {X : Cx} {pins : List (Addr × Obj)} {σ : St} {H : Hp} {s : Shared} {E : Value → Shared → Prop}
theorem Inv.wish (I : Inv X pins σ H s) (E : Value → Shared → Prop) : Inv (X.wish E) pins σ H s := ⟨I.ok.wish E, I.os, I.bare, I.base, I.loc, I.cell, I.free, I.freeC, I.pin, I.hok, I.len⟩
theorem Inv.unwish (I : Inv (X.wish E) pins σ H s) : Inv X pins σ H s := ⟨I.ok.unwish, I.os, I.bare, I.base, I.loc, I.cell, I.free, I.freeC, I.pin, I.hok, I.len⟩
theorem SP.unwish {D : Ends} {f : Flow} {s' : Shared} (h : SP (X.wish E) pins D f s') : SP X pins D f s' := by
 cases f with
 | next => obtain ⟨σ', H', I, q⟩ := h; exact ⟨σ', H', I.unwish, q⟩
 | brk => obtain ⟨σ', H', I, q⟩ := h; exact ⟨σ', H', I.unwish, q⟩
 | cont => obtain ⟨σ', H', I, q⟩ := h; exact ⟨σ', H', I.unwish, q⟩
 | ret u => obtain ⟨v, σ', H', I, r, q⟩ := h; exact ⟨v, σ', H', I.unwish, r, q⟩
theorem PE.nox {e : Expr} {t : TE} (h : PE X.nox e t) : PE X e t := fun pins s σ H Q I hw =>
 wpAny_mono (h pins s σ H Q (I.wish _) hw) (fun _ _ ⟨v, H', I', r, q⟩ => ⟨v, H', I'.unwish, r, q⟩) fun _ _ z => False.elim z
theorem PT.nox {e : Expr} {t : TT} (h : PT X.nox e t) : PT X e t := fun pins s σ H Q I hw =>
 wpAny_mono (h pins s σ H Q (I.wish _) hw) (fun _ _ ⟨H', I', q⟩ => ⟨H', I'.unwish, q⟩) fun _ _ z => False.elim z
theorem PSs.nox {st : List Stmt} {t : TS} (h : PSs X.nox st t) : PSs X st t := fun pins s σ H D I hw =>
 wpAny_mono (h pins s σ H D (I.wish _) hw) (fun _ _ q => q.unwish) fun _ _ z => False.elim z
end
section
variable {X : Cx} {st : Stmt} {rest : List Stmt} {t u : TS} {e : Expr} {te : TE} {pos : Pos}
def tNext : TS := fun D σ H => D.nx σ H
def tSeq (t u : TS) : TS := fun D σ H => t { D with nx := u D } σ H
theorem pss_nil : PSs X [] tNext := fun _ _ σ H _ I h => wpAny_execs_nil ⟨σ, H, I, h⟩
theorem pss_cons (h1 : PS X st t) (h2 : PSs X rest u) : PSs X (st :: rest) (tSeq t u) := by
 intro pins s σ H D I h
 refine wpAny_execs_cons (thn (h1 pins s σ H { D with nx := u D } I h) fun f s1 q => ?_)
 cases f with
 | next =>
   obtain ⟨σ', H', I', q⟩ := q
   exact h2 pins s1 σ' H' D I' q
 | ret v => exact q
 | brk => exact q
 | cont => exact q
theorem pss_one (h1 : PS X st t) : PSs X [st] t := by
 intro pins s σ H D I h
 refine wpAny_execs_cons (thn (h1 pins s σ H D I h) fun f s1 q => ?_)
 cases f with
 | next => exact wpAny_execs_nil q
 | ret v => exact q
 | brk => exact q
 | cont => exact q
theorem Inv.quiet {pins : List (Addr × Obj)} {σ : St} {H : Hp} {s : Shared} (I : Inv X pins σ H s) : interactive X.env = false := by simp [interactive, I.ok.kind]
def tDrop (te : TE) : TS := fun D σ H => te σ H fun _ H1 => D.nx σ H1
theorem ps_expr (he : PE X e te) (hs : swapsWith e none pos.line X.env = pure false := by rfl) : PS X (.Expr e pos) (tDrop te) := by
 intro pins s σ H D I h
 exact wpAny_Expr_any (thn (he pins s σ H _ I h) fun v s1 ⟨x, H1, I1, r1, q1⟩ => ⟨σ, H1, I1, q1⟩) I.quiet hs
def tRet (te : TE) : TS := fun D σ H => te σ H D.rt
theorem ps_ret (he : PE X e te) : PS X (.Return (some e) pos) (tRet te) := by
 intro pins s σ H D I h
 exact wpAny_Return_some (thn (he pins s σ H _ I h) fun v s1 ⟨x, H1, I1, r1, q1⟩ => ⟨x, σ, H1, I1, r1, q1⟩)
def tIfS (c : TT) (t u : TS) : TS := fun D σ H => c σ H fun b H1 => if b = true then t D σ H1 else u D σ H1
theorem ps_if {c : Expr} {a b : List Stmt} {tc : TT} (hc : PT X c tc) (ha : PSs X a t) (hb : PSs X b u) : PS X (.If c a b pos) (tIfS tc t u) := by
 intro pins s σ H D I h
 refine wpAny_If (thn (hc pins s σ H _ I h) fun d s1 ⟨H1, I1, q1⟩ => ?_)
 cases d with
 | true => exact ha pins s1 σ H1 D I1 q1
 | false => exact hb pins s1 σ H1 D I1 q1
end
abbrev TG := V → St → Hp → (St → Hp → Prop) → Prop
abbrev TGs := List V → St → Hp → (St → Hp → Prop) → Prop
def PG (X : Cx) (target : Expr) (t : TG) : Prop :=
 ∀ (pins : List (Addr × Obj)) (s : Shared) (σ : St) (H : Hp) (v : V) (u : Value) (Q : St → Hp → Prop), Inv X pins σ H s → RelV v u → t v σ H Q →
   wpAny (model X.prog X.w) X.A (assign target X.env u) (fun _ s' => ∃ σ' H', Inv X pins σ' H' s' ∧ Q σ' H') X.xe s
def PGs (X : Cx) (ts : List Expr) (t : TGs) : Prop :=
 ∀ (pins : List (Addr × Obj)) (s : Shared) (σ : St) (H : Hp) (vs : List V) (us : List Value) (Q : St → Hp → Prop), Inv X pins σ H s → Vals vs us → t vs σ H Q →
   wpAny (model X.prog X.w) X.A (assignInOrder ((assignEach ts X.env).map (·.2)) us) (fun _ s' => ∃ σ' H', Inv X pins σ' H' s' ∧ Q σ' H') X.xe s
abbrev TSet := V → V → V → Hp → (Hp → Prop) → Prop
def PSet (X : Cx) (t : TSet) : Prop :=
 ∀ (pins : List (Addr × Obj)) (s : Shared) (σ : St) (H : Hp) (o i v : V) (ov iv u : Value) (Q : Hp → Prop), Inv X pins σ H s → RelV o ov → RelV i iv → RelV v u → t o i v H Q →
   wpAny (model X.prog X.w) X.A (setItem ov iv u) (fun _ s' => ∃ H', Inv X pins σ H' s' ∧ Q H') X.xe s
section
variable {X : Cx} {pos : Pos}
def gName (i : Nat) : TG := fun v σ H Q => Q (σ.set i (some v)) H
theorem pg_name {i : Nat} {x : Str} (hN : X.N.Nodup) (hi : X.N[i]? = some x) (hx : Loc X.env.scope x) (hf : X.fn x = true ∨ X.env.scope.names.lookup x = some .local := by first | exact .inl rfl | exact .inr rfl | assumption) : PG X (.Name x pos) (gName i) := by
 intro pins s σ H v u Q I r h
 exact wpAny_assign_Name (store_ok I hN hi hx r (fun s' I' => ⟨_, H, I', h⟩) hf)
def gNil : TGs := fun vs σ H Q => vs = [] ∧ Q σ H
def gCons (t : TG) (u : TGs) : TGs := fun vs σ H Q => ∃ v r, vs = v :: r ∧ t v σ H fun σ' H' => u r σ' H' Q
theorem pgs_nil : PGs X [] gNil := by
 intro pins s σ H vs us Q I r h
 obtain ⟨e, h⟩ := h
 subst e
 cases r
 exact assignInOrder_nil ⟨σ, H, I, h⟩
theorem pgs_cons {e : Expr} {es : List Expr} {t : TG} {u : TGs} (h1 : PG X e t) (h2 : PGs X es u)
   (hs : (assignEach (e :: es) X.env).map (·.2) = assign e X.env :: (assignEach es X.env).map (·.2) := by rfl) : PGs X (e :: es) (gCons t u) := by
 intro pins s σ H vs us Q I r h
 obtain ⟨v, vr, e1, h⟩ := h
 subst e1
 cases r with
 | cons r rr =>
   rw [hs]
   refine assignInOrder_cons (thn (h1 pins s σ H _ _ _ I r h) fun _ s1 ⟨σ1, H1, I1, q1⟩ => ?_)
   exact h2 pins s1 σ1 H1 _ _ Q I1 rr q1
def gTup (K : PySem.W.Frag) (n : Nat) (t : TGs) : TG := fun v σ H Q => ∃ a xs, v = .ref a ∧ SqT K H a xs ∧ xs.length = n ∧ t xs σ H Q
theorem pg_tup {es : List Expr} {k : Nat} {t : TGs} {n : Nat} (hc : X.calm = true) (h : PGs X es t)
   (hn : (assignEach es X.env).length = n := by rfl) (hst : (assignEach es X.env).findIdx? (·.1) = none := by rfl) : PG X (.Tuple es k pos) (gTup X.K n t) := by
 intro pins s σ H v u Q I r hw
 obtain ⟨a, xs, e1, hq, hl, hw⟩ := hw
 subst e1
 cases r
 obtain ⟨its, rv, ht, hz⟩ := I.tuple hq
 refine assign_Tuple_tuple (I.ok.hd hc) ht (by simp [hn, ← hl, rv.length]) hst fun h' hx => ?_
 have I1 : Inv X pins σ H { s with heap := h' } := I.kept (t' := s.toks) fun b o e => hx b o (Nat.ne_of_lt (Heap.lt_size e)) e
 exact h pins _ σ H xs _ Q I1 (by simpa using rv) hw
def gSub (to ti : TE) (t : TSet) : TG := fun v σ H Q => to σ H fun o H1 => ti σ H1 fun i H2 => t o i v H2 fun H3 => Q σ H3
theorem pg_sub {o i : Expr} {to ti : TE} {t : TSet} (ho : PE X o to) (hi : PE X i ti) (hs : PSet X t)
   (ha : ∀ v, assign (.Subscript o i pos) X.env v = (do
     let ov ← holding [v] (eval o X.env)
     let iv ← holding [v, ov] (eval i X.env)
     standAt pos
     holding [v, ov, iv] (setItem ov iv v)
     release [v, ov, iv] []) := by intro _; rfl) : PG X (.Subscript o i pos) (gSub to ti t) := by
 intro pins s σ H v u Q I r h
 rw [ha]
 refine wpAny_bind (wpAny_holding (thn (ho pins s σ H _ I h) fun ov s1 ⟨x, H1, I1, r1, q1⟩ => ?_))
 refine wpAny_bind (wpAny_holding (thn (hi pins s1 σ H1 _ I1 q1) fun iv s2 ⟨y, H2, I2, r2, q2⟩ => ?_))
 refine wpAny_bind (wpAny_standAt (wpAny_bind (wpAny_holding (thn (hs pins s2 σ H2 x y v ov iv u _ I2 r1 r2 r q2) fun _ s3 ⟨H3, I3, q3⟩ => ?_))))
 exact wpAny_release ⟨σ, H3, I3, q3⟩
def tAsg (te : TE) (g : TG) : TS := fun D σ H => te σ H fun x H1 => g x σ H1 D.nx
theorem ps_asg {tg e : Expr} {te : TE} {g : TG} (he : PE X e te) (hg : PG X tg g) (hs : swapsWithSole [tg] e pos.line X.env = pure false := by rfl) (hw : swappedStores [tg] e X.env = pure none := by rfl)
   (h1 : (assignEach [tg] X.env).map (·.2) = [assign tg X.env] := by rfl) : PS X (.Assign [tg] e pos) (tAsg te g) := by
 intro pins s σ H D I h
 refine wpAny_Assign_stores (thn (he pins s σ H _ I h) fun v s1 ⟨x, H1, I1, r1, q1⟩ => ?_) hs hw
 rw [h1]
 exact thn (hg pins s1 σ H1 x v _ I1 r1 q1) fun _ s2 q => q
theorem ps_set {i : Nat} {x : Str} {e : Expr} {te : TE} {pos' : Pos} (hN : X.N.Nodup) (hi : X.N[i]? = some x) (hx : Loc X.env.scope x) (he : PE X e te) (hs : swapsWith e (some (.Name x pos')) pos.line X.env = pure false := by rfl) (hf : X.fn x = true ∨ X.env.scope.names.lookup x = some .local := by first | exact .inl rfl | exact .inr rfl | assumption) :
   PS X (.Assign [.Name x pos'] e pos) (tAsg te (gName i)) := by
 intro pins s σ H D I h
 refine wpAny_Assign_Name (thn (he pins s σ H _ I h) fun v s1 ⟨y, H1, I1, r1, q1⟩ => ?_) hs
 exact store_ok I1 hN hi hx r1 (fun s2 I2 => ⟨_, H1, I2, q1⟩) hf
end
section
variable {X : Cx} {pos : Pos}
def tWhile (c : TT) (tb : TS) : TS := fun D σ H => ∃ W : Nat → St → Hp → Prop, (∃ m, W m σ H) ∧ ∀ m σ H, W m σ H →
 c σ H fun b H1 => if b = true then ∃ N : St → Hp → Prop, (∀ σ' H', N σ' H' → ∃ m', m' < m ∧ W m' σ' H') ∧ tb { D with nx := N, ct := N, bk := D.nx } σ H1 else D.nx σ H1
theorem ps_while {c : Expr} {body : List Stmt} {tc : TT} {tb : TS} (hp : PassesOwn (model X.prog X.w) X.A X.env X.xe) (hc : PT X c tc) (hb : PSs X body tb) : PS X (.While c body [] pos) (tWhile tc tb) := by
 intro pins s σ H D I h
 obtain ⟨W, ⟨m0, w0⟩, turn⟩ := h
 refine wpAny_While (codeAny_whileLoop (fun n s' => ∃ σ' H', Inv X pins σ' H' s' ∧ W n σ' H') ?_ m0 ⟨σ, H, I, w0⟩)
 rintro n s1 ⟨σ1, H1, I1, w1⟩
 refine wpAny_passesOwn hp (thn (hc pins s1 σ1 H1 _ I1 (turn n σ1 H1 w1)) fun b s2 ⟨H2, I2, q2⟩ => ?_)
 cases b with
 | true =>
   obtain ⟨N, hN, q2⟩ := q2
   rw [if_pos rfl]
   refine wpAny_passesOwn hp (thn (hb pins s2 σ1 H2 _ I2 q2) fun f s3 q3 => ?_)
   cases f with
   | next =>
     obtain ⟨σ3, H3, I3, n3⟩ := q3
     obtain ⟨m', hm, w3⟩ := hN σ3 H3 n3
     exact ⟨m', hm, σ3, H3, I3, w3⟩
   | cont =>
     obtain ⟨σ3, H3, I3, n3⟩ := q3
     obtain ⟨m', hm, w3⟩ := hN σ3 H3 n3
     exact ⟨m', hm, σ3, H3, I3, w3⟩
   | brk => exact q3
   | ret v => exact q3
 | false =>
   rw [if_neg Bool.false_ne_true]
   exact wpAny_execs_nil ⟨σ1, H2, I2, q2⟩
end
structure It where
 go : Nat → Hp → Prop
 yld : Nat → Hp → V → Hp → Prop
 stop : Nat → Hp → Prop
def FpOk (X : Cx) (pins : List (Addr × Obj)) (H : Hp) (b : Addr) : Prop :=
 H b = none ∧ b ≠ X.env.locals ∧ b ∉ X.fs ∧ (b ∈ X.ex ∨ X.s₀.heap.objs.size ≤ b) ∧ (∀ x c, X.env.cells.lookup x = some c → c ≠ b) ∧ ∀ p ∈ X.pn ++ pins, p.1 ≠ b
theorem Inv.fpOk {X : Cx} {pins : List (Addr × Obj)} {σ : St} {H H' : Hp} {s : Shared} {b : Addr} (I : Inv X pins σ H s) (hb : s.heap.objs.size ≤ b) (hn : H' b = none) : FpOk X pins H' b := by
 refine ⟨hn, Nat.ne_of_gt (Nat.lt_of_lt_of_le I.lt hb), I.nofs hb, .inr (Nat.le_trans I.sz hb), fun x c e z => ?_, fun p hp z => ?_⟩
 · obtain ⟨v, q⟩ := I.cell x c e
   exact absurd (Nat.lt_of_lt_of_le q.lt (by rw [z]; exact hb)) (Nat.lt_irrefl _)
 · exact absurd (Nat.lt_of_lt_of_le (Heap.lt_size (I.pin p hp).1) (by rw [z]; exact hb)) (Nat.lt_irrefl _)
structure Turn (P : Program) (w : World) (K : PySem.W.Frag) (tg : Expr) (J : It) (fp : List Addr) (it : Addr) (tn : Nat → Heap → Prop) : Prop where
 mem : it ∈ fp
 obj : ∀ i h, tn i h → ∀ b ∈ fp, ∃ o, h.get? b = some o ∧ ∀ v, o.data ≠ .cell v
 keep : ∀ i h h', tn i h → (∀ b ∈ fp, ∀ o, h.get? b = some o → h'.get? b = some o) → tn i h'
 item : ∀ (X : Cx), X.prog = P → X.w = w → X.K = K → X.calm = true → ∀ (i : Nat) (pins : List (Addr × Obj)) (s : Shared) (σ : St) (H : Hp) (E : Value → Shared → Prop), Inv X pins σ H s → (∀ b ∈ fp, FpOk X pins H b) → tn i s.heap → J.go i H →
   wpAny (model P w) X.A (pyNext (.ref it)) (fun r s1 => ∃ u, r = some u ∧
     wpAny (model P w) X.A (letOwnedTupleGo tg (.ref it) u) (fun _ s2 => ∃ x H', Inv X pins σ H' s2 ∧ RelV x u ∧ J.yld i H x H' ∧ tn (i + 1) s2.heap ∧ ∀ b ∈ fp, H' b = none) E s1) E s
 done : ∀ (X : Cx), X.prog = P → X.w = w → X.K = K → X.calm = true → ∀ (i : Nat) (pins : List (Addr × Obj)) (s : Shared) (σ : St) (H : Hp) (E : Value → Shared → Prop), Inv X pins σ H s → (∀ b ∈ fp, FpOk X pins H b) → tn i s.heap → J.stop i H →
   wpAny (model P w) X.A (pyNext (.ref it)) (fun r s1 => r = none ∧ Inv X pins σ H s1) E s
 self : ∀ (A : Around) (i : Nat) (s : Shared) (Q : Value → Shared → Prop) (E : Value → Shared → Prop), tn i s.heap → Q (.ref it) s → wpAny (model P w) A (pyIter (.ref it)) Q E s
abbrev TI := St → Hp → (It → Hp → Prop) → Prop
def PIE (X : Cx) (pins : List (Addr × Obj)) (σ : St) (tg : Expr) (R : It → Hp → Prop) (itv : Value) (s2 : Shared) : Prop :=
 ∃ (it : Addr) (fp : List Addr) (tn : Nat → Heap → Prop) (J : It) (H' : Hp), itv = .ref it ∧ Inv X pins σ H' s2 ∧ Turn X.prog X.w X.K tg J fp it tn ∧ tn 0 s2.heap ∧ (∀ b ∈ fp, FpOk X pins H' b) ∧ R J H'
def PI (X : Cx) (tg iter : Expr) (wi : TI) : Prop :=
 ∀ (pins : List (Addr × Obj)) (s : Shared) (σ : St) (H : Hp) (R : It → Hp → Prop), Inv X pins σ H s → wi σ H R →
   wpAny (model X.prog X.w) X.A (eval iter X.env) (fun v s1 => wpAny (model X.prog X.w) X.A (pyIter v) (PIE X pins σ tg R) X.xe s1) X.xe s
theorem go_of {M : Model} {A : Around} {E : Value → Shared → Prop} {s : Shared} {tg : Expr} {it : Addr} {u : Value} {o : Obj} {n : String} {vs : Array Value} {Q : Unit → Shared → Prop} (ho : s.heap.get? it = some o) (hc : o.cls = .type n) (hd : o.data = .fields vs)
   (hn : ["enumerate", "zip", "dict_itemiterator", "dict_reverseitemiterator", "odict_iterator", "itertools.zip_longest", "itertools.pairwise"].contains n = false) (hQ : Q () s) : wpAny M A (letOwnedTupleGo tg (.ref it) u) Q E s := by
 unfold letOwnedTupleGo
 cases tg <;> first
   | exact wpAny_pure hQ
   | (cases u <;> first
       | exact wpAny_pure hQ
       | (refine wpAny_bind (wpAny_load ho ?_)
          rw [hc, hd]
          show wpAny M A (if (["enumerate", "zip", "dict_itemiterator", "dict_reverseitemiterator", "odict_iterator", "itertools.zip_longest", "itertools.pairwise"].contains n && vs[0]? == some (rawInt _)) = true then _ else _) Q E s
          rw [if_neg (by intro h; rw [hn, Bool.false_and] at h; cases h)]
          exact wpAny_pure hQ))
def Itl (K : PySem.W.Frag) (a : Addr) : It :=
 ⟨fun i H => ∃ xs x, SqL K H a xs ∧ xs[i]? = some x, fun i H x H' => H' = H ∧ ∀ xs, SqL K H a xs → xs[i]? = some x, fun i H => ∃ xs, SqL K H a xs ∧ xs.length ≤ i⟩
def Itr (lo : Int) (n : Nat) : It := ⟨fun i _ => i < n, fun i H x H' => H' = H ∧ x = .int (lo + i), fun i _ => n ≤ i⟩
theorem turn_list {P : Program} {w : World} {K : PySem.W.Frag} {tg : Expr} (a it : Addr) : Turn P w K tg (Itl K a) [it] it (fun i h => h.IsListIter it a i) where
 mem := by simp
 obj := fun i h st b hb => by
   have e : b = it := by simpa using hb
   subst e
   obtain ⟨o, e, c, d⟩ := st
   exact ⟨o, e, fun v z => by rw [d] at z; cases z⟩
 keep := fun i h h' st k => st.at fun o e => k it (by simp) o e
 item := by
   intro X hP hw hK hc i pins s σ H E I hf st hg
   subst hP hw hK
   obtain ⟨xs, x, hq, hx⟩ := hg
   obtain ⟨its, rv, p, hz⟩ := I.list hq
   obtain ⟨u, hu, ru⟩ := rv.get hx
   obtain ⟨f0, f1, f2, f3, f4, f5⟩ := hf it (by simp)
   refine wpAny_pyNext_list_item st p.isList (x := u) (by simpa using hu) fun h' st' sb => ?_
   have I1 : Inv X pins σ H { s with heap := h' } := I.turned (t' := s.toks) (fun b o hb e => (sb.2 b hb).trans e) f0 f1 f3 f4 f5
   obtain ⟨o, e, c, d⟩ := id st'
   exact ⟨u, rfl, go_of (s := { s with heap := h' }) e c d (by decide) ⟨x, H, I1, ru, ⟨rfl, fun ys hy => by rw [I.list_inj hy hq]; exact hx⟩, st', fun b hb => (hf b hb).1⟩⟩
 done := by
   intro X hP hw hK hc i pins s σ H E I hf st hg
   subst hP hw hK
   obtain ⟨xs, hq, hx⟩ := hg
   obtain ⟨its, rv, p, hz⟩ := I.list hq
   obtain ⟨f0, f1, f2, f3, f4, f5⟩ := hf it (by simp)
   have hl := rv.length
   exact wpAny_pyNext_list_end (I.ok.hd hc) st p.isList (by simp; omega) fun h' eb => ⟨rfl, I.turned (t' := s.toks) (fun b o hb e => eb b o hb e) f0 f1 f3 f4 f5⟩
 self := fun _ _ _ _ _ st h => wpAny_pyIter_listiter st h
theorem turn_range {P : Program} {w : World} {K : PySem.W.Frag} {tg : Expr} (it : Addr) (lo : Int) (n : Nat) : Turn P w K tg (Itr lo n) [it] it (fun i h => IsRangeIter h it (lo + (i : Nat) * 1) ((n : Int) - (i : Nat)) 1) where
 mem := by simp
 obj := fun i h st b hb => by
   have e : b = it := by simpa using hb
   subst e
   exact ⟨_, st, fun v z => by
     have z' : Data.fields _ = Data.cell v := z
     cases z'⟩
 keep := fun i h h' st k => k it (by simp) _ st
 item := by
   intro X hP hw hK hc i pins s σ H E I hf st hg
   subst hP hw hK
   obtain ⟨f0, f1, f2, f3, f4, f5⟩ := hf it (by simp)
   have W := Walks.range (prog := X.prog) (w := X.w) (I.ok.hd hc) it lo 1 n
   refine W.item i s _ _ hg st fun v h' tk hv st' kk => ?_
   obtain ⟨t, rfl⟩ := hv
   have I1 : Inv X pins σ H { s with heap := h', toks := tk } := I.turned (fun b o hb e => kk b o (by simpa using hb) e) f0 f1 f3 f4 f5
   refine ⟨_, rfl, go_of (s := { s with heap := h', toks := tk }) (n := "range_iterator") st' rfl rfl (by decide) ⟨.int (lo + i), H, I1, ⟨t, ?_⟩, ⟨rfl, rfl⟩, st', fun b hb => (hf b hb).1⟩⟩
   rw [Int.mul_one]
 done := by
   intro X hP hw hK hc i pins s σ H E I hf st hg
   subst hP hw hK
   obtain ⟨f0, f1, f2, f3, f4, f5⟩ := hf it (by simp)
   exact wpAny_pyNext_range_end (I.ok.hd hc) st (by have : n ≤ i := hg; omega) fun h' eb => ⟨rfl, I.turned (t' := s.toks) (fun b o hb e => eb b o hb e) f0 f1 f3 f4 f5⟩
 self := fun _ _ _ _ _ st h => wpAny_pyIter_rangeiter st h
end L2
namespace L2
open PySem PySem.Spec PyProof.Rows
section
variable {X : Cx} {tg : Expr}
def iList (K : PySem.W.Frag) (tl : TE) : TI := fun σ H R => tl σ H fun x H1 => ∃ a, x = .ref a ∧ (∃ xs, SqL K H1 a xs) ∧ R (Itl K a) H1
theorem pi_list {l : Expr} {tl : TE} (hl : PE X l tl) : PI X tg l (iList X.K tl) := by
 intro pins s σ H R I h
 refine thn (hl pins s σ H _ I h) fun v s1 ⟨x, H1, I1, r1, q1⟩ => ?_
 obtain ⟨a, e, ⟨xs, hq⟩, q⟩ := q1
 subst e
 cases r1
 obtain ⟨its, rv, p, hz⟩ := I1.list hq
 refine wpAny_pyIter_list p.isList ?_
 refine ⟨s1.heap.objs.size, [s1.heap.objs.size], _, _, H1, rfl, I1.kept (t' := s1.toks) fun b o e => Heap.get?_push_of_some _ e, turn_list a _, ⟨_, Heap.get?_push_size _ rfl, rfl, rfl⟩, fun b hb => ?_, q⟩
 have e : b = s1.heap.objs.size := by simpa using hb
 subst e
 exact I1.fpOk (Nat.le_refl _) (I1.hok.fresh (Nat.le_refl _))
theorem range_it {pins : List (Addr × Obj)} {σ : St} {H : Hp} {s : Shared} {R : It → Hp → Prop} {E : Value → Shared → Prop} {lo hi : Int} {t u v : Tok} {tk : Nat} (I : Inv X pins σ H s) (h1 : -(2 ^ 62) ≤ lo) (h2 : lo < 2 ^ 62) (h3 : -(2 ^ 62) ≤ hi) (h4 : hi < 2 ^ 62)
   (q : R (Itr lo (hi - lo).toNat) H) : wpAny (model X.prog X.w) X.A (pyIter (.ref s.heap.objs.size)) (PIE X pins σ tg R) E { s with heap := s.heap.push { cls := .type "range", data := .fields #[.int lo t, .int hi u, .int 1 v] }, toks := tk } := by
 refine wpAny_pyIter_range (IsRange.new ..) (small_one h1 h2 h3 h4) ?_
 have I1 : Inv X pins σ H { s with heap := s.heap.push { cls := .type "range", data := .fields #[.int lo t, .int hi u, .int 1 v] }, toks := tk } := I.kept fun b o e => Heap.get?_push_of_some _ e
 refine ⟨(s.heap.push { cls := .type "range", data := .fields #[.int lo t, .int hi u, .int 1 v] }).objs.size, [(s.heap.push { cls := .type "range", data := .fields #[.int lo t, .int hi u, .int 1 v] }).objs.size], _, _, H, rfl,
   I1.kept (t' := tk) fun b o e => Heap.get?_push_of_some _ e, turn_range _ lo (hi - lo).toNat, ?_, fun b hb => ?_, q⟩
 · have e1 : lo + ((0 : Nat) : Int) * 1 = lo := by simp
   have e2 : (((hi - lo).toNat : Nat) : Int) - ((0 : Nat) : Int) = Builtin.Range.rangeSize lo hi 1 := by rw [rangeSize_one]; split <;> omega
   show IsRangeIter _ _ (lo + ((0 : Nat) : Int) * 1) ((((hi - lo).toNat : Nat) : Int) - ((0 : Nat) : Int)) 1
   rw [e1, e2]
   exact Heap.get?_push_size _ rfl
 · have e : b = (s.heap.push { cls := .type "range", data := .fields #[.int lo t, .int hi u, .int 1 v] }).objs.size := by simpa using hb
   subst e
   exact I1.fpOk (Nat.le_refl _) (I1.hok.fresh (Nat.le_refl _))
def iRng1 (ta : TA) : TI := fun σ H R => ta σ H fun vs H1 => ∃ j : Int, vs = [.int j] ∧ -(2 ^ 62) ≤ j ∧ j < 2 ^ 62 ∧ R (Itr 0 j.toNat) H1
theorem pi_range1 {a : Expr} {ta : TA} {p pos : Pos} (hg : Gl X "range") (hm : X.mg "range" = none) (ha : PA X [a] ta) (hs : starEach [a] X.env = [(false, eval a X.env)] := by rfl) : PI X tg (.Call (.Name "range" p) [a] [] pos) (iRng1 ta) := by
 intro pins s σ H R I h
 refine Call_ (ld_blt I hg hm boot_range (PyProof.Rows.callWith_type1 (thn (ha pos pins s σ H _ I h) fun us s1 ⟨vs, H1, I1, r1, q1⟩ => ?_) hs rfl))
 obtain ⟨j, e, q1, q2, q⟩ := q1
 subst e
 cases r1 with
 | cons r rr =>
   cases rr
   obtain ⟨t, rfl⟩ := r
   exact call_range_1 (range_it I1 (by omega) (by omega) q1 q2 (by simpa using q))
def tFor (wi : TI) (g : TG) (tb : TS) : TS := fun D σ H => wi σ H fun J H1 => ∃ W : Nat → Nat → St → Hp → Prop, (∃ m, W 0 m σ H1) ∧ ∀ i m σ H, W i m σ H →
 (J.stop i H ∧ D.nx σ H) ∨ (J.go i H ∧ ∃ N : St → Hp → Prop, (∀ σ' H', N σ' H' → ∃ m', m' < m ∧ W (i + 1) m' σ' H') ∧ ∀ x H', J.yld i H x H' → g x σ H' fun σ2 H2 => tb { D with nx := N, ct := N, bk := D.nx } σ2 H2)
def pinsAt (fp : List Addr) (h : Heap) : List (Addr × Obj) := fp.filterMap fun b => (h.get? b).map fun o => (b, o)
theorem mem_pinsAt {fp : List Addr} {h : Heap} {b : Addr} {o : Obj} (hb : b ∈ fp) (e : h.get? b = some o) : (b, o) ∈ pinsAt fp h := List.mem_filterMap.mpr ⟨b, hb, by rw [e]; rfl⟩
theorem of_pinsAt {fp : List Addr} {h : Heap} {p : Addr × Obj} (hp : p ∈ pinsAt fp h) : p.1 ∈ fp ∧ h.get? p.1 = some p.2 := by
 obtain ⟨b, hb, e⟩ := List.mem_filterMap.mp hp
 cases q : h.get? b with
 | none => rw [q] at e; cases e
 | some o =>
   rw [q] at e
   have e' : (b, o) = p := Option.some.inj e
   subst e'
   exact ⟨hb, q⟩
theorem Inv.pinned {pins : List (Addr × Obj)} {σ : St} {H : Hp} {s : Shared} {fp : List Addr} (I : Inv X pins σ H s) (hf : ∀ b ∈ fp, FpOk X pins H b) (ho : ∀ b ∈ fp, ∃ o, s.heap.get? b = some o ∧ ∀ v, o.data ≠ .cell v) : Inv X (pins ++ pinsAt fp s.heap) σ H s :=
 I.pins_of fun p hp => (List.mem_append.mp hp).elim (fun z => I.pin p (List.mem_append_right _ z)) fun z => by
   obtain ⟨hb, e⟩ := of_pinsAt z
   obtain ⟨f0, f1, f2, _⟩ := hf p.1 hb
   obtain ⟨o, e', d⟩ := ho p.1 hb
   rw [e] at e'; cases e'
   exact ⟨e, f0, f1, f2, d⟩
theorem Inv.unpinned {pins pl : List (Addr × Obj)} {σ : St} {H : Hp} {s : Shared} (I : Inv X (pins ++ pl) σ H s) : Inv X pins σ H s := I.pins_of fun p hp => I.pin p (List.mem_append_right _ (List.mem_append_left _ hp))
theorem ps_for {iter : Expr} {body : List Stmt} {wi : TI} {g : TG} {tb : TS} {pos : Pos} (hp : PassesOwn (model X.prog X.w) X.A X.env X.xe) (hc : X.calm = true) (hi : PI X tg iter wi) (hg : PG X tg g) (hb : PSs X body tb)
   (hs : ∀ x, foldedSetIterable iter X.env x = pure x := by intro _; rfl) : PS X (.For tg iter body [] pos) (tFor wi g tb) := by
 intro pins s σ H D I h
 refine wpAny_For (thn (hi pins s σ H _ I h) fun v s1 h1 => thn h1 fun itv s2 h2 => ?_) hs
 obtain ⟨it, fp, tn, J, H2, e, I2, T, st2, f2, W, ⟨m0, w0⟩, turn⟩ := h2
 subst e
 -- what stays true of the iterator's objects through the loop
 have stat : ∀ {H' : Hp}, (∀ b ∈ fp, H' b = none) → ∀ b ∈ fp, FpOk X pins H' b := fun hn b hb => ⟨hn b hb, (f2 b hb).2⟩
 refine codeAny_forLoop_any (fun n s' => ∃ i σ' H', Inv X pins σ' H' s' ∧ tn i s'.heap ∧ (∀ b ∈ fp, H' b = none) ∧ W i n σ' H') ?_ m0 ⟨0, σ, H2, I2, st2, fun b hb => (f2 b hb).1, w0⟩
 rintro n s3 ⟨i, σ3, H3, I3, st3, fr3, w3⟩
 rcases turn i n σ3 H3 w3 with ⟨stop, qn⟩ | ⟨go, N, hN, step⟩
 · refine wpAny_passesOwn hp (thn (T.done X rfl rfl rfl hc i pins s3 σ3 H3 X.xe I3 (stat fr3) st3 stop) fun r s4 ⟨hr, I4⟩ => ?_)
   subst hr
   exact wpAny_execs_nil ⟨σ3, H3, I4, qn⟩
 · refine wpAny_passesOwn hp (thn (T.item X rfl rfl rfl hc i pins s3 σ3 H3 X.xe I3 (stat fr3) st3 go) fun r s4 ⟨u, hr, h4⟩ => ?_)
   subst hr
   refine wpAny_passesOwn hp (thn h4 fun _ s5 ⟨x, H5, I5, r5, y5, st5, fr5⟩ => ?_)
   have I5' := I5.pinned (stat fr5) (T.obj _ _ st5)
   refine wpAny_passesOwn hp (thn (hg _ s5 σ3 H5 x u _ I5' r5 (step x H5 y5)) fun _ s6 ⟨σ6, H6, I6, q6⟩ => ?_)
   refine wpAny_passesOwn hp (thn (hb _ s6 σ6 H6 _ I6 q6) fun f s7 q7 => ?_)
   have again : ∀ {σ7 : St} {H7 : Hp}, Inv X (pins ++ pinsAt fp s5.heap) σ7 H7 s7 → N σ7 H7 → ∃ m, m < n ∧ ∃ i σ' H', Inv X pins σ' H' s7 ∧ tn i s7.heap ∧ (∀ b ∈ fp, H' b = none) ∧ W i m σ' H' := fun {σ7 H7} I7 n7 => by
     obtain ⟨m', hm, w7⟩ := hN σ7 H7 n7
     refine ⟨m', hm, i + 1, σ7, H7, I7.unpinned, T.keep _ _ _ st5 fun b hb o e => (I7.pin (b, o) (List.mem_append_right _ (List.mem_append_right _ (mem_pinsAt hb e)))).1, fun b hb => ?_, w7⟩
     obtain ⟨o, e, d⟩ := T.obj _ _ st5 b hb
     exact (I7.pin (b, o) (List.mem_append_right _ (List.mem_append_right _ (mem_pinsAt hb e)))).2.1
   cases f with
   | next => obtain ⟨σ7, H7, I7, n7⟩ := q7; exact again I7 n7
   | cont => obtain ⟨σ7, H7, I7, n7⟩ := q7; exact again I7 n7
   | brk => obtain ⟨σ7, H7, I7, q7⟩ := q7; exact ⟨σ7, H7, I7.unpinned, q7⟩
   | ret v => obtain ⟨x7, σ7, H7, I7, r7, q7⟩ := q7; exact ⟨x7, σ7, H7, I7.unpinned, r7, q7⟩
end
theorem for_list {K : PySem.W.Frag} {a : Addr} {xs : List V} {g : TG} {tb : TS} {D : Ends} {σ : St} {H : Hp} (Pv : Nat → St → Hp → Prop) (h0 : Pv 0 σ H) (hl : ∀ i σ H, i ≤ xs.length → Pv i σ H → SqL K H a xs)
   (hs : ∀ i x σ H, xs[i]? = some x → Pv i σ H → g x σ H fun σ2 H2 => tb { D with nx := Pv (i + 1), ct := Pv (i + 1), bk := D.nx } σ2 H2) (hd : ∀ σ H, Pv xs.length σ H → D.nx σ H) :
   ∃ W : Nat → Nat → St → Hp → Prop, (∃ m, W 0 m σ H) ∧ ∀ i m σ H, W i m σ H →
     ((Itl K a).stop i H ∧ D.nx σ H) ∨ ((Itl K a).go i H ∧ ∃ N : St → Hp → Prop, (∀ σ' H', N σ' H' → ∃ m', m' < m ∧ W (i + 1) m' σ' H') ∧ ∀ x H', (Itl K a).yld i H x H' → g x σ H' fun σ2 H2 => tb { D with nx := N, ct := N, bk := D.nx } σ2 H2) := by
 refine ⟨fun i m σ H => m = xs.length - i ∧ i ≤ xs.length ∧ Pv i σ H, ⟨xs.length, by simp, Nat.zero_le _, h0⟩, ?_⟩
 rintro i m σ H ⟨rfl, hi, p⟩
 have q := hl i σ H hi p
 by_cases hlt : i < xs.length
 · refine .inr ⟨⟨xs, xs[i], q, by simp [hlt]⟩, Pv (i + 1), fun σ' H' p' => ⟨xs.length - (i + 1), by omega, rfl, hlt, p'⟩, fun x H' y => ?_⟩
   obtain ⟨e, y⟩ := y
   subst e
   exact hs i x σ _ (y xs q) p
 · have e : i = xs.length := by omega
   subst e
   exact .inl ⟨⟨xs, q, Nat.le_refl _⟩, hd σ H p⟩
theorem for_range {lo : Int} {n : Nat} {g : TG} {tb : TS} {D : Ends} {σ : St} {H : Hp} (Pv : Nat → St → Hp → Prop) (h0 : Pv 0 σ H)
   (hs : ∀ i σ H, i < n → Pv i σ H → g (.int (lo + i)) σ H fun σ2 H2 => tb { D with nx := Pv (i + 1), ct := Pv (i + 1), bk := D.nx } σ2 H2) (hd : ∀ σ H, Pv n σ H → D.nx σ H) :
   ∃ W : Nat → Nat → St → Hp → Prop, (∃ m, W 0 m σ H) ∧ ∀ i m σ H, W i m σ H →
     ((Itr lo n).stop i H ∧ D.nx σ H) ∨ ((Itr lo n).go i H ∧ ∃ N : St → Hp → Prop, (∀ σ' H', N σ' H' → ∃ m', m' < m ∧ W (i + 1) m' σ' H') ∧ ∀ x H', (Itr lo n).yld i H x H' → g x σ H' fun σ2 H2 => tb { D with nx := N, ct := N, bk := D.nx } σ2 H2) := by
 refine ⟨fun i m σ H => m = n - i ∧ i ≤ n ∧ Pv i σ H, ⟨n, by simp, Nat.zero_le _, h0⟩, ?_⟩
 rintro i m σ H ⟨rfl, hi, p⟩
 by_cases hlt : i < n
 · refine .inr ⟨hlt, Pv (i + 1), fun σ' H' p' => ⟨n - (i + 1), by omega, rfl, hlt, p'⟩, fun x H' y => ?_⟩
   obtain ⟨e, y⟩ := y
   subst e y
   exact hs i σ _ hlt p
 · have e : i = n := by omega
   subst e
   exact .inl ⟨Nat.le_refl _, hd σ H p⟩
theorem while_by {c : TT} {tb : TS} {D : Ends} {σ : St} {H : Hp} (Pv : St → Hp → Prop) (μ : St → Hp → Nat) (h0 : Pv σ H)
   (hs : ∀ σ H, Pv σ H → c σ H fun b H1 => if b = true then tb { D with nx := fun σ' H' => Pv σ' H' ∧ μ σ' H' < μ σ H, ct := fun σ' H' => Pv σ' H' ∧ μ σ' H' < μ σ H, bk := D.nx } σ H1 else D.nx σ H1)
   (mono : ∀ σ H Q Q', (∀ b H1, Q b H1 → Q' b H1) → c σ H Q → c σ H Q') : tWhile c tb D σ H := by
 refine ⟨fun m σ H => m = μ σ H ∧ Pv σ H, ⟨_, rfl, h0⟩, ?_⟩
 rintro m σ H ⟨rfl, p⟩
 refine mono σ H _ _ (fun b H1 q => ?_) (hs σ H p)
 cases b with
 | true => exact ⟨_, fun σ' H' ⟨p', l⟩ => ⟨_, l, rfl, p'⟩, q⟩
 | false => exact q
end L2
namespace L2
open PySem PySem.Spec PyProof.Rows
abbrev R2 := V → V → Hp → VK → Prop
def OpR (X : Cx) (f : Value → Value → Sem Value) (r : R2) : Prop :=
 ∀ (pins : List (Addr × Obj)) (s : Shared) (σ : St) (H : Hp) (x y : V) (v u : Value) (Q : VK), Inv X pins σ H s → RelV x v → RelV y u → r x y H Q →
   wpAny (model X.prog X.w) X.A (f v u) (EP X pins σ Q) X.xe s
def UnR (X : Cx) (f : Value → Sem Value) (r : V → Hp → VK → Prop) : Prop :=
 ∀ (pins : List (Addr × Obj)) (s : Shared) (σ : St) (H : Hp) (x : V) (v : Value) (Q : VK), Inv X pins σ H s → RelV x v → r x H Q →
   wpAny (model X.prog X.w) X.A (f v) (EP X pins σ Q) X.xe s
def CallR (X : Cx) (f : Value) (r : List V → Hp → VK → Prop) : Prop :=
 ∀ (pins : List (Addr × Obj)) (s : Shared) (σ : St) (H : Hp) (xs : List V) (us : List Value) (Q : VK), Inv X pins σ H s → Vals xs us → r xs H Q →
   wpAny (model X.prog X.w) X.A (call f us) (EP X pins σ Q) X.xe s
def tOp (r : R2) (ta tb : TE) : TE := fun σ H Q => ta σ H fun x H1 => tb σ H1 fun y H2 => r x y H2 Q
def tUn (r : V → Hp → VK → Prop) (ta : TE) : TE := fun σ H Q => ta σ H fun x H1 => r x H1 Q
def rI (C : Int → Int → Prop) (g : Int → Int → V) : R2 := fun x y H Q => ∃ i j, x = .int i ∧ y = .int j ∧ C i j ∧ Q (g i j) H
def rI0 (g : Int → Int → V) : R2 := fun x y H Q => ∃ i j, x = .int i ∧ y = .int j ∧ Q (g i j) H
def rU (g : Int → V) : V → Hp → VK → Prop := fun x H Q => ∃ i, x = .int i ∧ Q (g i) H
section
variable {X : Cx} {a b c : Expr} {ta tb tc : TE} {pos : Pos}
theorem binT (ha : PE X a ta) (hb : PE X b tb) {pins : List (Addr × Obj)} {s : Shared} {σ : St} {H : Hp} {R : V → V → Hp → Prop} (I : Inv X pins σ H s)
   (h : ta σ H fun x H1 => tb σ H1 fun y H2 => R x y H2) {Q : Value → Shared → Prop} {f : Value → Value → Sem Value}
   (hf : ∀ v u s2 x y H2, Inv X pins σ H2 s2 → RelV x v → RelV y u → R x y H2 → wpAny (model X.prog X.w) X.A (f v u) Q X.xe s2) :
   wpAny (model X.prog X.w) X.A (eval a X.env) (fun v s₁ => wpAny (model X.prog X.w) X.A (eval b X.env) (fun u s₂ => wpAny (model X.prog X.w) X.A (f v u) Q X.xe s₂) X.xe s₁) X.xe s := by
 refine thn (ha pins s σ H _ I h) fun v s1 ⟨x, H1, I1, r1, q1⟩ => ?_
 refine thn (hb pins s1 σ H1 _ I1 q1) fun u s2 ⟨y, H2, I2, r2, q2⟩ => ?_
 exact hf v u s2 x y H2 I2 r1 r2 q2
theorem pe_op {op : Operator} {r : R2} (ho : OpR X (binaryOp op) r) (ha : PE X a ta) (hb : PE X b tb) : PE X (.BinOp a op b pos) (tOp r ta tb) := by
 intro pins s σ H Q I h
 exact wpAny_BinOp (binT ha hb I h fun v u s2 x y H2 I2 rx ry q => ho pins s2 σ H2 x y v u Q I2 rx ry q)
theorem pe_un {op : UnaryOp} {r : V → Hp → VK → Prop} (ho : UnR X (unaryOp op) r) (ha : PE X a ta) : PE X (.UnaryOp op a pos) (tUn r ta) := by
 intro pins s σ H Q I h
 exact UnaryOp_ (thn (ha pins s σ H _ I h) fun v s1 ⟨x, H1, I1, r1, q1⟩ => ho pins s1 σ H1 x v Q I1 r1 q1)
theorem opI {f : Value → Value → Sem Value} {C : Int → Int → Prop} {g : Int → Int → Int}
   (rule : ∀ (i j : Int) (t u : Tok) (s : Shared) (Q : Value → Shared → Prop) (E : Value → Shared → Prop), C i j → Q (.int (g i j) s.toks) { s with toks := s.toks + 1 } → wpAny (model X.prog X.w) X.A (f (.int i t) (.int j u)) Q E s) :
   OpR X f (rI C fun i j => .int (g i j)) := by
 intro pins s σ H x y v u Q I rx ry h
 obtain ⟨i, j, rfl, rfl, hc, q⟩ := h
 obtain ⟨t, rfl⟩ := rx
 obtain ⟨t', rfl⟩ := ry
 exact rule i j t t' s _ _ hc ⟨.int (g i j), H, I.tok _, ⟨_, rfl⟩, q⟩
theorem opI0 {f : Value → Value → Sem Value} {g : Int → Int → Int}
   (rule : ∀ (i j : Int) (t u : Tok) (s : Shared) (Q : Value → Shared → Prop) (E : Value → Shared → Prop), Q (.int (g i j) s.toks) { s with toks := s.toks + 1 } → wpAny (model X.prog X.w) X.A (f (.int i t) (.int j u)) Q E s) :
   OpR X f (rI0 fun i j => .int (g i j)) := by
 intro pins s σ H x y v u Q I rx ry h
 obtain ⟨i, j, rfl, rfl, q⟩ := h
 obtain ⟨t, rfl⟩ := rx
 obtain ⟨t', rfl⟩ := ry
 exact rule i j t t' s _ _ ⟨.int (g i j), H, I.tok _, ⟨_, rfl⟩, q⟩
theorem opB0 {f : Value → Value → Sem Value} {g : Int → Int → Bool}
   (rule : ∀ (i j : Int) (t u : Tok) (s : Shared) (Q : Value → Shared → Prop) (E : Value → Shared → Prop), Q (.bool (g i j)) s → wpAny (model X.prog X.w) X.A (f (.int i t) (.int j u)) Q E s) :
   OpR X f (rI0 fun i j => .bl (g i j)) := by
 intro pins s σ H x y v u Q I rx ry h
 obtain ⟨i, j, rfl, rfl, q⟩ := h
 obtain ⟨t, rfl⟩ := rx
 obtain ⟨t', rfl⟩ := ry
 exact rule i j t t' s _ _ ⟨.bl (g i j), H, I, rfl, q⟩
def CDiv (i j : Int) : Prop := 0 < j ∧ j < 1073741824
def CPow (i j : Int) : Prop := 0 ≤ j ∧ j ≤ 1000000 ∧ i.natAbs < 2 ^ 64
def CMul (i j : Int) : Prop := (-(2 ^ 64) < i ∧ i < 2 ^ 64) ∨ (-(2 ^ 64) < j ∧ j < 2 ^ 64)
theorem CMul.ok {i j : Int} (h : CMul i j) : IntMulOk i j := by
 rcases h with ⟨h1, h2⟩ | ⟨h1, h2⟩
 · exact .of_left (intBits_le_64 h1 h2)
 · exact .of_right (intBits_le_64 h1 h2)
theorem op_add : OpR X (binaryOp .Add) (rI0 fun i j => .int (i + j)) := opI0 fun _ _ _ _ _ _ _ q => add_int q
theorem op_sub : OpR X (binaryOp .Sub) (rI0 fun i j => .int (i - j)) := opI0 fun _ _ _ _ _ _ _ q => sub_int q
theorem op_fdiv : OpR X (binaryOp .FloorDiv) (rI CDiv fun i j => .int (i / j)) := opI fun i j _ _ _ _ _ hc q => by
 have h1 : (0 : Int) < j := hc.1
 have h2 : j < 1073741824 := hc.2
 exact floordiv_int (by omega) (by rw [Int.fdiv_eq_ediv_of_nonneg i (by omega)]; exact q) (.inl (PyProof.noPylong_small (by omega)))
theorem op_mod : OpR X (binaryOp .Mod) (rI (fun _ j => 0 < j) fun i j => .int (i % j)) := opI fun i j _ _ _ _ _ hc q => by
 have h1 : (0 : Int) < j := hc
 exact mod_int' (by omega) (by rw [Int.fmod_eq_emod_of_nonneg i (by omega)]; exact q)
theorem op_modN : OpR X (binaryOp .Mod) (rI (fun _ j => j ≠ 0) fun i j => .int (i.fmod j)) := opI fun _ _ _ _ _ _ _ hc q => mod_int' hc q
theorem op_pow : OpR X (binaryOp .Pow) (rI CPow fun i j => .int (i ^ j.toNat)) := opI fun _ _ _ _ _ _ _ hc q => pow_int_small hc.1 hc.2.1 hc.2.2 q
theorem unI {f : Value → Sem Value} {g : Int → Int}
   (rule : ∀ (i : Int) (t : Tok) (s : Shared) (Q : Value → Shared → Prop) (E : Value → Shared → Prop), Q (.int (g i) s.toks) { s with toks := s.toks + 1 } → wpAny (model X.prog X.w) X.A (f (.int i t)) Q E s) :
   UnR X f (rU fun i => .int (g i)) := by
 intro pins s σ H x v Q I rx h
 obtain ⟨i, rfl, q⟩ := h
 obtain ⟨t, rfl⟩ := rx
 exact rule i t s _ _ ⟨.int (g i), H, I.tok _, ⟨_, rfl⟩, q⟩
theorem un_neg : UnR X (unaryOp .USub) (rU fun i => .int (-i)) := unI fun _ _ _ _ _ q => neg_int q
end
def scal : V → V → Bool
 | .non, .non => true | .non, .int _ => true | .int _, .non => true | .non, .bl _ => true | .bl _, .non => true | .non, .str _ => true | .str _, .non => true
 | .int _, .int _ => true | .bl _, .bl _ => true | .str _, .str _ => true | .byt _, .byt _ => true
 | .int _, .str _ => true | .str _, .int _ => true | .bl _, .str _ => true | .str _, .bl _ => true
 | _, _ => false
def rEq : R2 := fun x y H Q => scal x y = true ∧ Q (.bl (decide (x = y))) H
def rNe : R2 := fun x y H Q => scal x y = true ∧ Q (.bl (!decide (x = y))) H
theorem dec_int {i j : Int} : decide (V.int i = V.int j) = (i == j) := by
 rw [Bool.eq_iff_iff]
 simp
theorem dec_bl {i j : Bool} : decide (V.bl i = V.bl j) = (i == j) := by
 rw [Bool.eq_iff_iff]
 simp
theorem dec_str {i j : Str} : decide (V.str i = V.str j) = (i == j) := by
 rw [Bool.eq_iff_iff]
 simp
theorem dec_byt {i j : Array UInt8} : decide (V.byt i = V.byt j) = (i.toList == j.toList) := by
 rw [Bool.eq_iff_iff]
 cases i
 cases j
 simp
section
variable {X : Cx} {a b c : Expr} {ta tb tc : TE} {pos : Pos}
theorem fin_bl {pins : List (Addr × Obj)} {σ : St} {H : Hp} {s : Shared} {Q : VK} {k k' : Bool} (I : Inv X pins σ H s) (q : Q (.bl k) H) (e : k = k') : EP X pins σ Q (.bool k') s := by
 subst e
 exact ⟨.bl k, H, I, rfl, q⟩
theorem op_eq : OpR X (compareOp .Eq) rEq := by
 intro pins s σ H x y v u Q I rx ry h
 obtain ⟨hs, q⟩ := h
 cases x with
 | non =>
   cases rx
   cases y with
   | non => cases ry; exact PySem.EqNone.eq_none_none (fin_bl I q (by simp))
   | bl j => cases ry; exact PySem.EqNone.eq_none_bool (fin_bl I q (by simp))
   | int j => obtain ⟨t', rfl⟩ := ry; exact PySem.EqNone.eq_none_int (fin_bl I q (by simp))
   | str j => obtain ⟨t', rfl⟩ := ry; exact PySem.EqNone.eq_none_str (fin_bl I q (by simp))
   | _ => exact absurd (show false = true from hs) Bool.false_ne_true
 | bl i =>
   cases rx
   cases y with
   | non => cases ry; exact PySem.EqNone.eq_bool_none (fin_bl I q (by simp))
   | bl j => cases ry; exact eq_bool (fin_bl I q dec_bl)
   | str j => obtain ⟨t', rfl⟩ := ry; exact PySem.EqMixed.eq_bool_str (fin_bl I q (by simp))
   | _ => exact absurd (show false = true from hs) Bool.false_ne_true
 | int i =>
   obtain ⟨t, rfl⟩ := rx
   cases y with
   | non => cases ry; exact PySem.EqNone.eq_int_none (fin_bl I q (by simp))
   | int j => obtain ⟨t', rfl⟩ := ry; exact eq_int (fin_bl I q dec_int)
   | str j => obtain ⟨t', rfl⟩ := ry; exact PySem.EqMixed.eq_int_str (fin_bl I q (by simp))
   | _ => exact absurd (show false = true from hs) Bool.false_ne_true
 | str i =>
   obtain ⟨t, rfl⟩ := rx
   cases y with
   | non => cases ry; exact PySem.EqNone.eq_str_none (fin_bl I q (by simp))
   | bl j => cases ry; exact PySem.EqMixed.eq_str_bool (fin_bl I q (by simp))
   | int j => obtain ⟨t', rfl⟩ := ry; exact PySem.EqMixed.eq_str_int (fin_bl I q (by simp))
   | str j => obtain ⟨t', rfl⟩ := ry; exact eq_str (fin_bl I q dec_str)
   | _ => exact absurd (show false = true from hs) Bool.false_ne_true
 | byt i =>
   obtain ⟨t, rfl⟩ := rx
   cases y with
   | byt j => obtain ⟨t', rfl⟩ := ry; exact PySem.W.eq_bytes (fin_bl I q dec_byt)
   | _ => exact absurd (show false = true from hs) Bool.false_ne_true
 | _ => cases y <;> exact absurd (show false = true from hs) Bool.false_ne_true
theorem op_ne : OpR X (compareOp .NotEq) rNe := by
 intro pins s σ H x y v u Q I rx ry h
 obtain ⟨hs, q⟩ := h
 cases x with
 | non =>
   cases rx
   cases y with
   | non => cases ry; exact PySem.EqNone.ne_none_none (fin_bl I q (by simp))
   | bl j => cases ry; exact PySem.EqNone.ne_none_bool (fin_bl I q (by simp))
   | int j => obtain ⟨t', rfl⟩ := ry; exact PySem.EqNone.ne_none_int (fin_bl I q (by simp))
   | str j => obtain ⟨t', rfl⟩ := ry; exact PySem.EqNone.ne_none_str (fin_bl I q (by simp))
   | _ => exact absurd (show false = true from hs) Bool.false_ne_true
 | bl i =>
   cases rx
   cases y with
   | non => cases ry; exact PySem.EqNone.ne_bool_none (fin_bl I q (by simp))
   | bl j => cases ry; exact ne_bool (fin_bl I q (congrArg not dec_bl))
   | str j => obtain ⟨t', rfl⟩ := ry; exact PySem.EqMixed.ne_bool_str (fin_bl I q (by simp))
   | _ => exact absurd (show false = true from hs) Bool.false_ne_true
 | int i =>
   obtain ⟨t, rfl⟩ := rx
   cases y with
   | non => cases ry; exact PySem.EqNone.ne_int_none (fin_bl I q (by simp))
   | int j => obtain ⟨t', rfl⟩ := ry; exact ne_int (fin_bl I q (congrArg not dec_int))
   | str j => obtain ⟨t', rfl⟩ := ry; exact PySem.EqMixed.ne_int_str (fin_bl I q (by simp))
   | _ => exact absurd (show false = true from hs) Bool.false_ne_true
 | str i =>
   obtain ⟨t, rfl⟩ := rx
   cases y with
   | non => cases ry; exact PySem.EqNone.ne_str_none (fin_bl I q (by simp))
   | bl j => cases ry; exact PySem.EqMixed.ne_str_bool (fin_bl I q (by simp))
   | int j => obtain ⟨t', rfl⟩ := ry; exact PySem.EqMixed.ne_str_int (fin_bl I q (by simp))
   | str j => obtain ⟨t', rfl⟩ := ry; exact ne_str (fin_bl I q (congrArg not dec_str))
   | _ => exact absurd (show false = true from hs) Bool.false_ne_true
 | byt i =>
   obtain ⟨t, rfl⟩ := rx
   cases y with
   | byt j => obtain ⟨t', rfl⟩ := ry; exact PySem.W.ne_bytes (fin_bl I q (congrArg not dec_byt))
   | _ => exact absurd (show false = true from hs) Bool.false_ne_true
 | _ => cases y <;> exact absurd (show false = true from hs) Bool.false_ne_true
theorem op_lt : OpR X (compareOp .Lt) (rI0 fun i j => .bl (decide (i < j))) := opB0 fun _ _ _ _ _ _ _ q => lt_int q
theorem op_gt : OpR X (compareOp .Gt) (rI0 fun i j => .bl (decide (j < i))) := opB0 fun _ _ _ _ _ _ _ q => gt_int q
theorem op_notN : OpR X (compareOp .IsNot) (fun x y H Q => y = .non ∧ Q (.bl (!decide (x = .non))) H) := by
 intro pins s σ H x y v u Q I rx ry h
 obtain ⟨rfl, q⟩ := h
 cases ry
 refine isnot_none_gen (fin_bl I q ?_)
 cases x <;> first
   | (cases rx; rfl)
   | (obtain ⟨t, rfl⟩ := rx; rfl)
theorem OpR.or {f : Value → Value → Sem Value} {r r' : R2} (h : OpR X f r) (h' : OpR X f r') : OpR X f (fun x y H Q => r x y H Q ∨ r' x y H Q) := by
 intro pins s σ H x y v u Q I rx ry q
 rcases q with q | q
 · exact h pins s σ H x y v u Q I rx ry q
 · exact h' pins s σ H x y v u Q I rx ry q
theorem nomark (b : Expr) {op : CmpOp} (h : op ≠ .In := by decide) (h2 : op ≠ .NotIn := by decide) : behindInMarks op b = false := by
 have e1 : (op == CmpOp.In) = false := by cases op <;> first | rfl | exact absurd rfl h
 have e2 : (op == CmpOp.NotIn) = false := by cases op <;> first | rfl | exact absurd rfl h2
 cases b <;> simp [behindInMarks, e1, e2]
theorem pe_cmpR {op : CmpOp} {r : R2} (ho : OpR X (compareOp op) r) (ha : PE X a ta) (hb : PE X b tb) (hm : behindInMarks op b = false) : PE X (.Compare a [op] [b] pos) (tOp r ta tb) := by
 intro pins s σ H Q I h
 exact wpAny_Compare1 (binT ha hb I h fun v u s2 x y H2 I2 rx ry q => ho pins s2 σ H2 x y v u Q I2 rx ry q) hm
def tTest (t : TE) : TT := fun σ H Q => t σ H fun x H' => ∃ k, x = .bl k ∧ Q k H'
theorem pt_cmpR {op : CmpOp} {r : R2} (ho : OpR X (compareOp op) r) (ha : PE X a ta) (hb : PE X b tb) (hm : behindInMarks op b = false) : PT X (.Compare a [op] [b] pos) (tTest (tOp r ta tb)) := by
 intro pins s σ H Q I h
 refine wpAny_isTrue_Compare1 (thn (ha pins s σ H _ I h) fun v s1 ⟨x, H1, I1, r1, q1⟩ => thn (hb pins s1 σ H1 _ I1 q1) fun u s2 ⟨y, H2, I2, r2, q2⟩ =>
   thn (ho pins s2 σ H2 x y v u _ I2 r1 r2 q2) fun c s3 ⟨z, H3, I3, r3, k, e, q3⟩ => ?_) hm
 subst e
 cases r3
 exact wpAny_truthy_bool ⟨H3, I3, q3⟩
theorem line63 : (sizeLine : Nat) < 2 ^ 63 := by rw [sizeLine_eq]; decide
theorem vals1 {x : V} {us : List Value} (r : Vals [x] us) : ∃ u, us = [u] ∧ RelV x u := by
 cases r with
 | cons r1 r2 => cases r2; exact ⟨_, rfl, r1⟩
theorem call_int1 : CallR X (.type "int") (fun xs H Q => (∃ i, xs = [.int i] ∧ Q (.int i) H) ∨ ∃ k, xs = [.bl k] ∧ Q (.int (if k then 1 else 0)) H) := by
 intro pins s σ H xs us Q I r h
 rcases h with ⟨i, rfl, q⟩ | ⟨k, rfl, q⟩
 · obtain ⟨u, rfl, t, rfl⟩ := vals1 r
   exact call_int_int ⟨.int i, H, I, ⟨_, rfl⟩, q⟩
 · obtain ⟨u, rfl, r1⟩ := vals1 r
   cases r1
   exact call_int_bool ⟨.int (if k then 1 else 0), H, I.tok _, ⟨_, rfl⟩, q⟩
end
end L2
namespace L2
open PySem PySem.Spec PyProof.Rows
structure ObjM (h : Heap) (x dx C : Addr) (mA : Str → Option Value) : Prop where
 obj : h.get? x = some (PySem.W.instObj C dx)
 ns : h.Ns1 dx mA
 ne : dx ≠ x
theorem lookIn_ns {h : Heap} {dx : Addr} {mA : Str → Option Value} (n : h.Ns1 dx mA) : ∃ od, h.get? dx = some od ∧ ∀ name, PySem.W.lookIn name od = some (mA name) := by
 obtain ⟨o, es, ep, ho, hd, hk, _, hm⟩ := n
 refine ⟨o, ho, fun name => ?_⟩
 have e := hm name
 unfold nsFind findBy at e
 rw [← Array.find?_toList] at e
 unfold PySem.W.lookIn
 rw [hd]
 dsimp only
 split
 · rename_i y q
   rw [q] at e
   exact congrArg some e
 · rename_i q
   rw [q] at e
   have a : es.toList.any (·.refKey) = false := by
     rw [List.any_eq_false]
     intro y hy
     obtain ⟨z, t, hkey⟩ := hk y (Array.mem_toList_iff.mp hy)
     simp [DictEntry.refKey, hkey]
   have a' : ¬ es.toList.any (·.refKey) = true := by rw [a]; exact Bool.false_ne_true
   rw [if_neg a']
   exact congrArg some e
theorem ObjM.look {h : Heap} {x dx C : Addr} {mA : Str → Option Value} (I : ObjM h x dx C mA) : ∃ od, PySem.W.InstAt h x (PySem.W.instObj C dx) C (some od) ∧ ∀ name, PySem.W.lookIn name od = some (mA name) :=
 let ⟨od, ho, hl⟩ := lookIn_ns I.ns
 ⟨od, ⟨I.obj, rfl, rfl, ho⟩, hl⟩
section
variable {prog : Program} {w : World} {A : Around} {E : Value → Shared → Prop} {s : Shared} {K : PySem.W.Frag} {x dx C f : Addr} {mA : Str → Option Value} {name : Str} {v : Value}
end
def putF (f : Str) (v : V) : List (Str × V) → List (Str × V)
 | [] => [(f, v)]
 | (g, x) :: r => if g = f then (g, v) :: r else (g, x) :: putF f v r
theorem lookup_putF (f g : Str) (v : V) : ∀ fs : List (Str × V), (putF f v fs).lookup g = if g = f then some v else fs.lookup g
 | [] => by
   show List.lookup g [(f, v)] = _
   by_cases h : g = f
   · have hb : (g == f) = true := beq_iff_eq.mpr h
     simp only [List.lookup, hb, if_pos h]
   · have hb : (g == f) = false := beq_eq_false_iff_ne.mpr h
     simp only [List.lookup, hb, if_neg h]
 | (k, x) :: r => by
   have ih := lookup_putF f g v r
   rw [show putF f v ((k, x) :: r) = (if k = f then (k, v) :: r else (k, x) :: putF f v r) from rfl]
   by_cases hk : k = f
   · rw [if_pos hk]
     by_cases h : g = k
     · have hb : (g == k) = true := beq_iff_eq.mpr h
       simp only [List.lookup, hb, if_pos (h.trans hk)]
     · have hb : (g == k) = false := beq_eq_false_iff_ne.mpr h
       simp only [List.lookup, hb, if_neg (fun e : g = f => h (e.trans hk.symm))]
   · rw [if_neg hk]
     by_cases h : g = k
     · have hb : (g == k) = true := beq_iff_eq.mpr h
       simp only [List.lookup, hb, if_neg (fun e : g = f => hk (h.symm.trans e))]
     · have hb : (g == k) = false := beq_eq_false_iff_ne.mpr h
       simp only [List.lookup, hb]
       exact ih
theorem RelO.some_of {v : V} {o : Option Value} (r : RelO (some v) o) : ∃ u, o = some u ∧ RelV v u := by
 cases o with
 | none => exact (show False from r).elim
 | some u => exact ⟨u, rfl, r⟩
theorem RelO.none_of {o : Option Value} (r : RelO none o) : o = none := by
 cases o with
 | none => rfl
 | some u => exact (show False from r).elim
theorem handed_of {v : V} {u : Value} (r : RelV v u) : PySem.W.handedIn u = true := by
 cases v with
 | non => cases (show u = Value.none from r); rfl
 | bl b => cases (show u = Value.bool b from r); rfl
 | int i => obtain ⟨t, e⟩ := (show ∃ t, u = Value.int i t from r); cases e; rfl
 | str x => obtain ⟨t, e⟩ := (show ∃ t, u = Value.str x t from r); cases e; rfl
 | byt b => obtain ⟨t, e⟩ := (show ∃ t, u = Value.bytes b t from r); cases e; rfl
 | flt b => obtain ⟨t, e⟩ := (show ∃ t, u = Value.float b t from r); cases e; rfl
 | ref a => cases (show u = Value.ref a from r); rfl
 | ty n => cases (show u = Value.type n from r); rfl
section
variable {P : Program} {w : World} {H H' : Hp} {h h' : Heap} {a C dx : Addr} {fs fs' : List (Str × V)}
theorem ins_get (hok : HOk P w H h) (e : H a = some (.ins C dx fs)) : ∃ mA, ObjM h a dx C mA ∧ (∀ f, RelO (fs.lookup f) (mA f)) ∧ PySem.Within mA (fs.map (·.1)) ∧ fs.length ≤ 1000 ∧ H dx = some (.own a) := by
 obtain ⟨d, z, ne, ob, mA, n, r, q⟩ := (show ObjOk P w H h a (.ins C dx fs) from hok a _ e)
 exact ⟨mA, ⟨ob, n, ne⟩, r, q, z, d⟩
end
structure Cls (K : PySem.W.Frag) (C : Addr) : Prop where
 pg : PySem.W.plainGet K C Str.empty = true
 hd : PySem.W.hasDictIn K C = true
 po : PySem.W.plainOver K C = true
 sa : PySem.W.findIn K (.ref C) "__setattr__" = some (some (.builtin "object.__setattr__"))
theorem Cls.get {K : PySem.W.Frag} {C : Addr} (c : Cls K C) (f : Str) : PySem.W.plainGet K C f = true := c.pg
def NoAttr (K : PySem.W.Frag) (C : Addr) (f : Str) : Prop := PySem.W.findIn K (.ref C) f = some none
section
variable {X : Cx} {pins : List (Addr × Obj)} {σ : St} {H : Hp} {s : Shared} {a C dx : Addr} {fs : List (Str × V)} {f : Str} {v : V} {A : Around} {E : Value → Shared → Prop}
theorem attr_of {prog : Program} {w : World} {env : Env} {e : Expr} {f : Str} {pos : Pos} {s : Shared} {Q : Value → Shared → Prop} (hb : attributeBase e f env (eval e env) = eval e env)
   (h : wpAny (model prog w) A (eval e env) (fun o s₁ => wpAny (model prog w) A (getAttr o f true) Q E s₁) E s) : wpAny (model prog w) A (eval (.Attribute e f pos) env) Q E s :=
 Attribute_any_ h (by rw [arm_eval_Attribute, hb])
end
section
variable {X : Cx} {o e value : Expr} {f : Str} {pos pos' tpos : Pos} {ta tv : TE}
end
section
variable {X : Cx} {pins : List (Addr × Obj)} {σ : St} {H : Hp} {s : Shared} {A : Around} {E : Value → Shared → Prop} {Q : Value → Shared → Prop} {c : Value} {b : Bool}
inductive TyOf (K : PySem.W.Frag) (H : Hp) : V → Value → Prop where
 | non : TyOf K H .non (.type "NoneType")
 | bl (x : Bool) : TyOf K H (.bl x) (.type "bool")
 | int (i : Int) : TyOf K H (.int i) (.type "int")
 | str (x : Str) : TyOf K H (.str x) (.type "str")
 | flt (x : UInt64) : TyOf K H (.flt x) (.type "float")
 | lst {a : Addr} {xs : List V} (e : H a = some (.lst xs)) : TyOf K H (.ref a) (.type "list")
 | frz {a : Addr} {o : Obj} {xs : List V} (e : H a = some (.frz o (.lst xs))) : TyOf K H (.ref a) (.type "list")
 | tup {a : Addr} {xs : List V} (e : H a = some (.tup xs)) : TyOf K H (.ref a) (.type "tuple")
 | dK {a : Addr} {kvs : List (Key × V)} (e : H a = some (.dK kvs)) : TyOf K H (.ref a) (.type "dict")
 | dT {a : Addr} {kvs : List (List Key × V)} (e : H a = some (.dT kvs)) : TyOf K H (.ref a) (.type "dict")
 | ins {a C dx : Addr} {fs : List (Str × V)} (e : H a = some (.ins C dx fs)) (cl : Cls K C) (ha : PySem.W.findIn K (.ref C) "__class__" = some (some (.builtin "object.__class__")))
     (hn : PySem.W.specialIn K (.builtin "object.__class__") "__get__" = some (some (.builtin "getset_descriptor.__get__"))) (htk : PySem.W.takesIn K (.builtin "object.__class__") = some true)
     (hm : PySem.W.mroIn K C (.type "object") = some true) : TyOf K H (.ref a) (.ref C)
theorem isinst_ok {x : V} {u t : Value} (I : Inv X pins σ H s) (rx : RelV x u) (ty : TyOf X.K H x t) (e : PySem.W.kitOne X.K t c = some b) (h : ∀ tk, Q (.bool b) { s with toks := tk }) :
   wpAny (model X.prog X.w) A (call (.builtin "isinstance") [u, c]) Q E s := by
 cases ty with
 | non => cases (show u = Value.none from rx); exact PySem.W.kia_one PySem.W.kitx_none I.kIn True.intro e (fun z => nomatch z) h
 | bl y => cases (show u = Value.bool y from rx); exact PySem.W.kia_one PySem.W.kitx_bool I.kIn True.intro e (fun z => nomatch z) h
 | int i => obtain ⟨t, q⟩ := (show ∃ t, u = Value.int i t from rx); cases q; exact PySem.W.kia_one PySem.W.kitx_int I.kIn True.intro e (fun z => nomatch z) h
 | str y => obtain ⟨t, q⟩ := (show ∃ t, u = Value.str y t from rx); cases q; exact PySem.W.kia_one PySem.W.kitx_str I.kIn True.intro e (fun z => nomatch z) h
 | flt y => obtain ⟨t, q⟩ := (show ∃ t, u = Value.float y t from rx); cases q; exact PySem.W.kia_one PySem.W.kitx_float I.kIn True.intro e (fun z => nomatch z) h
 | @lst a xs ea =>
   cases (show u = Value.ref a from rx)
   obtain ⟨_, _, n, _, h1⟩ := (show ObjOk X.prog X.w H s.heap a (.lst xs) from I.hok a _ ea)
   exact PySem.W.kia_one PySem.W.kitx_list I.kIn ⟨_, h1, rfl⟩ e (fun z => nomatch z) h
 | @frz a ob xs ea =>
   cases (show u = Value.ref a from rx)
   obtain ⟨_, _, _, n, _, h1⟩ := (show ObjOk X.prog X.w H s.heap a (.frz ob (.lst xs)) from I.hok a _ ea)
   exact PySem.W.kia_one PySem.W.kitx_list I.kIn ⟨_, h1, rfl⟩ e (fun z => nomatch z) h
 | @tup a xs ea =>
   cases (show u = Value.ref a from rx)
   obtain ⟨_, _, _, p⟩ := (show ObjOk X.prog X.w H s.heap a (.tup xs) from I.hok a _ ea)
   obtain ⟨o, h1, h2, _⟩ := p
   exact PySem.W.kia_one PySem.W.kitx_tuple I.kIn ⟨o, h1, h2⟩ e (fun z => nomatch z) h
 | @dK a kvs ea =>
   cases (show u = Value.ref a from rx)
   obtain ⟨_, _, vs, _, p⟩ := (show ObjOk X.prog X.w H s.heap a (.dK kvs) from I.hok a _ ea)
   obtain ⟨o, es, ep, h1, h2, _⟩ := p
   exact PySem.W.kia_one PySem.W.kitx_dict I.kIn ⟨o, h1, h2.1⟩ e (fun z => nomatch z) h
 | @dT a kvs ea =>
   cases (show u = Value.ref a from rx)
   obtain ⟨_, _, xs, _, o, es, ep, h1, h2, _⟩ := (show ObjOk X.prog X.w H s.heap a (.dT kvs) from I.hok a _ ea)
   exact PySem.W.kia_one PySem.W.kitx_dict I.kIn ⟨o, h1, h2.1⟩ e (fun z => nomatch z) h
 | @ins a C dx fs ea cl ha hn htk hm =>
   cases (show u = Value.ref a from rx)
   obtain ⟨mA, O, _⟩ := ins_get I.hok ea
   obtain ⟨od, J, _⟩ := O.look
   exact PySem.W.kia_one (PySem.W.kitx_own (cl.get _) cl.hd ha hn htk hm) I.kIn J e (fun z => nomatch z) h
end
end L2
namespace L2
open PySem PySem.Spec PyProof.Rows
structure Room (cm : Bool) (k : Nat) (A : Around) : Prop where
 hd : cm = true → A.handled = none
 dp : A.depth + 3 * k + 5 < recursionLimit
 un : A.units + 16 * k + 200 < cLine
theorem Room.mono {cm : Bool} {j k : Nat} {A : Around} (r : Room cm k A) (h : j ≤ k) : Room cm j A := ⟨r.hd, by have := r.dp; omega, by have := r.un; omega⟩
theorem Room.deeper {cm : Bool} {k : Nat} {A : Around} (r : Room cm (k + 1) A) (env : Env) : Room cm k (A.deeper env) :=
 ⟨r.hd, by have := r.dp; show A.depth + 1 + 3 * k + 5 < _; omega, by have := r.un; show A.units + 3 + 16 * k + 200 < _; omega⟩
theorem Room.in1 {cm : Bool} {k : Nat} {A : Around} (r : Room cm (k + 1) A) : Room cm k A.in1 :=
 ⟨r.hd, by have := r.dp; show A.depth + 3 * k + 5 < _; omega, by have := r.un; show A.units + 1 + 16 * k + 200 < _; omega⟩
theorem make_depth {A : Around} {C : Addr} {us : List Value} {kw : List (Str × Value)} : (A.under (.builtin "type.__call__" ⟨.ref C :: us, kw⟩)).depth = A.depth + 1 := by
 first | rfl | simp [Around.under, Code.weight, Code.isCreation, Code.isGuard, Code.isCaller, Code.frames, Code.isFrame, guardIds]
theorem make_units {A : Around} {C : Addr} {us : List Value} {kw : List (Str × Value)} : (A.under (.builtin "type.__call__" ⟨.ref C :: us, kw⟩)).units = A.units + 1 := by
 first | rfl | simp [Around.under, Code.cUnits, Code.frames, Code.isFrame]
theorem Room.make {cm : Bool} {k : Nat} {A : Around} (r : Room cm (k + 1) A) (C : Addr) (us : List Value) (kw : List (Str × Value)) : Room cm k (A.under (.builtin "type.__call__" ⟨.ref C :: us, kw⟩)) :=
 ⟨r.hd, by have := r.dp; rw [make_depth]; omega, by have := r.un; rw [make_units]; omega⟩
theorem Room.depth {cm : Bool} {k : Nat} {A : Around} (r : Room cm k A) : A.depth < recursionLimit := by have := r.dp; omega
theorem Room.units {cm : Bool} {k : Nat} {A : Around} (r : Room cm k A) : A.units + 64 < cLine := by have := r.un; omega
def tNil : TA := fun _ H Q => Q [] H
def tCons (ta : TE) (tr : TA) : TA := fun σ H Q => ta σ H fun x H1 => tr σ H1 fun xs H2 => Q (x :: xs) H2
section
variable {X : Cx} {e : Expr} {es : List Expr} {te : TE} {t : TA} {pos : Pos}
theorem pa_nil : PA X [] tNil := fun _ _ _ _ H Q I h => Calls.spliced_nil ⟨[], H, I, .nil, h⟩
theorem pa_cons (ha : PE X e te) (hr : PA X es t) (hs : starEach (e :: es) X.env = (false, eval e X.env) :: starEach es X.env := by rfl) : PA X (e :: es) (tCons te t) := by
 intro pos pins s σ H Q I h
 rw [hs]
 show wpAny _ _ (spliced ((false, eval e X.env) :: backTo pos (starEach es X.env))) _ _ s
 refine Calls.spliced_cons (thn (ha pins s σ H _ I h) fun u s1 ⟨x, H1, I1, r1, q1⟩ => ?_)
 exact thn (hr pos pins s1 σ H1 _ I1 q1) fun us s2 ⟨xs, H2, I2, r2, q2⟩ => ⟨x :: xs, H2, I2, .cons r1 r2, q2⟩
def tTup (t : TA) : TE := fun σ H Q => t σ H fun xs H1 => xs.length ≤ sizeLine ∧ ∀ p, H1 p = none → Q (.ref p) (upd H1 p (.tup xs))
def tLst (t : TA) : TE := fun σ H Q => t σ H fun xs H1 => xs.length ≤ sizeLine ∧ ∀ p, H1 p = none → Q (.ref p) (upd H1 p (.lst xs))
theorem pe_tup {x1} (h : PA X es t) : PE X (.Tuple es x1 pos) (tTup t) := by
 intro pins s σ H Q I hq
 refine wpAny_Tuple_spliced (thn (h pos pins s σ H _ I hq) fun us s1 ⟨xs, H1, I1, r, z, q⟩ => ⟨by rw [← r.length]; exact z, ?_⟩)
 have hf : H1 s1.heap.objs.size = none := I1.hok.fresh (Nat.le_refl _)
 refine ⟨.ref s1.heap.objs.size, upd H1 s1.heap.objs.size (.tup xs), I1.laid (t' := s1.toks) (fun b u e => Heap.get?_push_of_some _ e) (Nat.le_refl _) ?_, rfl, q _ hf⟩
 exact ⟨z, us, r, ⟨_, Heap.get?_push_size _ rfl, rfl, _, rfl⟩⟩
theorem pe_lst (h : PA X es t) : PE X (.List es pos) (tLst t) := by
 intro pins s σ H Q I hq
 refine wpAny_List_spliced (thn (h pos pins s σ H _ I hq) fun us s1 ⟨xs, H1, I1, r, z, q⟩ => ⟨by rw [← r.length]; exact z, ?_⟩)
 have hf : H1 s1.heap.objs.size = none := I1.hok.fresh (Nat.le_refl _)
 refine ⟨.ref s1.heap.objs.size, upd H1 s1.heap.objs.size (.lst xs), I1.laid (t' := s1.toks) (fun b u e => Heap.get?_push_of_some _ e) (Nat.le_refl _) ?_, rfl, q _ hf⟩
 exact ⟨z, us, 0, r, Heap.get?_push_size _ rfl⟩
end
abbrev Sp := List V → Hp → VK → XK → Prop
abbrev CXT := List Env → Hp → Shared → XK → Value → Shared → Prop
structure Env0 (P : Program) (w : World) (K : PySem.W.Frag) (mg : Str → Option Value) (base : Heap) (A : Around) (outer : List Env) (s : Shared) (H : Hp) : Prop where
 frames : A.frames = some outer
 mod : Mod K mg base
 bs : ∀ b o, base.get? b = some o → s.heap.get? b = some o ∧ H b = none
 bsz : base.objs.size ≤ s.heap.objs.size
 funs : s.heap.FunFrames base outer
 frf : ∀ b ∈ frs outer, H b = none
 hok : HOk P w H s.heap
 bare : AllBare s.gens
def CE (outer : List Env) (P : Program) (w : World) (H : Hp) (s : Shared) (Q : VK) (u : Value) (s' : Shared) : Prop :=
 ∃ v H', s'.os = s.os ∧ AllBare s'.gens ∧ Un (frs outer) [] H H' s.heap s'.heap ∧ HOk P w H' s'.heap ∧ RelV v u ∧ Q v H'
def CR (CX : CXT) (outer : List Env) (P : Program) (w : World) (H : Hp) (s : Shared) (Q : VK) (E : XK) (r : Result) (s' : Shared) : Prop :=
 match r with
 | .ok (.ret u) => CE outer P w H s Q u s'
 | .ok _ => False
 | .error e => CX outer H s E e s'
structure FnOk (P : Program) (w : World) (K : PySem.W.Frag) (mg : Str → Option Value) (base : Heap) (CX : CXT) (cm : Bool) (k : Nat) (f : Addr) (fd : FuncData) (ps : List Str) (sp : Sp) : Prop where
 len : ∀ vs H Q E, sp vs H Q E → vs.length = ps.length
 run : ∀ (A : Around) (outer : List Env) (s : Shared) (H : Hp) (args : Args) (us : List Value) (vs : List V) (Q : VK) (E : XK), Room cm k A → Env0 P w K mg base A outer s H → BindsTo s fd args (ps.zip us) → Vals vs us → sp vs H Q E →
   codeAny (model P w) A (.call (.ref f) args) (CR CX outer P w H s Q E) s
theorem FnOk.mono {cm : Bool} {P : Program} {w : World} {K : PySem.W.Frag} {mg : Str → Option Value} {base : Heap} {CX : CXT} {j k : Nat} {f : Addr} {fd : FuncData} {ps : List Str} {sp : Sp} (F : FnOk P w K mg base CX cm j f fd ps sp) (h : j ≤ k) :
   FnOk P w K mg base CX cm k f fd ps sp := ⟨F.len, fun A outer s H args us vs Q E hr => F.run A outer s H args us vs Q E (hr.mono h)⟩
theorem Env0.make {P : Program} {w : World} {K : PySem.W.Frag} {mg : Str → Option Value} {base : Heap} {A : Around} {outer : List Env} {s : Shared} {H : Hp} (e : Env0 P w K mg base A outer s H) (C : Addr) (us : List Value) (kw : List (Str × Value)) :
   Env0 P w K mg base (A.under (.builtin "type.__call__" ⟨.ref C :: us, kw⟩)) outer s H := ⟨by first | exact e.frames | (simpa [Around.under, Code.envs, Code.isFrame, pushEnvs] using e.frames), e.mod, e.bs, e.bsz, e.funs, e.frf, e.hok, e.bare⟩
theorem Env0.in1 {P : Program} {w : World} {K : PySem.W.Frag} {mg : Str → Option Value} {base : Heap} {A : Around} {outer : List Env} {s : Shared} {H : Hp} (e : Env0 P w K mg base A outer s H) :
   Env0 P w K mg base A.in1 outer s H := ⟨e.frames, e.mod, e.bs, e.bsz, e.funs, e.frf, e.hok, e.bare⟩
section
variable {X : Cx} {pins : List (Addr × Obj)} {σ : St} {H : Hp} {s s' : Shared}
theorem Inv.env0 (I : Inv X pins σ H s) : Env0 X.prog X.w X.K X.mg X.base X.A X.stack s H :=
 ⟨I.ok.frames, I.ok.mod, I.bs, Nat.le_trans I.ok.bsz I.sz, I.stack, I.stkFree, I.hok, I.bare⟩
theorem Inv.after {Q : VK} {u : Value} (I : Inv X pins σ H s) (h : CE X.stack X.prog X.w H s Q u s') : EP X pins σ Q u s' := by
 obtain ⟨v, H', os, bare, un, hok, r, q⟩ := h
 obtain ⟨hh, g, d, t, os'⟩ := s'
 obtain rfl : os' = s.os := os
 exact ⟨v, H', I.call (h' := hh) (g' := g) (d' := d) (t' := t) (ch := []) un hok bare (fun b z => absurd z (by simp)), r, q⟩
end
def tCall (sp : Sp) (dvs : List V) (E : XK) (t : TA) : TE := fun σ H Q => t σ H fun vs H1 => sp (vs ++ dvs) H1 Q E
def Binds (K : PySem.W.Frag) (fd : FuncData) (ps : List Str) (ds : List Value) : Prop :=
 ∀ (s : Shared) (us : List Value), K.In s.heap → (us ++ ds).length = ps.length → BindsTo s fd ⟨us, []⟩ (ps.zip (us ++ ds))
theorem Binds.all {K : PySem.W.Frag} {fd : FuncData} {ps : List Str} (h : ∀ us : List Value, us.length = ps.length → bindArgs fd ⟨us, []⟩ = pure (ps.zip us)) : Binds K fd ps [] := fun s us _ hl => by
 rw [List.append_nil] at hl ⊢
 exact .of_eq (h us hl)
def Passes (CX : CXT) (X : Cx) (E : XK) : Prop := ∀ (pins : List (Addr × Obj)) (σ : St) (H : Hp) (s : Shared) (e : Value) (s' : Shared), Inv X pins σ H s → CX X.stack H s E e s' → X.xe e s'
section
variable {X : Cx} {CX : CXT} {cm : Bool} {k : Nat} {f C : Addr} {fd : FuncData} {ps : List Str} {sp : Sp} {dvs : List V} {ds : List Value} {E : XK} {x m : Str} {p pos apos : Pos} {e o : Expr} {es : List Expr} {ta : TE} {t : TA}
theorem run_fn {pins : List (Addr × Obj)} {σ : St} {H : Hp} {s : Shared} {Q : VK} {us : List Value} {vs : List V} (F : FnOk X.prog X.w X.K X.mg X.base CX cm k f fd ps sp) (hr : Room cm k X.A) (hb : Binds X.K fd ps ds) (hd : Vals dvs ds) (hx : Passes CX X E)
   (I : Inv X pins σ H s) (r : Vals vs us) (h : sp (vs ++ dvs) H Q E) : wpAny (model X.prog X.w) X.A (call (.ref f) us) (EP X pins σ Q) X.xe s := by
 have r2 : Vals (vs ++ dvs) (us ++ ds) := r.append hd
 have hl : (us ++ ds).length = ps.length := by rw [← r2.length]; exact F.len _ _ _ _ h
 refine wpAny_call (codeAny_mono (F.run X.A X.stack s H ⟨us, []⟩ (us ++ ds) (vs ++ dvs) Q E hr I.env0 (hb s us I.kIn hl) r2 h) fun r s' hq => ?_)
 cases r with
 | error e => exact hx pins σ H s e s' I hq
 | ok fl =>
   cases fl with
   | ret u => exact I.after hq
   | next => exact False.elim hq
   | brk => exact False.elim hq
   | cont => exact False.elim hq
theorem pe_call (F : FnOk X.prog X.w X.K X.mg X.base CX cm k f fd ps sp) (hr : Room cm k X.A) (hg : Gl X x) (hm : X.mg x = some (.ref f)) (hk : PySem.W.keepIn X.K (.ref f) = true) (hb : Binds X.K fd ps ds) (hd : Vals dvs ds) (hx : Passes CX X E)
   (ha : PA X (e :: es) t) (hdb : (x == ("__debug__" : Str)) = false := by decide) (he : starEach (e :: es) X.env = (false, eval e X.env) :: starEach es X.env := by rfl) (hpl : (backTo pos (starEach es X.env)).any (·.1) = false := by rfl) :
   PE X (.Call (.Name x p) (e :: es) [] pos) (tCall sp dvs E t) := by
 intro pins s σ H Q I h
 refine wpAny_Call_Name_kw (ld_glob I hg hm ?_ hdb)
 refine PySem.W.callWith_K (h₀ := X.base) I.ok.mod.kin hk (thn (ha pos pins s σ H _ I h) fun us s1 ⟨vs, H1, I1, r, q⟩ => ⟨I1.kIn, ?_⟩) he hpl
 exact run_fn F hr hb hd hx I1 r q
end
section
variable {X : Cx} {CX : CXT} {cm : Bool} {k : Nat} {f C : Addr} {fd : FuncData} {ps ks : List Str} {sp : Sp} {E : XK} {x m : Str} {p pos apos kpos : Pos} {e o : Expr} {es : List Expr} {kws : List Keyword} {te ta : TE} {t tk : TA} {nm : Option Str}
variable {g : List Value → List Value → List Value} {gV : List V → List V → List V}
end
structure FnScope (N P : List Str) (sc : Scope) : Prop where
 kind : sc.kind = .function
 co : sc.isCoroutine = false
 gen : sc.isGenerator = false
 nd : N.Nodup
 pre : N.take P.length = P
 par : ∀ x ∈ P, sc.names.lookup x = some .local ∨ sc.names.lookup x = some .cell
 nofree : ∀ y ∈ sc.names, y.2 ≠ .free
theorem bindL_out {kindOf : Str → Option NameKind} {x : Str} : ∀ {binds : List (Str × Value)} {m : Str → Option Value}, (∀ v, (x, v) ∉ binds) → bindL kindOf binds m x = m x
 | [], _, _ => rfl
 | (n, v) :: r, m, h => by
   unfold bindL
   rw [bindL_out fun w hw => h w (List.mem_cons_of_mem _ hw)]
   split
   · have : x ≠ n := by rintro rfl; exact h v List.mem_cons_self
     simp [this]
   · rfl
theorem bindC_out {kindOf : Str → Option NameKind} {x : Str} : ∀ {binds : List (Str × Value)} {m : Str → Option Value}, (∀ v, (x, v) ∉ binds) → bindC kindOf binds m x = m x
 | [], _, _ => rfl
 | (n, v) :: r, m, h => by
   unfold bindC
   rw [bindC_out fun w hw => h w (List.mem_cons_of_mem _ hw)]
   split
   · rfl
   · have : x ≠ n := by rintro rfl; exact h v List.mem_cons_self
     simp [this]
theorem bindL_get {kindOf : Str → Option NameKind} {x : Str} {v : Value} : ∀ {P : List Str} {vs : List Value} {i : Nat} {m : Str → Option Value}, P.Nodup → P[i]? = some x → vs[i]? = some v → kindOf x = some .local →
   bindL kindOf (P.zip vs) m x = some v
 | [], _, _, _, _, h, _, _ => by simp at h
 | _ :: _, [], _, _, _, _, h, _ => by simp at h
 | p :: P, w :: vs, 0, m, nd, h1, h2, hk => by
   simp at h1 h2; subst h1; subst h2
   show bindL kindOf ((p, w) :: P.zip vs) m p = _
   unfold bindL
   rw [bindL_out fun v hv => (List.nodup_cons.mp nd).1 (List.of_mem_zip hv).1, if_pos hk]
   simp
 | p :: P, w :: vs, i + 1, m, nd, h1, h2, hk => by
   show bindL kindOf ((p, w) :: P.zip vs) m x = _
   unfold bindL
   exact bindL_get (i := i) (List.nodup_cons.mp nd).2 (by simpa using h1) (by simpa using h2) hk
theorem bindC_get {kindOf : Str → Option NameKind} {x : Str} {v : Value} : ∀ {P : List Str} {vs : List Value} {i : Nat} {m : Str → Option Value}, P.Nodup → P[i]? = some x → vs[i]? = some v → kindOf x ≠ some .local →
   bindC kindOf (P.zip vs) m x = some v
 | [], _, _, _, _, h, _, _ => by simp at h
 | _ :: _, [], _, _, _, _, h, _ => by simp at h
 | p :: P, w :: vs, 0, m, nd, h1, h2, hk => by
   simp at h1 h2; subst h1; subst h2
   show bindC kindOf ((p, w) :: P.zip vs) m p = _
   unfold bindC
   rw [bindC_out fun v hv => (List.nodup_cons.mp nd).1 (List.of_mem_zip hv).1, if_neg hk]
   simp
 | p :: P, w :: vs, i + 1, m, nd, h1, h2, hk => by
   show bindC kindOf ((p, w) :: P.zip vs) m x = _
   unfold bindC
   exact bindC_get (i := i) (List.nodup_cons.mp nd).2 (by simpa using h1) (by simpa using h2) hk
def start (N : List Str) (vs : List V) : St := vs.map some ++ List.replicate (N.length - vs.length) none
def cxOf (CX : CXT) (cm : Bool) (P : Program) (w : World) (K : PySem.W.Frag) (mg : Str → Option Value) (base : Heap) (N : List Str) (qual : Str) (scope : Scope) (f : Addr) (cd : Value) (A : Around) (outer : List Env) (s : Shared) (H : Hp) (E : XK) : Cx where
 prog := P
 w := w
 K := K
 mg := mg
 base := base
 A := A.deeper (envOfC qual scope s.heap.objs.size f cd)
 N := N
 s₀ := s
 H₀ := H
 env := envOfC qual scope s.heap.objs.size f cd
 outer := outer
 stack := envOfC qual scope s.heap.objs.size f cd :: outer
 ex := []
 calm := cm
 fn := fun _ => true
 pn := []
 xe := fun e s' => wpAny (model P w) (A.deeper (envOfC qual scope s.heap.objs.size f cd)) (leaving (envOfC qual scope s.heap.objs.size f cd) e) (fun _ s'' => CX outer H s E e s'') (fun e' s'' => CX outer H s E e' s'') s'
theorem cell_has {sc : Scope} {n : Nat} {x : Str} (h : sc.names.lookup x = some .cell) : ∃ c, (cellsFrom n sc.names []).lookup x = some c := by
 have q := PySem.W.cellsFrom_some sc.names n [] (.inl h)
 exact Option.isSome_iff_exists.mp q
theorem inv_start {CX : CXT} {cm : Bool} {P : Program} {w : World} {K : PySem.W.Frag} {mg : Str → Option Value} {base : Heap} {N ps : List Str} {qual : Str} {scope : Scope} {f : Addr} {cd : Value} {A : Around} {outer : List Env} {s s1 : Shared} {H : Hp} {E : XK} {us : List Value} {vs : List V}
   (S : FnScope N ps scope) (hd : cm = true → A.handled = none) (e0 : Env0 P w K mg base A outer s H) (hl : vs.length = ps.length) (r : Vals vs us)
   (x : InCallC s s.heap.objs.size (bindL (envOfC qual scope s.heap.objs.size f cd).kindOf (ps.zip us) fun _ => none) (cellsFrom (s.heap.objs.size + 1) scope.names []) (bindC (envOfC qual scope s.heap.objs.size f cd).kindOf (ps.zip us) fun _ => none) s1) :
   Inv (cxOf CX cm P w K mg base N qual scope f cd A outer s H E) [] (start N vs) H s1 := by
 have hpl : ps.length ≤ N.length := by have := congrArg List.length S.pre; rw [List.length_take] at this; omega
 obtain ⟨h1, tk, rfl, hk⟩ := x.done
 have noA : ∀ b : Addr, b ∉ (cxOf CX cm P w K mg base N qual scope f cd A outer s H E).ex := fun b z => absurd (show b ∈ ([] : List Addr) from z) (by simp)
 refine ⟨⟨e0.mod, S.kind, rfl, rfl, Nat.le_refl _, fun y z c h1 h2 => ?_, fun y hy => ?_, fun y c _ h => ?_, hd, Around.frames_deeper e0.frames, .inr ⟨rfl, rfl⟩, fun b z => absurd z (noA b), e0.bs, e0.bsz, fun b _ _ => noA b, fun b z => absurd z (noA b), e0.funs, e0.frf⟩,
   rfl, e0.bare, Un.kept hk, ⟨_, x.toInCall.ns, fun i y v h1 h2 h3 => ?_⟩, fun y c h => ⟨_, x.cell y c h⟩, e0.hok.fresh (Nat.le_refl _), fun y c h => ?_, fun p hp => absurd (show p ∈ ([] : List (Addr × Obj)) from hp) (by simp), e0.hok.kept hk, ?_⟩
 · exact name_of_addr x.apart (PySem.mem_of_lookup h1) (PySem.mem_of_lookup h2)
 · have hy : scope.names.lookup y = some .cell ∨ scope.names.lookup y = some .free := hy
   rcases hy with hy | hy
   · exact cell_has hy
   · exact absurd rfl (S.nofree _ (PySem.mem_of_lookup hy))
 · exact Nat.le_of_lt (x.above y c (PySem.mem_of_lookup h))
 · have hi : i < vs.length := by
     unfold start at h2
     by_cases hi : i < vs.length
     · exact hi
     · rw [List.getElem?_append_right (by simpa using hi)] at h2
       rw [List.getElem?_replicate] at h2
       split at h2 <;> cases h2
   have ha : vs[i]? = some v := by
     unfold start at h2
     rw [List.getElem?_append_left (by simpa using hi), List.getElem?_map] at h2
     cases e : vs[i]? with
     | none => rw [e] at h2; cases h2
     | some a => rw [e] at h2; cases h2; rfl
   obtain ⟨u, hu, rv⟩ := r.get ha
   have hp : ps[i]? = some y := by
     rw [← S.pre, List.getElem?_take_of_lt (by omega)]; exact h1
   have ndP : ps.Nodup := by rw [← S.pre]; exact S.nd.sublist (List.take_sublist _ _)
   refine ⟨u, rv, ?_⟩
   rcases S.par y (List.mem_of_getElem? hp) with k | k
   · exact .inl ⟨k, bindL_get ndP hp hu k⟩
   · obtain ⟨c, e⟩ := cell_has (n := s.heap.objs.size + 1) k
     refine .inr ⟨.inl k, c, e, ?_⟩
     have q := x.cell y c e
     rw [bindC_get ndP hp hu (by show scope.names.lookup y ≠ _; rw [k]; decide)] at q
     exact q
 · exact e0.hok.fresh (Nat.le_of_lt (x.above y c (PySem.mem_of_lookup h)))
 · unfold start
   show _ = N.length
   rw [List.length_append, List.length_map, List.length_replicate]
   omega
theorem fn_of {CX : CXT} {cm : Bool} {P : Program} {w : World} {K : PySem.W.Frag} {mg : Str → Option Value} {base : Heap} {k : Nat} {f : Addr} {name qual : Str} {params : Arguments} {body : List Stmt} {scope : Scope} {dV kV doc pm cdv ct oc : Value} {an od : Option Addr}
   {osl : Array (Option Value)} {N ps : List Str} {sp : Sp} (lk : K.lookup f = some ⟨oc, od, .func (PySem.W.fnOf name qual params body scope dV kV doc pm an cdv ct), osl⟩) (hcd : PySem.W.codeIn K cdv qual = true) (S : FnScope N ps scope)
   (len : ∀ vs H Q E, sp vs H Q E → vs.length = ps.length)
   (hbody : ∀ (A : Around) (outer : List Env) (s : Shared) (H : Hp) (vs : List V) (Q : VK) (E : XK), Room cm k (A.deeper (envOfC qual scope s.heap.objs.size f cdv)) → sp vs H Q E →
     ∃ t, PSs (cxOf CX cm P w K mg base N qual scope f cdv A outer s H E) body t ∧ t { nx := fun _ H' => Q .non H', rt := Q } (start N vs) H) :
   FnOk P w K mg base CX cm (k + 1) f (PySem.W.fnOf name qual params body scope dV kV doc pm an cdv ct) ps sp := by
 refine ⟨len, fun A outer s H args us vs Q E hr e0 hb r hsp => ?_⟩
 have hl := len _ _ _ _ hsp
 have KX : K.In s.heap := e0.mod.kin.keeps fun b o e => (e0.bs b o e).1
 have lim : s.heap.NoLimit := e0.mod.nolimit.keeps fun b o e => (e0.bs b o e).1
 have hkind : ∀ y ∈ ps.zip us, scope.names.lookup y.1 = some .local ∨ (scope.names.lookup y.1 = some .cell ∧ ((cellsFrom (s.heap.objs.size + 1) scope.names []).lookup y.1).isSome = true) := fun ⟨n, v⟩ hy => by
   rcases S.par n (List.of_mem_zip hy).1 with q | q
   · exact .inl q
   · exact .inr ⟨q, PySem.W.cellsFrom_some _ _ _ (.inl q)⟩
 refine codeAny_call_function hr.depth (KX _ _ lk) rfl S.co S.gen rfl (PySem.W.codeRec_of KX hcd) (hb _ _ _ _ ?_)
 refine wpAny_newFunctionEnv_cells S.kind hkind fun env he s1 x => ?_
 subst he
 refine ⟨lim.keeps x.toInCall.keep, codeAny_func ?_⟩
 obtain ⟨t, ht, hq⟩ := hbody A outer s H vs Q E (hr.deeper _) hsp
 have I : Inv (cxOf CX cm P w K mg base N qual scope f cdv A outer s H E) [] (start N vs) H s1 := inv_start S hr.hd e0 hl r x
 refine wpAny_mono (ht [] s1 (start N vs) H _ I hq) (fun fl s' hs => ?_) fun e s' hs => hs
 have fin : ∀ {σ' : St} {H' : Hp} {v : V} {u : Value}, Inv (cxOf CX cm P w K mg base N qual scope f cdv A outer s H E) [] σ' H' s' → RelV v u → Q v H' → CE outer P w H s Q u s' :=
   fun {σ' H' v u} J rv q => ⟨v, H', J.os, J.bare, J.base, J.hok, rv, q⟩
 cases fl with
 | ret u =>
   obtain ⟨v, σ', H', J, rv, q⟩ := hs
   exact fin J rv q
 | next =>
   obtain ⟨σ', H', J, q⟩ := hs
   exact fin (v := V.non) (u := Value.none) J rfl q
 | brk =>
   obtain ⟨_, _, _, q⟩ := hs
   exact False.elim q
 | cont =>
   obtain ⟨_, _, _, q⟩ := hs
   exact False.elim q
end L2
namespace L2
open PySem PySem.Spec PyProof.Rows
section
variable {X : Cx} {x : Str} {p pos : Pos} {e : Expr} {es : List Expr} {t : TA} {id T : String} {r : List V → Hp → VK → Prop}
def tCB (r : List V → Hp → VK → Prop) (t : TA) : TE := fun σ H Q => t σ H fun vs H1 => r vs H1 Q
theorem pe_callB (hc : CallR X (.builtin id) r) (hg : Gl X x) (hm : X.mg x = none) (hv : bootBuiltins x = some (.builtin id)) (ha : PA X (e :: es) t) (hn : x ≠ "__name__" := by decide) (hdb : (x == ("__debug__" : Str)) = false := by decide)
   (he : starEach (e :: es) X.env = (false, eval e X.env) :: starEach es X.env := by rfl) (hpl : (backTo pos (starEach es X.env)).any (·.1) = false := by rfl) : PE X (.Call (.Name x p) (e :: es) [] pos) (tCB r t) := by
 intro pins s σ H Q I h
 refine wpAny_Call_Name_kw (ld_blt I hg hm hv ?_ hn hdb)
 exact PyProof.Rows.callWith_builtin1 (thn (ha pos pins s σ H _ I h) fun us s1 ⟨vs, H1, I1, r1, q1⟩ => hc pins s1 σ H1 vs us Q I1 r1 q1) he hpl
theorem pe_callTy (hc : CallR X (.type T) r) (hg : Gl X x) (hm : X.mg x = none) (hv : bootBuiltins x = some (.type T)) (ha : PA X (e :: es) t) (hn : x ≠ "__name__" := by decide) (hdb : (x == ("__debug__" : Str)) = false := by decide)
   (he : starEach (e :: es) X.env = (false, eval e X.env) :: starEach es X.env := by rfl) (hpl : (backTo pos (starEach es X.env)).any (·.1) = false := by rfl) : PE X (.Call (.Name x p) (e :: es) [] pos) (tCB r t) := by
 intro pins s σ H Q I h
 refine wpAny_Call_Name_kw (ld_blt I hg hm hv ?_ hn hdb)
 exact PyProof.Rows.callWith_type1 (thn (ha pos pins s σ H _ I h) fun us s1 ⟨vs, H1, I1, r1, q1⟩ => hc pins s1 σ H1 vs us Q I1 r1 q1) he hpl
end
end L2
namespace HT
open PySem PyProof.Rows
section
open PySem.SeqAt
open PySem.AutoSeq1 (wpAny_loadPart')
open PySem.MeetsSeq PySem.MeetsSeq2 PySem.MeetsSeq3
end
section
variable {prog : Program} {w : World} {A : Around} {E : Value → Shared → Prop} {s : Shared}
def sIx (n d : Nat) : Option Int → Nat
 | none => d
 | some v => if v < 0 then (v + (n : Int)).toNat else min v.toNat n
theorem sIx_none (n d : Nat) : sIx n d none = d := rfl
theorem sIx_nat (n d k : Nat) : sIx n d (some (k : Int)) = min k n := by
 show (if (k : Int) < 0 then ((k : Int) + (n : Int)).toNat else min (k : Int).toNat n) = min k n
 rw [if_neg (by omega), Int.toNat_natCast]
end
end HT
namespace L2
open PySem PySem.Spec PyProof.Rows
abbrev TO := St → Hp → (Option Int → Hp → Prop) → Prop
def PO (X : Cx) (e : Option Expr) (t : TO) : Prop :=
 ∀ (pins : List (Addr × Obj)) (s : Shared) (σ : St) (H : Hp) (Q : Option Int → Hp → Prop), Inv X pins σ H s → t σ H Q →
   wpAny (model X.prog X.w) X.A (evalPart e X.env) (fun u s' => ∃ o H', Inv X pins σ H' s' ∧ IsPart u o ∧ Q o H') X.xe s
def tNoPart : TO := fun _ H Q => Q none H
def tPart (t : TE) : TO := fun σ H Q => t σ H fun x H1 => ∃ i, x = .int i ∧ Q (some i) H1
section
variable {X : Cx} {e : Expr} {te : TE} {lo hi : Option Expr} {tl th : TO} {pos p2 : Pos}
theorem po_none : PO X none tNoPart := by
 intro pins s σ H Q I h
 rw [evalPart_none]
 exact wpAny_pure ⟨none, H, I, .none, h⟩
theorem po_some (h : PE X e te) : PO X (some e) (tPart te) := by
 intro pins s σ H Q I hw
 rw [evalPart_some]
 refine thn (h pins s σ H _ I hw) fun u s1 ⟨x, H1, I1, r1, q1⟩ => ?_
 obtain ⟨i, rfl, q⟩ := q1
 obtain ⟨t, rfl⟩ := r1
 exact ⟨some i, H1, I1, .int i t, q⟩
def SlR (X : Cx) (r : V → Option Int → Option Int → Hp → VK → Prop) : Prop :=
 ∀ (pins : List (Addr × Obj)) (s : Shared) (σ : St) (H : Hp) (x : V) (v vl vu : Value) (lo hi : Option Int) (sl : Addr) (Q : VK), Inv X pins σ H s → RelV x v → s.heap.IsSliceOf sl vl vu .none → IsPart vl lo → IsPart vu hi → r x lo hi H Q →
   ∃ T id, typeLookup (.type T) "__getitem__" = pure (some (.builtin id)) ∧ s.TypeIs v T ∧ wpAny (model X.prog X.w) X.A (getItem v (.ref sl)) (EP X pins σ Q) X.xe s
theorem SlR.or {r r' : V → Option Int → Option Int → Hp → VK → Prop} (h : SlR X r) (h' : SlR X r') : SlR X (fun x lo hi H Q => r x lo hi H Q ∨ r' x lo hi H Q) := by
 intro pins s σ H x v vl vu lo hi sl Q I rx hs pl pu q
 rcases q with q | q
 · exact h pins s σ H x v vl vu lo hi sl Q I rx hs pl pu q
 · exact h' pins s σ H x v vl vu lo hi sl Q I rx hs pl pu q
def tSl (r : V → Option Int → Option Int → Hp → VK → Prop) (te : TE) (tl th : TO) : TE := fun σ H Q => te σ H fun x H1 => tl σ H1 fun l H2 => th σ H2 fun u H3 => r x l u H3 Q
theorem pe_slice {r : V → Option Int → Option Int → Hp → VK → Prop} (hr : SlR X r) (he : PE X e te) (hl : PO X lo tl) (hu : PO X hi th) : PE X (.Subscript e (.Slice lo hi none p2) pos) (tSl r te tl th) := by
 intro pins s σ H Q I h
 refine Subscript_ (thn (he pins s σ H _ I h) fun v s1 ⟨x, H1, I1, r1, q1⟩ => ?_)
 refine wpAny_Slice (thn (hl pins s1 σ H1 _ I1 q1) fun vl s2 ⟨l, H2, I2, pl, q2⟩ => thn (hu pins s2 σ H2 _ I2 q2) fun vu s3 ⟨u, H3, I3, pu, q3⟩ => ?_)
 rw [evalPart_none]
 refine wpAny_pure ?_
 have I4 : Inv X pins σ H3 { s3 with heap := s3.heap.push { cls := .type "slice", data := .fields #[vl, vu, .none] } } := I3.kept (t' := s3.toks) fun b ob q => Heap.get?_push_of_some _ q
 obtain ⟨T, id, hT, ht, hg⟩ := hr pins { s3 with heap := s3.heap.push { cls := .type "slice", data := .fields #[vl, vu, .none] } } σ H3 x v vl vu l u s3.heap.objs.size Q I4 r1 (Heap.IsSliceOf.new ..) pl pu q3
 show wpAny (model X.prog X.w) X.A (subscriptTail e (.Slice lo hi none p2) v (.ref s3.heap.objs.size)) (EP X pins σ Q) X.xe { s3 with heap := s3.heap.push { cls := .type "slice", data := .fields #[vl, vu, .none] } }
 exact tail_any (ops := [.ref s3.heap.objs.size, v]) ht hT hg (by with_unfolding_all rfl)
def cutV (xs : List V) (lo hi : Option Int) : List V := (xs.drop (HT.sIx xs.length 0 lo)).take (HT.sIx xs.length xs.length hi - HT.sIx xs.length 0 lo)
theorem cutV_length (xs : List V) (lo hi : Option Int) : (cutV xs lo hi).length ≤ xs.length := by
 unfold cutV
 rw [List.length_take, List.length_drop]
 omega
end
end L2
namespace L2
open PySem PySem.Spec PyProof.Rows
def ixN (n : Nat) (i : Int) : Option Nat := if 0 ≤ i then (if i < n then some i.toNat else none) else if -(n : Int) ≤ i then some (i + n).toNat else none
def atI {α : Type} (xs : List α) (i : Int) : Option α := (ixN xs.length i).bind fun j => xs[j]?
theorem ixN_seq {n : Nat} {i : Int} {j : Nat} (h : ixN n i = some j) : seqIndex? i n = some j ∧ j < n ∧ -(n : Int) ≤ i ∧ i < n := by
 unfold ixN at h
 by_cases h0 : 0 ≤ i
 · rw [if_pos h0] at h
   by_cases h1 : i < n
   · rw [if_pos h1] at h
     have e : i.toNat = j := Option.some.inj h
     exact ⟨by rw [seqIndex_of h0 h1, e], by omega, by omega, h1⟩
   · rw [if_neg h1] at h; cases h
 · rw [if_neg h0] at h
   by_cases h1 : -(n : Int) ≤ i
   · rw [if_pos h1] at h
     have e : (i + n).toNat = j := Option.some.inj h
     exact ⟨by rw [seqIndex_neg (by omega) h1, e], by omega, h1, by omega⟩
   · rw [if_neg h1] at h; cases h
theorem atI_get {α : Type} {xs : List α} {i : Int} {v : α} (h : atI xs i = some v) : ∃ j, seqIndex? i xs.length = some j ∧ xs[j]? = some v ∧ j < xs.length ∧ -(xs.length : Int) ≤ i ∧ i < xs.length := by
 unfold atI at h
 cases e : ixN xs.length i with
 | none => rw [e] at h; cases h
 | some j =>
   rw [e] at h
   obtain ⟨h1, h2, h3, h4⟩ := ixN_seq e
   exact ⟨j, h1, h, h2, h3, h4⟩
theorem atI_nat {α : Type} {xs : List α} {j : Nat} {v : α} (h : xs[j]? = some v) : atI xs (j : Int) = some v := by
 have hj : j < xs.length := (List.getElem?_eq_some_iff.mp h).1
 have e : ixN xs.length (j : Int) = some j := by
   unfold ixN
   rw [if_pos (by omega), if_pos (by omega)]; simp
 unfold atI; rw [e]; exact h
def PlainIx (b : Expr) : Prop := ∀ o i, subscripted b false o i = operate [o, i] (getItem o i)
def IxR (X : Cx) (r : R2) : Prop :=
 ∀ (value slice : Expr) (pins : List (Addr × Obj)) (s : Shared) (σ : St) (H : Hp) (x y : V) (v u : Value) (Q : VK), Inv X pins σ H s → RelV x v → RelV y u → r x y H Q →
   subscripted slice false v u = operate [v, u] (getItem v u) → wpAny (model X.prog X.w) X.A (subscriptTail value slice v u) (EP X pins σ Q) X.xe s
def MtR (X : Cx) (id : String) (r : V → List V → Hp → VK → Prop) : Prop :=
 ∀ (pins : List (Addr × Obj)) (s : Shared) (σ : St) (H : Hp) (x : V) (xs : List V) (v : Value) (us : List Value) (Q : VK), Inv X pins σ H s → RelV x v → Vals xs us → r x xs H Q →
   wpAny (model X.prog X.w) X.A (call (.builtin id) (v :: us)) (EP X pins σ Q) X.xe s
section
variable {X : Cx} {a b : Expr} {ta tb : TE} {pos : Pos}
theorem IxR.or {r r' : R2} (h : IxR X r) (h' : IxR X r') : IxR X (fun x y H Q => r x y H Q ∨ r' x y H Q) := by
 intro value slice pins s σ H x y v u Q I rx ry q hs
 rcases q with q | q
 · exact h value slice pins s σ H x y v u Q I rx ry q hs
 · exact h' value slice pins s σ H x y v u Q I rx ry q hs
theorem MtR.or {id : String} {r r' : V → List V → Hp → VK → Prop} (h : MtR X id r) (h' : MtR X id r') : MtR X id (fun x xs H Q => r x xs H Q ∨ r' x xs H Q) := by
 intro pins s σ H x xs v us Q I rx rs q
 rcases q with q | q
 · exact h pins s σ H x xs v us Q I rx rs q
 · exact h' pins s σ H x xs v us Q I rx rs q
theorem pe_ix {r : R2} (hr : IxR X r) (ha : PE X a ta) (hb : PE X b tb) (hs : PlainIx b) : PE X (.Subscript a b pos) (tOp r ta tb) := by
 intro pins s σ H Q I h
 exact Subscript_ (binT ha hb I h fun v u s2 x y H2 I2 rx ry q => hr a b pins s2 σ H2 x y v u Q I2 rx ry q (hs _ _))
def rIxL (K : PySem.W.Frag) : R2 := fun x y H Q => ∃ p xs i v, x = .ref p ∧ y = .int i ∧ SqL K H p xs ∧ atI xs i = some v ∧ Q v H
def rIxT (K : PySem.W.Frag) : R2 := fun x y H Q => ∃ p xs i v, x = .ref p ∧ y = .int i ∧ SqT K H p xs ∧ atI xs i = some v ∧ Q v H
def rIxS : R2 := fun x y H Q => ∃ z i c, x = .str z ∧ y = .int i ∧ z.length ≤ sizeLine ∧ atI z.cps.toList i = some c ∧ Q (.str ⟨#[c]⟩) H
theorem ix_list : IxR X (rIxL X.K) := by
 intro value slice pins s σ H x y v u Q I rx ry h hs
 obtain ⟨p, xs, i, z, rfl, rfl, hq, he, q⟩ := h
 cases rx
 obtain ⟨t, rfl⟩ := ry
 obtain ⟨its, r, pl, hz⟩ := I.list hq
 obtain ⟨j, h1, h2, h3, h4, h5⟩ := atI_get he
 obtain ⟨w, ew, rw'⟩ := r.get h2
 have hl := r.length
 have hn := line63
 have fin : EP X pins σ Q w s := ⟨z, H, I, rw', q⟩
 by_cases h0 : 0 ≤ i
 · have hj : i.toNat = j := by
     rw [seqIndex_of h0 h5] at h1
     exact Option.some.inj h1
   exact item_listR pl.isList h0 (by omega) (by rw [hj]; simpa using ew) fin hs
 · have hj : (i + (its.toArray.size : Int)).toNat = j := by
     rw [seqIndex_neg (by omega) h4] at h1
     rw [List.size_toArray, ← hl]
     exact Option.some.inj h1
   exact subscriptTail_builtinR (x := w) pl.isList.typeIs slot_list_getitem.lookup
     (wpAny_getItem_list_neg (Q := fun r s' => r = w ∧ EP X pins σ Q r s') pl.isList (by omega) (by rw [List.size_toArray] <;> omega) (by omega) (by rw [hj]; simpa using ew) ⟨rfl, fin⟩) hs
theorem ix_tup : IxR X (rIxT X.K) := by
 intro value slice pins s σ H x y v u Q I rx ry h hs
 obtain ⟨p, xs, i, z, rfl, rfl, hq, he, q⟩ := h
 cases rx
 obtain ⟨t, rfl⟩ := ry
 obtain ⟨its, r, pl, hz⟩ := I.tuple hq
 obtain ⟨j, h1, h2, h3, h4, h5⟩ := atI_get he
 obtain ⟨w, ew, rw'⟩ := r.get h2
 have hl := r.length
 have hn := line63
 have fin : EP X pins σ Q w s := ⟨z, H, I, rw', q⟩
 exact subscriptTail_builtinR (x := w) pl.typeIs slot_tuple_getitem.lookup
   (getItem_tuple (j := j) (Q := fun r s' => r = w ∧ EP X pins σ Q r s') pl (by omega) (by omega) (by rw [List.size_toArray, ← hl]; exact h1) (by simpa using ew) ⟨rfl, fin⟩) hs
theorem ix_str : IxR X rIxS := by
 intro value slice pins s σ H x y v u Q I rx ry h hs
 obtain ⟨z, i, c, rfl, rfl, hz, he, q⟩ := h
 obtain ⟨t, rfl⟩ := rx
 obtain ⟨t', rfl⟩ := ry
 obtain ⟨j, h1, h2, h3, h4, h5⟩ := atI_get he
 have hl : z.cps.toList.length = z.length := by simp [Str.length]
 rw [hl] at h1 h4 h5
 have hn := line63
 exact tail_any (typeIs_str s z t) slot_str_getitem.lookup (getItem_str (c := c) (by
   have e1 : decide (i < -(2 ^ 63 : Int)) = false := decide_eq_false (by omega)
   have e2 : decide (i ≥ 2 ^ 63) = false := decide_eq_false (by omega)
   rw [e1, e2, Bool.or_false]) (by rw [h1]; simpa using h2) ⟨.str ⟨#[c]⟩, H, I.tok _, ⟨_, rfl⟩, q⟩) hs
def rIx (K : PySem.W.Frag) : R2 := fun x y H Q => rIxL K x y H Q ∨ rIxT K x y H Q ∨ rIxS x y H Q
theorem ix_seq : IxR X (rIx X.K) := ix_list.or (ix_tup.or ix_str)
theorem mapSeq_set (its : List Value) (n j : Nat) (u : Value) : Obj.mapSeq (·.setIfInBounds j u) { cls := .type "list", data := .seq its.toArray n } = { cls := .type "list", data := .seq (its.set j u).toArray n } := by
 simp [Obj.mapSeq]
theorem Inv.lst {pins : List (Addr × Obj)} {σ : St} {H : Hp} {s : Shared} {p : Addr} {xs : List V} (I : Inv X pins σ H s) (h : H p = some (.lst xs)) :
   ∃ (its : List Value) (n : Nat), Vals xs its ∧ s.heap.get? p = some { cls := .type "list", data := .seq its.toArray n } ∧ xs.length ≤ sizeLine := by
 obtain ⟨z, its, n, r, e⟩ := I.hok p _ h
 exact ⟨its, n, r, e, z⟩
theorem Inv.lstUpd {pins : List (Addr × Obj)} {σ : St} {H : Hp} {s : Shared} {p : Addr} {xs ys : List V} {its its' : List Value} {n n' : Nat} {f : Obj → Obj} (I : Inv X pins σ H s) (h : H p = some (.lst xs))
   (ho : s.heap.get? p = some { cls := .type "list", data := .seq its.toArray n }) (hf : f { cls := .type "list", data := .seq its.toArray n } = { cls := .type "list", data := .seq its'.toArray n' }) (r : Vals ys its') (hz : ys.length ≤ sizeLine) (t : Nat) :
   Inv X pins σ (upd H p (.lst ys)) { s with heap := s.heap.update p f, toks := t } := by
 have e : (s.heap.update p f).get? p = some { cls := .type "list", data := .seq its'.toArray n' } := by
   rw [Heap.get?_update_self f ho (by rw [hf] <;> rfl), hf]
 refine I.write (x := p) (e := p) (by rw [h]; trivial) (.inl rfl) (fun b u hb q => (Heap.get?_update_other _ _ (Ne.symm hb)).trans q) ⟨_, e⟩ ?_
 exact ⟨hz, its', n', r, e⟩
def rSetL : V → V → V → Hp → (Hp → Prop) → Prop := fun o i v H Q => ∃ p xs k j, o = .ref p ∧ i = .int k ∧ H p = some (.lst xs) ∧ ixN xs.length k = some j ∧ Q (upd H p (.lst (xs.set j v)))
theorem set_list : PSet X rSetL := by
 intro pins s σ H o i v ov iv u Q I ro ri rv h
 obtain ⟨p, xs, k, j, rfl, rfl, hp, hj, q⟩ := h
 cases ro
 obtain ⟨t, rfl⟩ := ri
 obtain ⟨its, n, r, ho, hz⟩ := I.lst hp
 obtain ⟨h1, h2, h3, h4⟩ := ixN_seq hj
 have hl := r.length
 have hn := line63
 have I' : Inv X pins σ (upd H p (.lst (xs.set j v))) { s with heap := s.heap.update p (Obj.mapSeq (·.setIfInBounds j u)) } :=
   I.lstUpd hp ho (mapSeq_set its n j u) (r.set rv j) (by rw [List.length_set]; exact hz) s.toks
 by_cases h0 : 0 ≤ k
 · have hk : k.toNat = j := by
     rw [seqIndex_of h0 h4] at h1
     exact Option.some.inj h1
   exact PySem.W.ki_setAt ho h0 (by omega) (by rw [List.size_toArray, ← hl]; exact h4) (by rw [hk]; exact ⟨_, I', q⟩)
 · have hk : (k + (its.toArray.size : Int)).toNat = j := by
     rw [seqIndex_neg (by omega) h3] at h1
     rw [List.size_toArray, ← hl]
     exact Option.some.inj h1
   exact PySem.W.ki_setBack ho (by omega) (by rw [List.size_toArray, ← hl]; exact h3) (by omega) (by rw [hk]; exact ⟨_, I', q⟩)
theorem slice_bounds (lo hi : Option Int) (n : Nat) : (sliceBounds lo hi none n).1 = ((HT.sIx n 0 lo : Nat) : Int) ∧ (sliceBounds lo hi none n).2.1 = ((HT.sIx n n hi : Nat) : Int) ∧ (sliceBounds lo hi none n).2.2 = 1 := by
 refine ⟨?_, ?_, rfl⟩
 · cases lo with
   | none => simp [sliceBounds, HT.sIx]
   | some i =>
     simp only [sliceBounds, HT.sIx, Option.getD_none, show (1 : Int) > 0 by decide, if_true]
     by_cases h : i < 0
     · simp only [h, if_true] <;> omega
     · simp only [h, if_false] <;> omega
 · cases hi with
   | none => simp [sliceBounds, HT.sIx]
   | some i =>
     simp only [sliceBounds, HT.sIx, Option.getD_none, show (1 : Int) > 0 by decide, if_true]
     by_cases h : i < 0
     · simp only [h, if_true] <;> omega
     · simp only [h, if_false] <;> omega
theorem slicePick_cut (its : List Value) (lo hi : Option Int) : slicePick its.toArray lo hi none = ((its.drop (HT.sIx its.length 0 lo)).take (HT.sIx its.length its.length hi - HT.sIx its.length 0 lo)).toArray := by
 obtain ⟨h1, h2, h3⟩ := slice_bounds lo hi its.toArray.size
 unfold slicePick
 rw [h1, h2, h3]
 simp only [sliceRange_one, pick_run, List.size_toArray] <;> rfl
def rSlL (K : PySem.W.Frag) : V → Option Int → Option Int → Hp → VK → Prop := fun x lo hi H Q => ∃ a xs, x = .ref a ∧ SqL K H a xs ∧ ∀ p, H p = none → Q (.ref p) (upd H p (.lst (cutV xs lo hi)))
theorem sl_list : SlR X (rSlL X.K) := by
 intro pins s σ H x v vl vu lo hi sl Q I rx hs pl pu h
 obtain ⟨a, xs, rfl, hx, q⟩ := h
 cases rx
 obtain ⟨its, r, ht, hz⟩ := I.list hx
 have hlen := r.length
 refine ⟨"list", _, slot_list_getitem.lookup, ht.isList.typeIs, ?_⟩
 refine wpAny_getItem_list_slice ht.isList hs pl pu .none (by simp) ?_ (by rw [List.size_toArray] <;> omega)
 rw [slicePick_cut, ← hlen]
 refine ⟨.ref s.heap.objs.size, _, I.laid (t' := s.toks) (o := .lst (cutV xs lo hi)) (fun b ob q => Heap.get?_push_of_some _ q) (Nat.le_refl _) ?_, rfl, q _ (I.hok.fresh (Nat.le_refl _))⟩
 exact ⟨Nat.le_trans (cutV_length xs lo hi) hz, _, 0, (r.drop (HT.sIx xs.length 0 lo)).take (HT.sIx xs.length xs.length hi - HT.sIx xs.length 0 lo), Heap.get?_push_size _ rfl⟩
def flatV : V → Bool
 | .non => true
 | .bl _ => true
 | .int _ => true
 | .str _ => true
 | _ => false
def eqV : V → V → Bool
 | .non, .non => true
 | .bl a, .bl b => a == b
 | .bl a, .int b => (if a then 1 else 0) == b
 | .int a, .bl b => a == (if b then 1 else 0)
 | .int a, .int b => a == b
 | .str a, .str b => a == b
 | _, _ => false
theorem eqAt_V {A : Around} {s : Shared} {y x : V} {u v : Value} (ry : RelV y u) (rx : RelV x v) (fy : flatV y = true) (fx : flatV x = true) : SeqAt.EqAt A s u v (eqV y x) := by
 cases y with
 | non =>
   cases ry
   cases x with
   | non => cases rx; exact SeqAt.EqAt.same _
   | bl b => cases rx; exact SeqAt.EqAt.none_bool b
   | int b => obtain ⟨t, rfl⟩ := rx; exact SeqAt.EqAt.none_int b t
   | str b => obtain ⟨t, rfl⟩ := rx; exact SeqAt.EqAt.none_str b t
   | _ => exact absurd (show false = true from fx) Bool.false_ne_true
 | bl a =>
   cases ry
   cases x with
   | non => cases rx; exact SeqAt.EqAt.bool_none a
   | bl b => cases rx; exact SeqAt.EqAt.bool_bool a b
   | int b => obtain ⟨t, rfl⟩ := rx; exact SeqAt.EqAt.bool_int a b t
   | str b => obtain ⟨t, rfl⟩ := rx; exact SeqAt.EqAt.bool_str a b t
   | _ => exact absurd (show false = true from fx) Bool.false_ne_true
 | int a =>
   obtain ⟨t', rfl⟩ := ry
   cases x with
   | non => cases rx; exact SeqAt.EqAt.int_none a t'
   | bl b => cases rx; exact SeqAt.EqAt.int_bool a t' b
   | int b => obtain ⟨t, rfl⟩ := rx; exact SeqAt.EqAt.int_int a t' b t
   | str b => obtain ⟨t, rfl⟩ := rx; exact SeqAt.EqAt.int_str a t' b t
   | _ => exact absurd (show false = true from fx) Bool.false_ne_true
 | str a =>
   obtain ⟨t', rfl⟩ := ry
   cases x with
   | non => cases rx; exact SeqAt.EqAt.str_none a t'
   | bl b => cases rx; exact SeqAt.EqAt.str_bool a t' b
   | int b => obtain ⟨t, rfl⟩ := rx; exact SeqAt.EqAt.str_int a t' b t
   | str b => obtain ⟨t, rfl⟩ := rx; exact SeqAt.EqAt.str_str a t' b t
   | _ => exact absurd (show false = true from fx) Bool.false_ne_true
 | _ => exact absurd (show false = true from fy) Bool.false_ne_true
theorem call_len_seq : CallR X (.builtin "len") (fun xs H Q => ∃ p ys, xs = [.ref p] ∧ (SqL X.K H p ys ∨ SqT X.K H p ys) ∧ Q (.int ys.length) H) := by
 intro pins s σ H xs us Q I r h
 obtain ⟨p, ys, rfl, hq, q⟩ := h
 obtain ⟨u, rfl, rx⟩ := vals1 r
 cases rx
 have hn := line63
 rcases hq with hq | hq
 · obtain ⟨its, r', pl, hz⟩ := I.list hq
   have hlen := r'.length
   exact Calls.call_len_list pl.isList (by simp only [List.size_toArray] <;> omega) ⟨.int ys.length, H, I.tok _, ⟨s.toks + 1, by rw [List.size_toArray, hlen]⟩, q⟩
 · obtain ⟨its, r', pl, hz⟩ := I.tuple hq
   have hlen := r'.length
   exact len_tuple pl (by simp only [List.size_toArray] <;> omega) ⟨.int ys.length, H, I.tok _, ⟨s.toks + 1, by rw [List.size_toArray, hlen]⟩, q⟩
theorem CallR.or {f : Value} {r r' : List V → Hp → VK → Prop} (h : CallR X f r) (h' : CallR X f r') : CallR X f (fun xs H Q => r xs H Q ∨ r' xs H Q) := by
 intro pins s σ H xs us Q I rs q
 rcases q with q | q
 · exact h pins s σ H xs us Q I rs q
 · exact h' pins s σ H xs us Q I rs q
theorem call_list_of : CallR X (.type "list") (fun xs H Q => ∃ p ys, xs = [.ref p] ∧ (SqL X.K H p ys ∨ SqT X.K H p ys) ∧ ∀ l, H l = none → Q (.ref l) (upd H l (.lst ys))) := by
 intro pins s σ H xs us Q I r h
 obtain ⟨p, ys, rfl, hq, q⟩ := h
 obtain ⟨u, rfl, rx⟩ := vals1 r
 cases rx
 have fin : ∀ (its : List Value), Vals ys its → ys.length ≤ sizeLine → ∀ (h' : Heap) (c' : Nat), (∀ b o', s.heap.get? b = some o' → h'.get? b = some o') →
     h'.get? s.heap.objs.size = some { cls := .type "list", dict := none, data := .seq its.toArray c', slots := #[] } → EP X pins σ Q (.ref s.heap.objs.size) { s with heap := h' } := fun its r' hz h' c' kp e =>
   ⟨.ref s.heap.objs.size, _, I.laid (t' := s.toks) kp (Nat.le_refl _) (show ObjOk X.prog X.w _ h' _ (.lst ys) from ⟨hz, its, c', r', e⟩), rfl, q _ (I.hok.fresh (Nat.le_refl _))⟩
 rcases hq with hq | hq
 · obtain ⟨its, r', pl, hz⟩ := I.list hq
   have hlen := r'.length
   obtain ⟨o, ho, hc, n, hd⟩ := pl.isList
   exact call_list_seq p (.inl rfl) ho hc hd (fun h' c' kp e => fin its r' hz h' c' kp e) (by simp only [List.size_toArray] <;> omega)
 · obtain ⟨its, r', pl, hz⟩ := I.tuple hq
   have hlen := r'.length
   obtain ⟨o, ho, hc, n, hd⟩ := pl
   exact call_list_seq p (.inr rfl) ho hc hd (fun h' c' kp e => fin its r' hz h' c' kp e) (by simp only [List.size_toArray] <;> omega)
def tyV (K : PySem.W.Frag) (T : String) (x : V) (H : Hp) : Prop := match x with
 | .str _ => T = "str"
 | .int _ => T = "int"
 | .ref p => (T = "list" ∧ ∃ xs, SqL K H p xs) ∨ (T = "tuple" ∧ ∃ o, K.lookup p = some o ∧ o.cls = .type "tuple" ∧ o.dict = none) ∨
     (T = "dict" ∧ ((∃ kvs, H p = some (.dK kvs)) ∨ ∃ kvs, H p = some (.dT kvs))) ∨ (T = "set" ∧ ∃ S n, H p = some (.set S n))
 | _ => False
theorem tyV_is {pins : List (Addr × Obj)} {σ : St} {H : Hp} {s : Shared} {T : String} {x : V} {v : Value} (I : Inv X pins σ H s) (r : RelV x v) (ty : tyV X.K T x H) :
   s.TypeIs v T ∧ ∀ a, v = .ref a → ∃ ob, s.heap.get? a = some ob ∧ ob.dict = none := by
 cases x with
 | str z =>
   obtain ⟨t, rfl⟩ := r
   cases (show T = "str" from ty)
   exact ⟨typeIs_str s z t, fun _ e => nomatch e⟩
 | int i =>
   obtain ⟨t, rfl⟩ := r
   cases (show T = "int" from ty)
   exact ⟨typeIs_int s i t, fun _ e => nomatch e⟩
 | ref p =>
   cases r
   rcases ty with ⟨rfl, xs, hq⟩ | ⟨rfl, o, hk, hc, hd⟩ | ⟨rfl, hk⟩ | ⟨rfl, S, n, hk⟩
   · obtain ⟨its, _, pl, _⟩ := I.list hq
     refine ⟨pl.isList.typeIs, fun a e => ?_⟩
     cases e
     obtain ⟨o, n, e, c, hd, _⟩ := pl
     exact ⟨o, e, hd⟩
   · refine ⟨⟨o, I.kIn p o hk, hc⟩, fun a e => ?_⟩
     cases e
     exact ⟨o, I.kIn _ o hk, hd⟩
   · have z : ∃ o, s.heap.get? p = some o ∧ o.ExactDict := by
       rcases hk with ⟨kvs, hk⟩ | ⟨kvs, hk⟩
       · obtain ⟨_, _, _, _, o, _, _, e, ex, _⟩ := I.hok p _ hk
         exact ⟨o, e, ex⟩
       · obtain ⟨_, _, _, _, o, _, _, e, ex, _⟩ := I.hok p _ hk
         exact ⟨o, e, ex⟩
     obtain ⟨o, e, ex⟩ := z
     refine ⟨⟨o, e, ex.1⟩, fun a e2 => ?_⟩
     cases e2
     exact ⟨o, e, ex.2.1⟩
   · obtain ⟨o, _, _, _, e, ex, _⟩ := I.hok p _ hk
     refine ⟨⟨o, e, ex.1⟩, fun a e2 => ?_⟩
     cases e2
     exact ⟨o, e, ex.2.1⟩
 | _ => exact False.elim ty
def tBM0 (K : PySem.W.Frag) (T : String) (r : V → List V → Hp → VK → Prop) (to : TE) : TE := fun σ H Q => to σ H fun x H1 => tyV K T x H1 ∧ r x [] H1 Q
def tBM (K : PySem.W.Frag) (T : String) (r : V → List V → Hp → VK → Prop) (to : TE) (t : TA) : TE := fun σ H Q => to σ H fun x H1 => tyV K T x H1 ∧ t σ H1 fun xs H2 => r x xs H2 Q
variable {o e : Expr} {es : List Expr} {to : TE} {t : TA} {name : Str} {apos cpos : Pos} {T id : String} {r : V → List V → Hp → VK → Prop}
theorem pe_bm0 (pa : PlainAttrs T) (slot : Slot T name id) (hty : typeOf (.builtin id) = pure (.type "method_descriptor")) (hm : MtR X id r) (ho : PE X o to)
   (hbase : attributeBase o name X.env (eval o X.env) = eval o X.env := by rfl) (hline : (apos.endLine == cpos.line) = true := by rfl) : PE X (.Call (.Attribute o name apos) [] [] cpos) (tBM0 X.K T r to) := by
 intro pins s σ H Q I h
 refine wpAny_Call_method0_late hbase hline (thn (ho pins s σ H _ I h) fun v s1 ⟨x, H1, I1, r1, ty, q1⟩ => ?_)
 obtain ⟨h1, h2⟩ := tyV_is I1 r1 ty
 exact ⟨T, id, pa, slot, hty, h1, h2, Calls.callWith_builtin rfl (PySem.evalArgs_none (hm pins s1 σ H1 x [] v [] Q I1 r1 .nil q1))⟩
theorem pe_bm (pa : PlainAttrs T) (slot : Slot T name id) (hty : typeOf (.builtin id) = pure (.type "method_descriptor")) (hm : MtR X id r) (ho : PE X o to) (ha : PA X (e :: es) t)
   (hbase : attributeBase o name X.env (eval o X.env) = eval o X.env := by rfl)
   (hfew : ((backTo cpos (starEach (e :: es) X.env)).all (fun x => !x.1) && (backToKw cpos (keywordEach [] X.env)).all (fun x => x.1.isSome)
     && decide ((e :: es).length + ([] : List Keyword).length + (if ([] : List Keyword).isEmpty then 0 else 1) < 30)) = true := by rfl)
   (hline : (apos.endLine == cpos.line) = true := by rfl) (hs : starEach (e :: es) X.env = (false, eval e X.env) :: starEach es X.env := by rfl) (hplain : (backTo cpos (starEach es X.env)).any (·.1) = false := by rfl) :
   PE X (.Call (.Attribute o name apos) (e :: es) [] cpos) (tBM X.K T r to t) := by
 intro pins s σ H Q I h
 refine wpAny_Call_method_late hbase hfew hline rfl (thn (ho pins s σ H _ I h) fun v s1 ⟨x, H1, I1, r1, ty, q1⟩ => ?_)
 obtain ⟨h1, h2⟩ := tyV_is I1 r1 ty
 refine ⟨T, id, pa, slot, hty, h1, h2, ?_⟩
 have hA := ha cpos pins s1 σ H1 _ I1 q1
 rw [hs] at hA ⊢
 refine Calls.callWith_builtin (by show (false || (backTo cpos (starEach es X.env)).any (·.1)) = false; rw [hplain] <;> rfl) (Calls.evalArgs_plain ?_)
 exact thn hA fun us s2 ⟨vs, H2, I2, r2, q2⟩ => hm pins s2 σ H2 x vs v us Q I2 r1 r2 q2
/- xs.append(e), list.index on a module's tuple .. are MtR facts of 06m -/
end
end L2
namespace L2
open PySem PySem.Spec PyProof.Rows
def MtM (X : Cx) (id : String) (r : V → List V → Hp → VK → Prop) : Prop :=
 ∀ (pins : List (Addr × Obj)) (s : Shared) (σ : St) (H : Hp) (x : V) (xs : List V) (v : Value) (us : List Value) (Q : VK), Inv X pins σ H s → RelV x v → Vals xs us → r x xs H Q →
   wpAny (model X.prog X.w) X.A (call (.builtin id) (v :: us)) (EP X pins σ Q) X.xe s
theorem Vals.one : ∀ {x : V} {us : List Value}, Vals [x] us → ∃ u, us = [u] ∧ RelV x u
 | _, _, .cons r .nil => ⟨_, rfl, r⟩
theorem Vals.zero : ∀ {us : List Value}, Vals [] us → us = []
 | _, .nil => rfl
theorem Vals.dropLast {xs : List V} {us : List Value} (h : Vals xs us) : Vals xs.dropLast us.dropLast := by
 induction h with
 | nil => exact .nil
 | cons r t ih =>
   cases t with
   | nil => exact .nil
   | cons q t' => exact .cons r ih
theorem Vals.rep {xs : List V} {us : List Value} (h : Vals xs us) : ∀ k : Nat, Vals (List.replicate k xs).flatten (List.replicate k us).flatten
 | 0 => .nil
 | k + 1 => by
   rw [List.replicate_succ, List.replicate_succ, List.flatten_cons, List.flatten_cons]
   exact Vals.append h (Vals.rep h k)
theorem foldl_rep (its : List Value) : ∀ (k : Nat) (acc : List Value),
   List.foldl (fun x1 x2 => x1 ++ x2) acc.toArray (List.replicate k its.toArray) = (acc ++ (List.replicate k its).flatten).toArray
 | 0, acc => by simp
 | k + 1, acc => by
   have e : acc.toArray ++ its.toArray = (acc ++ its).toArray := by simp
   have e2 : (acc ++ its) ++ (List.replicate k its).flatten = acc ++ (List.replicate (k + 1) its).flatten := by
     rw [List.replicate_succ, List.flatten_cons, List.append_assoc]
   rw [← e2, ← foldl_rep its k (acc ++ its), ← e, List.replicate_succ, List.foldl_cons]
section
variable {X : Cx} {pins : List (Addr × Obj)} {σ : St} {H : Hp} {s : Shared} {l b : Addr} {xs ys zs : List V}
theorem Inv.lset {its its' : List Value} {n : Nat} {f : Array Value → Array Value} {t' : Nat} (I : Inv X pins σ H s) (hH : H l = some (.lst xs))
   (e : s.heap.get? l = some { cls := .type "list", data := .seq its.toArray n }) (hf : f its.toArray = its'.toArray) (hv : Vals ys its') (hz : ys.length ≤ sizeLine) :
   Inv X pins σ (upd H l (.lst ys)) { s with heap := s.heap.update l (Obj.mapSeq f), toks := t' } := by
 have q := PySem.IsL.update e f
 rw [hf] at q
 refine I.write (x := l) (e := l) (by rw [hH]; exact trivial) (.inl rfl) (fun b' u hb hu => (Heap.get?_update_other s.heap (Obj.mapSeq f) (Ne.symm hb)).trans hu) ⟨_, q⟩ ?_
 exact ⟨hz, its', _, hv, q⟩
theorem Inv.lnew {its : List Value} {t' : Nat} (I : Inv X pins σ H s) (hv : Vals ys its) (hz : ys.length ≤ sizeLine) :
   Inv X pins σ (upd H s.heap.objs.size (.lst ys)) { s with heap := s.heap.push { cls := .type "list", data := .seq its.toArray }, toks := t' } :=
 I.laid (fun _ _ q => Heap.get?_push_of_some _ q) (Nat.le_refl _) ⟨hz, its, 0, hv, Heap.get?_push_size _ rfl⟩
theorem Inv.fresh (I : Inv X pins σ H s) : H s.heap.objs.size = none := I.hok.fresh (Nat.le_refl _)
theorem Inv.lstM (I : Inv X pins σ H s) (hH : H l = some (.lst xs)) : xs.length ≤ sizeLine ∧ ∃ (its : List Value) (n : Nat), Vals xs its ∧ xs.length = its.length ∧ s.heap.get? l = some { cls := .type "list", data := .seq its.toArray n } := by
 obtain ⟨z, its, n, r, e⟩ := I.hok l _ hH
 exact ⟨z, its, n, r, r.length, e⟩
theorem notLongL {n : Nat} (h : n ≤ sizeLine) : Builtin.List.listTooLong n = false := by
 unfold Builtin.List.listTooLong
 exact decide_eq_false (by omega)
end
section
variable {X : Cx}
def rAppend : V → List V → Hp → VK → Prop := fun x vs H Q => ∃ l xs y, x = .ref l ∧ vs = [y] ∧ H l = some (.lst xs) ∧ xs.length < sizeLine ∧ Q .non (upd H l (.lst (xs ++ [y])))
theorem mt_append : MtM X "list.append" rAppend := by
 intro pins s σ H x vs v us Q I rx rv h
 obtain ⟨l, xs, y, rfl, rfl, hH, hz, q⟩ := h
 cases rx
 obtain ⟨u, rfl, ru⟩ := rv.one
 obtain ⟨z, its, n, r, hl, e⟩ := I.lstM hH
 refine call_meets F.slot_list_append ⟨_, e, rfl⟩ F.entry_list_append (F.args_list_append_2 _ _) (PySem.list_append l its.toArray n u (by rw [List.size_toArray]; omega)) ⟨e, ?_⟩
 refine ⟨.non, _, I.lset (its' := its ++ [u]) hH e (by simp) (r.append (.cons ru .nil)) ?_, rfl, q⟩
 rw [List.length_append, List.length_singleton]
 omega
def rClear : V → List V → Hp → VK → Prop := fun x vs H Q => ∃ l xs, x = .ref l ∧ vs = [] ∧ H l = some (.lst xs) ∧ Q .non (upd H l (.lst []))
theorem mt_clear : MtM X "list.clear" rClear := by
 intro pins s σ H x vs v us Q I rx rv h
 obtain ⟨l, xs, rfl, rfl, hH, q⟩ := h
 cases rx
 have hus := rv.zero
 subst hus
 obtain ⟨z, its, n, r, hl, e⟩ := I.lstM hH
 refine call_meets F.slot_list_clear ⟨_, e, rfl⟩ F.entry_list_clear (F.args_list_clear_1 _) (AutoSeq1.list_clear_list_0 l its.toArray n (by rw [List.size_toArray]; omega)) ⟨e, ?_⟩
 exact ⟨.non, _, I.lset (its' := []) (ys := []) hH e rfl .nil (Nat.zero_le _), rfl, q⟩
def rCat : R2 := fun x y H Q => ∃ l b xs zs, x = .ref l ∧ y = .ref b ∧ H l = some (.lst xs) ∧ H b = some (.lst zs) ∧ xs.length + zs.length ≤ sizeLine ∧ ∀ p, H p = none → Q (.ref p) (upd H p (.lst (xs ++ zs)))
theorem op_cat : OpR X (binaryOp .Add) rCat := by
 intro pins s σ H x y v u Q I rx ry h
 obtain ⟨l, b, xs, zs, rfl, rfl, hH, hB, hz, q⟩ := h
 cases rx
 cases ry
 obtain ⟨z, its, n, r, hl, e⟩ := I.lstM hH
 obtain ⟨z2, its2, n2, r2, hl2, e2⟩ := I.lstM hB
 refine PySem.P.add_list e e2 ?_ (by rw [List.size_toArray, List.size_toArray]; omega)
 have ea : its.toArray ++ its2.toArray = (its ++ its2).toArray := by simp
 rw [ea]
 exact ⟨.ref _, _, I.lnew (t' := s.toks) (r.append r2) (by rw [List.length_append]; omega), rfl, q _ I.fresh⟩
def rRep : R2 := fun x y H Q => ∃ l k xs, x = .ref l ∧ y = .int k ∧ H l = some (.lst xs) ∧ -(2 ^ 63) ≤ k ∧ k < 2 ^ 63 ∧ xs.length * k.toNat ≤ sizeLine ∧
 ∀ p, H p = none → Q (.ref p) (upd H p (.lst (List.replicate k.toNat xs).flatten))
theorem len_rep {α : Type} (xs : List α) (k : Nat) : (List.replicate k xs).flatten.length = k * xs.length := by
 induction k with
 | zero => simp
 | succ k ih => rw [List.replicate_succ, List.flatten_cons, List.length_append, ih, Nat.succ_mul, Nat.add_comm]
theorem op_rep : OpR X (binaryOp .Mult) rRep := by
 intro pins s σ H x y v u Q I rx ry h
 obtain ⟨l, k, xs, rfl, rfl, hH, h1, h2, hz, q⟩ := h
 cases rx
 obtain ⟨t, rfl⟩ := ry
 obtain ⟨z, its, n, r, hl, e⟩ := I.lstM hH
 have hlen : its.toArray.size * k.toNat ≤ sizeLine := by rw [List.size_toArray, ← hl]; exact hz
 have hcap : ¬ its.toArray.size * k.toNat > (2 ^ 63 - 1) / 8 := by
   have : (sizeLine : Nat) ≤ (2 ^ 63 - 1) / 8 := by decide
   omega
 have hfit : ¬ (!Builtin.List.listFitsIndex k) = true := by
   rw [fitsIndex_both h1 h2]
   exact Bool.false_ne_true
 have hlong : ¬ Builtin.List.listTooLong (its.toArray.size * k.toNat) = true := by
   rw [notLongL hlen]
   exact Bool.false_ne_true
 have hnew : List.foldl (fun x1 x2 => x1 ++ x2) #[] (List.replicate (if its.toArray.isEmpty = true then 0 else k.toNat) its.toArray) = (List.replicate k.toNat its).flatten.toArray := by
   have f0 : ∀ m : Nat, List.foldl (fun x1 x2 => x1 ++ x2) #[] (List.replicate m its.toArray) = (List.replicate m its).flatten.toArray := fun m => by
     have := foldl_rep its m []
     rw [List.nil_append] at this
     exact this
   rw [f0]
   cases its with
   | nil => simp
   | cons a r' => rw [if_neg (by simp)]
 refine wpAny_binaryOp_repeat_ref (T := "list") (U := "int") (by decide) ⟨_, e, rfl⟩ (fun s' => typeIs_int s' k t) noFill_list_mul F.fills_int_mul F.slot_int_rmul repeat_list F.slot_int_index.lookup
   (call_meets F.slot_int_rmul (typeIs_int s k t) F.entry_int_rmul (F.args_int_rmul_2 _ _) (int___rmul___int_list k t l its.toArray n)
     ⟨e, rfl, ⟨_, e, rfl⟩, call_meets F.slot_list_mul ⟨_, e, rfl⟩ F.entry_list_mul (F.args_list_mul_2 _ _) (AutoListH.list___mul___list_int_3 l its.toArray n k t hfit hcap hlong) ⟨e, ?_⟩⟩)
 rw [hnew]
 exact ⟨.ref _, _, I.lnew (t' := s.toks) (r.rep k.toNat) (by rw [len_rep, Nat.mul_comm]; exact hz), rfl, q _ I.fresh⟩
end
section
variable {prog : Program} {w : World} {A : Around} {E : Value → Shared → Prop} {s : Shared}
end
section
variable {X : Cx}
end
end L2
namespace L2
open PySem PySem.Spec PyProof.Rows
section
variable {κ : Type} [DecidableEq κ]
def valV (kvs : List (κ × V)) (k : κ) : Option V := (kvs.find? fun kv => decide (kv.1 = k)).map (·.2)
def putK (kvs : List (κ × V)) (k : κ) (v : V) : List (κ × V) :=
 if (kvs.any fun kv => decide (kv.1 = k)) = true then kvs.map (fun kv => if kv.1 = k then (kv.1, v) else kv) else kvs ++ [(k, v)]
def dropK (kvs : List (κ × V)) (k : κ) : List (κ × V) := kvs.filter fun kv => decide (kv.1 ≠ k)
theorem valV_pos {p : κ × V} {r : List (κ × V)} {k : κ} (e : p.1 = k) : valV (p :: r) k = some p.2 := by simp [valV, List.find?_cons, e]
theorem valV_neg {p : κ × V} {r : List (κ × V)} {k : κ} (e : ¬ p.1 = k) : valV (p :: r) k = valV r k := by simp [valV, List.find?_cons, e]
theorem valV_any (k : κ) : ∀ kvs : List (κ × V), (kvs.any fun kv => decide (kv.1 = k)) = (valV kvs k).isSome
 | [] => rfl
 | p :: r => by
   rw [List.any_cons]
   by_cases e : p.1 = k
   · simp only [valV_pos e, decide_eq_true e, Bool.true_or, Option.isSome_some]
   · rw [valV_neg e, decide_eq_false e, Bool.false_or]; exact valV_any k r
theorem RelO.isSome_eq {o : Option V} {u : Option Value} (r : RelO o u) : o.isSome = u.isSome := by
 cases o with
 | none => cases u with
   | none => rfl
   | some _ => exact (show False from r).elim
 | some _ => cases u with
   | none => exact (show False from r).elim
   | some _ => rfl
theorem RelO.getD {o : Option V} {u : Option Value} {d : V} {d' : Value} (r : RelO o u) (rd : RelV d d') : RelV (o.getD d) (u.getD d') := by
 cases o with
 | none => cases u with
   | none => exact rd
   | some _ => exact (show False from r).elim
 | some _ => cases u with
   | none => exact (show False from r).elim
   | some _ => exact r
theorem KV.val {kvs : List (κ × V)} {vs : List (κ × Value)} (r : KV kvs vs) (k : κ) : RelO (valV kvs k) (valueAt vs k) := by
 unfold KV at r
 induction r with
 | nil => exact True.intro
 | @cons p q ps qs h t ih =>
   obtain ⟨h1, h2⟩ := h
   by_cases e : p.1 = k
   · have e' : q.1 = k := h1.symm.trans e
     have b : valueAt (q :: qs) k = some q.2 := by simp [valueAt, List.find?_cons, e']
     rw [valV_pos e, b]; exact h2
   · have e' : ¬ q.1 = k := fun z => e (h1.trans z)
     have b : valueAt (q :: qs) k = valueAt qs k := by simp [valueAt, List.find?_cons, e']
     rw [valV_neg e, b]; exact ih
theorem KV.any {kvs : List (κ × V)} {vs : List (κ × Value)} (r : KV kvs vs) (k : κ) : (kvs.any fun kv => decide (kv.1 = k)) = vs.any fun kv => decide (kv.1 = k) := by
 unfold KV at r
 induction r with
 | nil => rfl
 | cons h t ih => rw [List.any_cons, List.any_cons, ih, h.1]
theorem KV.repl {kvs : List (κ × V)} {vs : List (κ × Value)} (r : KV kvs vs) (k : κ) {y : V} {u : Value} (ry : RelV y u) :
   KV (kvs.map fun kv => if kv.1 = k then (kv.1, y) else kv) (vs.map fun kv => if kv.1 = k then (kv.1, u) else kv) := by
 unfold KV at r ⊢
 induction r with
 | nil => exact .nil
 | @cons p q ps qs h t ih =>
   rw [List.map_cons, List.map_cons]
   refine .cons ?_ ih
   obtain ⟨h1, h2⟩ := h
   by_cases e : p.1 = k
   · rw [if_pos e, if_pos (h1.symm.trans e)]; exact ⟨h1, ry⟩
   · rw [if_neg e, if_neg (fun z => e (h1.trans z))]; exact ⟨h1, h2⟩
theorem KV.put {kvs : List (κ × V)} {vs : List (κ × Value)} (r : KV kvs vs) (k : κ) {y : V} {u : Value} (ry : RelV y u) : KV (putK kvs k y) (stored vs k u) := by
 unfold putK stored
 rw [r.any k]
 by_cases e : (vs.any fun kv => decide (kv.1 = k)) = true
 · rw [if_pos e, if_pos e]; exact r.repl k ry
 · rw [if_neg e, if_neg e]; exact Paired.snoc r ⟨rfl, ry⟩
theorem KV.drop {kvs : List (κ × V)} {vs : List (κ × Value)} (r : KV kvs vs) (k : κ) : KV (dropK kvs k) (without vs k) := by
 unfold KV at r ⊢
 unfold dropK without
 induction r with
 | nil => exact .nil
 | @cons p q ps qs h t ih =>
   obtain ⟨h1, h2⟩ := h
   rw [List.filter_cons, List.filter_cons]
   by_cases e : p.1 = k
   · have a : ¬ decide (p.1 ≠ k) = true := by simp [e]
     have b : ¬ decide (q.1 ≠ k) = true := by simp [h1.symm.trans e]
     rw [if_neg a, if_neg b]; exact ih
   · have e' : ¬ q.1 = k := fun z => e (h1.trans z)
     have a : decide (p.1 ≠ k) = true := by simp [e]
     have b : decide (q.1 ≠ k) = true := by simp [e']
     rw [if_pos a, if_pos b]; exact .cons ⟨h1, h2⟩ ih
theorem KV.keys {kvs : List (κ × V)} {vs : List (κ × Value)} (r : KV kvs vs) : kvs.map (·.1) = vs.map (·.1) := by
 unfold KV at r
 induction r with
 | nil => rfl
 | cons h t ih => rw [List.map_cons, List.map_cons, ih, h.1]
theorem KV.length {kvs : List (κ × V)} {vs : List (κ × Value)} (r : KV kvs vs) : kvs.length = vs.length := Paired.length r
end
abbrev KT (H : Hp) : List (List Key × V) → List (List Key × Addr × Value) → Prop := Paired fun p q => p.1 = q.1 ∧ H q.2.1 = some (.tup (p.1.map kV)) ∧ RelV p.2 q.2.2
theorem KT.val {H : Hp} {kvs : List (List Key × V)} {xs : List (List Key × Addr × Value)} (r : KT H kvs xs) (k : List Key) : RelO (valV kvs k) ((atKey xs k).map (·.2)) := by
 induction r with
 | nil => exact True.intro
 | @cons p q ps qs h t ih =>
   obtain ⟨h1, _, h2⟩ := h
   by_cases e : p.1 = k
   · have e' : q.1 = k := h1.symm.trans e
     have b : atKey (q :: qs) k = some q.2 := by simp [atKey, List.find?_cons, e']
     rw [valV_pos e, b]; exact h2
   · have e' : ¬ q.1 = k := fun z => e (h1.trans z)
     have b : atKey (q :: qs) k = atKey qs k := by simp [atKey, List.find?_cons, e']
     rw [valV_neg e, b]; exact ih
theorem KT.repl {H : Hp} {kvs : List (List Key × V)} {xs : List (List Key × Addr × Value)} (r : KT H kvs xs) (k : List Key) {y : V} {u : Value} (ry : RelV y u) :
   KT H (kvs.map fun kv => if kv.1 = k then (kv.1, y) else kv) (xs.map (putAt k u)) := by
 induction r with
 | nil => exact .nil
 | @cons p q ps qs h t ih =>
   rw [List.map_cons, List.map_cons]
   refine .cons ?_ ih
   obtain ⟨h1, h2, h3⟩ := h
   unfold putAt
   by_cases e : p.1 = k
   · rw [if_pos e, if_pos (h1.symm.trans e)]; exact ⟨h1, h2, ry⟩
   · rw [if_neg e, if_neg (fun z => e (h1.trans z))]; exact ⟨h1, h2, h3⟩
theorem KT.put {H : Hp} {kvs : List (List Key × V)} {xs : List (List Key × Addr × Value)} (r : KT H kvs xs) (k : List Key) {b : Addr} {y : V} {u : Value} (hb : H b = some (.tup (k.map kV))) (ry : RelV y u) :
   KT H (putK kvs k y) (storedH xs k b u) := by
 have e : (kvs.any fun kv => decide (kv.1 = k)) = (atKey xs k).isSome := by
   rw [valV_any, (r.val k).isSome_eq, Option.isSome_map]
 unfold putK storedH
 rw [e]
 by_cases q : (atKey xs k).isSome = true
 · rw [if_pos q, if_pos q]; exact r.repl k ry
 · rw [if_neg q, if_neg q]; exact Paired.snoc r ⟨rfl, hb, ry⟩
theorem KT.keeps {H H' : Hp} {kvs : List (List Key × V)} {xs : List (List Key × Addr × Value)} (r : KT H kvs xs) (ht : ∀ b ys, H b = some (.tup ys) → H' b = some (.tup ys)) : KT H' kvs xs :=
 Paired.mapP r fun _ _ z => ⟨z.1, ht _ _ z.2.1, z.2.2⟩
section
variable {P : Program} {w : World} {H : Hp} {h : Heap} {a : Addr}
end
def DGet (H : Hp) (a : Addr) (y : V) (r : Option V) : Prop :=
 (∃ kvs k, Rd H a (.dK kvs) ∧ y = kV k ∧ r = valV kvs k) ∨ ∃ kvs k b, Rd H a (.dT kvs) ∧ y = .ref b ∧ H b = some (.tup (k.map kV)) ∧ r = valV kvs k
def DPut (H : Hp) (a : Addr) (y v : V) (H' : Hp) : Prop :=
 (∃ kvs k, H a = some (.dK kvs) ∧ y = kV k ∧ kvs.length < sizeLine ∧ H' = upd H a (.dK (putK kvs k v))) ∨
 ∃ kvs k b, H a = some (.dT kvs) ∧ y = .ref b ∧ H b = some (.tup (k.map kV)) ∧ kvs.length < sizeLine ∧ H' = upd H a (.dT (putK kvs k v))
theorem DGet.k {H : Hp} {a : Addr} {kvs : List (Key × V)} {k : Key} (e : H a = some (.dK kvs)) : DGet H a (kV k) (valV kvs k) := .inl ⟨kvs, k, .inl e, rfl, rfl⟩
theorem DGet.t {H : Hp} {a b : Addr} {kvs : List (List Key × V)} {k : List Key} (e : H a = some (.dT kvs)) (eb : H b = some (.tup (k.map kV))) : DGet H a (.ref b) (valV kvs k) := .inr ⟨kvs, k, b, .inl e, rfl, eb, rfl⟩
theorem DPut.k {H : Hp} {a : Addr} {kvs : List (Key × V)} {k : Key} {v : V} (e : H a = some (.dK kvs)) (hl : kvs.length < sizeLine) : DPut H a (kV k) v (upd H a (.dK (putK kvs k v))) := .inl ⟨kvs, k, e, rfl, hl, rfl⟩
theorem DPut.t {H : Hp} {a b : Addr} {kvs : List (List Key × V)} {k : List Key} {v : V} (e : H a = some (.dT kvs)) (eb : H b = some (.tup (k.map kV))) (hl : kvs.length < sizeLine) :
   DPut H a (.ref b) v (upd H a (.dT (putK kvs k v))) := .inr ⟨kvs, k, b, e, rfl, eb, hl, rfl⟩
section
variable {X : Cx} {pins : List (Addr × Obj)} {σ : St} {H : Hp} {s : Shared} {a : Addr} {y v : V} {u r : Value} {o : Option V} {A : Around} {E : Value → Shared → Prop}
theorem Inv.big (I : Inv X pins σ H s) : sysModules < s.heap.objs.size := by
 have h : mainGlobals < s.heap.objs.size := (I.mod.glob.keeps I.bk).lt
 exact Nat.lt_trans (by decide) h
end
section
variable {X : Cx} {pins : List (Addr × Obj)} {σ : St} {H : Hp} {s : Shared} {a : Addr} {kvs : List (Key × V)} {k : Key} {u : Value} {A : Around} {E : Value → Shared → Prop}
end
section
variable {X : Cx} {o i e value : Expr} {pos pos' tpos : Pos} {td ty tv : TE}
end
section
variable {X : Cx} {pos : Pos}
end
section
variable {X : Cx} {pins : List (Addr × Obj)} {σ : St} {H : Hp} {s : Shared} {a : Addr} {y d : V} {u r : Value} {o : Option V} {A : Around} {E : Value → Shared → Prop}
end
section
variable {X : Cx} {o e f : Expr} {apos cpos : Pos} {td ty tx : TE}
end
section
variable {X : Cx} {pins : List (Addr × Obj)} {σ : St} {H : Hp} {s : Shared} {a : Addr} {kvs : List (Key × V)} {A : Around} {E : Value → Shared → Prop}
end
section
variable {X : Cx} {pins : List (Addr × Obj)} {σ : St} {H : Hp} {s : Shared} {a : Addr} {y : V} {u : Value} {A : Around} {E : Value → Shared → Prop}
end
end L2
namespace Att
open PySem PySem.W PySem.Calls PyProof.Rows
theorem ints_of_wellAll {P : Params} {h : Heap} : ∀ (ns : List Int) (vs : List Value), WellAll P h vs (ns.map WData.int) → IntsAre vs ns := by
 intro ns
 induction ns with
 | nil =>
   intro vs w
   rw [List.map_nil] at w
   cases w
   exact .nil
 | cons n ns ih =>
   intro vs w
   rw [List.map_cons] at w
   cases w with
   | cons a b =>
     cases a
     exact .cons _ _ (ih _ b)
theorem script_of {l : OpenLaw} {n : Nat} (hn : l.most = some n) {P : Params} {h : Heap} {args : List WData} {vals : List Value}
   (hpre : l.row.toRowW.claim.pre args = true) (hwl : WellAll P h vals args) :
   ∃ a vs ns, vals = [Value.ref a] ∧ args = [WData.list (ns.map WData.int)] ∧ h.get? a = some { cls := .type "list", data := .seq vs.toArray } ∧ IntsAre vs ns ∧ ns.length ≤ n := by
 have hsh : WShape.hasAll [] args [.list .int] = true := (pre_splitW hpre).1
 have hc : l.pre.holds [] { args := args } = true := (pre_splitW hpre).2
 obtain ⟨d, r, rfl, h1, h2⟩ := hasAllW_cons hsh
 obtain rfl := hasAllW_nil h2
 obtain ⟨xs, rfl, h3⟩ := hasW_list h1
 obtain ⟨ns, rfl⟩ := items_int h3
 have hlen : ns.length ≤ n := by
   unfold OpenLaw.pre at hc
   have h4 : (WTm.not (.lt (.lit (.int (n : Int))) (.len (.arg 0)))).holds [] { args := [.list (ns.map .int)] } = true := by
     have h4 := (holds_andW hc).1
     rw [hn] at h4
     exact h4
   have h5 := condW_of h4 (w_not (w_lt w_lit (w_len_list (w_arg rfl))))
   rw [List.length_map] at h5
   refine Nat.le_of_not_lt fun q => ?_
   have q' : (n : Int) < ((ns.length : Nat) : Int) := by omega
   first
     | (rw [decide_eq_true q'] at h5; exact absurd h5 (by decide))
     | (simp at h5; omega)
 cases hwl with
 | cons w1 w2 =>
   cases w2
   cases w1 with
   | list ho hall => exact ⟨_, _, ns, rfl, rfl, ho, ints_of_wellAll ns _ hall, hlen⟩
theorem post_true (l : OpenLaw) (args : List WData) : l.row.toRowW.claim.post args (.bool true) args = true :=
 postW_of (r := l.row.toRowW) (X := (true == true))
   (show WShape.has [] (.bool true) .bool = true by first | rfl | decide | simp [WShape.has, WShape.arms, WShape.armsAll])
   (show (WTm.eq .res (.lit (.bool true))).value [] { args := args, res := some (.bool true), after := args } = some (.bool (true == true)) from w_eq_bool (w_res rfl) w_lit) rfl
theorem attach_call {l : OpenLaw} {n : Nat} {q : Program} {loose : List Str} {XP : (Str → Option Value) → Heap → Prop} {YP : World → Heap → Prop} {d : DefRec}
   (hn : l.most = some n) (hdf : d.params.defaults = [])
   (call : ∀ (w : World) (s₀ s₁ : Shared) (mg mb : Str → Option Value) (fa : Addr) (o : Obj) (pm cd doc : Value) (a : Addr) (vs : List Value) (ns : List Int),
     Ground q loose [] XP w s₀ mg mb s₁.heap → YP w s₁.heap →
     s₁.heap.get? fa = some o → o.data = .func (docDef d.name d.params d.body d.scope pm cd doc) → s₁.heap.CodeRec cd d.name → mg d.name = some (.ref fa) →
     s₁.heap.get? a = some { cls := .type "list", data := .seq vs.toArray } → IntsAre vs ns → ns.length ≤ n → s₁.gens = #[] →
     codeAny (model l.prog w) callerA (.call (.ref fa) ⟨[.ref a], []⟩) (fun r s' => r = .ok (.ret (.bool true)) ∧ OldK s₁.heap s'.heap ∧ s'.os = s₁.os ∧ AllBare s'.gens) s₁) :
   WalkO q loose XP YP l.row.toRowW d [] (fun f vs => PySem.call f vs) := by
 intro w s₀ s₁ mg mb G Y fa o pm cd doc dV kV ho hd hcd hD hmg hg args vals as hpre hlay hrd hwl hlo
 obtain rfl : dV = .none := Dflts.none hD hdf
 obtain rfl : kV = .none := Dflts.noKw hD
 obtain ⟨a, vs, ns, rfl, rfl, hobj, hints, hlen⟩ := script_of hn hpre hwl
 refine enter_call (codeAny_mono (call w s₀ s₁ mg mb fa o pm cd doc a vs ns G Y ho (fd_plain hd) hcd hmg hobj hints hlen hg) fun r s' hq => ?_)
 obtain ⟨rfl, h2, h3, h4⟩ := hq
 exact ⟨.inl ⟨.bool true, .bool true, [], rfl, fun _ => rfl, .bool true, post_true l _, fun _ => ⟨List.Pairwise.nil, fun _ hm => (nomatch hm)⟩⟩, h2, h3, h4⟩
section
variable {prog : Program} {w : World} {A : Around} {E : Value → Shared → Prop} {s : Shared} {K : Frag}
end
end Att
namespace L2
open PySem PySem.Spec PyProof.Rows
theorem vals_ints : ∀ {vs : List Value} {ns : List Int}, IntsAre vs ns → Vals (ns.map V.int) vs
 | _, _, .nil => .nil
 | _, _, .cons n t h => .cons ⟨t, rfl⟩ (vals_ints h)
def Only (H : Hp) : Prop := ∀ b, H b = none ∨ ∃ o xs, H b = some (.frz o (.lst xs))
theorem law_call {P : Program} {w : World} {K : PySem.W.Frag} {mg mb : Str → Option Value} {CX : CXT} {k : Nat} {fa a : Addr} {fd : FuncData} {x : Str} {sp : Sp} {s₁ : Shared} {vs : List Value} {ns : List Int}
   (KX : K.In s₁.heap) (hns : s₁.heap.Ns mainGlobals mg) (hb : s₁.heap.Ns builtinsNs mb) (hbb : ∀ x : Str, x ≠ "__name__" → mb x = bootBuiltins x) (hlim : s₁.heap.NoLimit) (hg : s₁.gens = #[])
   (ha : s₁.heap.get? a = some { cls := .type "list", data := .seq vs.toArray }) (hi : IntsAre vs ns) (hl : ns.length ≤ sizeLine) (hr : Room true k callerA)
   (F : ∀ base : Heap, K.In base → base.Ns mainGlobals mg → FnOk P w K mg base CX true k fa fd [x] sp) (hbind : ∀ (s : Shared) (u : Value), BindsTo s fd ⟨[u], []⟩ [(x, u)])
   (hsp : ∀ H : Hp, Only H → SqL K H a (ns.map V.int) → sp [.ref a] H (fun v _ => v = .bl true) fun _ _ _ => False)
   (hCX : ∀ H e s', CX [] H s₁ (fun _ _ _ => False) e s' → False) :
   codeAny (model P w) callerA (.call (.ref fa) ⟨[.ref a], []⟩) (fun r s' => r = .ok (.ret (.bool true)) ∧ OldK s₁.heap s'.heap ∧ s'.os = s₁.os ∧ AllBare s'.gens) s₁ := by
 have rv := vals_ints hi
 have lenV := hi.length
 -- from an abstract heap in which nothing but the script may be tracked
 have core : ∀ H : Hp, Only H → SqL K H a (ns.map V.int) → HOk P w H s₁.heap → (∀ b, H b ≠ none → b = a) → (H a ≠ none → K.lookup a = none) →
     codeAny (model P w) callerA (.call (.ref fa) ⟨[.ref a], []⟩) (fun r s' => r = .ok (.ret (.bool true)) ∧ OldK s₁.heap s'.heap ∧ s'.os = s₁.os ∧ AllBare s'.gens) s₁ := by
   intro H hO hS hok hA hK
   have base_of : ∀ {b : Addr} {o : Obj}, s₁.heap.get? b = some o → H b = none → (hidT s₁.heap H).get? b = some o := fun e n => hidT_get e n
   have noA : ∀ {b : Addr} {o : Obj} {es : Array DictEntry} {ep : Nat}, s₁.heap.get? b = some o → o.data = .dict es ep → H b = none := fun {b o es ep} e d => by
     cases q : H b with
     | none => rfl
     | some u =>
       have e' : b = a := hA b (by rw [q]; simp)
       subst e'
       rw [ha] at e; cases e
       have d' : Data.seq vs.toArray _ = Data.dict es ep := d
       cases d'
   have nsK : ∀ {b : Addr} {m : Str → Option Value}, s₁.heap.Ns b m → (hidT s₁.heap H).Ns b m := fun {b m} ⟨o, es, ep, e, d, r⟩ => ⟨o, es, ep, base_of e (noA e d), d, r⟩
   have hKb : K.In (hidT s₁.heap H) := fun b o e => base_of (KX b o e) (by
     cases q : H b with
     | none => rfl
     | some u =>
       have e' : b = a := hA b (by rw [q]; simp)
       subst e'
       rw [hK (by rw [q]; simp)] at e; cases e)
   have hM : Mod K mg (hidT s₁.heap H) := ⟨hKb, nsK hns, ⟨mb, nsK hb, hbb⟩, let ⟨mc, h1, h2⟩ := hlim; ⟨mc, nsK h1, h2⟩⟩
   have e0 : Env0 P w K mg (hidT s₁.heap H) callerA [] s₁ H := ⟨rfl, hM, fun b o e => of_hidT e, Nat.le_of_eq (hidT_size _ _), trivial, fun b hb => absurd (show b ∈ ([] : List Addr) from hb) (by simp), hok, .of_eq hg⟩
   refine codeAny_mono ((F _ hKb (nsK hns)).run callerA [] s₁ H ⟨[.ref a], []⟩ [.ref a] [.ref a] _ _ hr e0 (hbind s₁ (.ref a)) (.cons rfl .nil) (hsp H hO hS)) fun r s' h => ?_
   cases r with
   | error e => exact (hCX H e s' h).elim
   | ok fl =>
     cases fl with
     | next => exact False.elim h
     | brk => exact False.elim h
     | cont => exact False.elim h
     | ret u =>
       obtain ⟨v, H', os, bare, un, hok', r', q⟩ := h
       have q' : v = .bl true := q
       subst q'
       obtain rfl : u = Value.bool true := r'
       refine ⟨rfl, OldK.of_keep fun b o e => ?_, os, bare⟩
       cases q : H b with
       | none => exact un.keep b o e q (by intro z; exact absurd (show b ∈ ([] : List Addr) from z) (by simp)) (by simp)
       | some u =>
         rcases hO b with z | ⟨ob, xs, z⟩
         · rw [q] at z; cases z
         · have z2 := un.frzs b ob _ z
           obtain ⟨e1, _⟩ := hok b _ z
           obtain ⟨e2, _⟩ := hok' b _ z2
           rw [e] at e1; cases e1
           exact e2
 cases hk : K.lookup a with
 | some o =>
   -- the script is one of the module's own objects
   have e := KX a o hk
   rw [ha] at e
   cases e
   refine core (fun _ => none) (fun _ => .inl rfl) (.inr ⟨_, vs.toArray, _, hk, rfl, rfl, rfl, by rw [List.size_toArray, lenV]; exact hl, by simpa using rv⟩) (fun b u z => by have z' : (none : Option HO) = some u := z; cases z') (fun b z => absurd rfl z) fun z => absurd rfl z
 | none =>
   refine core (fun b => if b = a then some (.frz { cls := .type "list", data := .seq vs.toArray } (.lst (ns.map V.int))) else none) (fun b => ?_) (.inl (.inr ⟨{ cls := .type "list", data := .seq vs.toArray }, if_pos rfl⟩)) (fun b u z => ?_) (fun b z => ?_) fun _ => hk
   · by_cases hb : b = a
     · exact .inr ⟨_, _, if_pos hb⟩
     · exact .inl (if_neg hb)
   · by_cases hb : b = a
     · have z' := (if_pos hb).symm.trans z
       cases z'
       subst hb
       exact ⟨ha, by rw [List.length_map]; exact hl, vs, _, rv, ha⟩
     · have z' := (if_neg hb).symm.trans z
       cases z'
   · by_cases hb : b = a
     · exact hb
     · exact absurd (if_neg hb) z
end L2
namespace L2
open PySem PySem.Spec PyProof.Rows
abbrev KOf {K : PySem.W.Frag} {h : Heap} (_ : K.In h) : PySem.W.Frag := K
theorem walk_of {l : PySem.W.OpenLaw} {n k : Nat} {q : Program} {loose : List Str} {XP : (Str → Option Value) → Heap → Prop} {YP : World → Heap → Prop} {d : DefRec} {K : Params → PySem.W.Frag} {CX : World → CXT} {sp : World → Sp} {x : Str}
   (hn : l.most = some n) (hn2 : n ≤ sizeLine) (hdf : d.params.defaults = []) (hr : Room true k callerA)
   (hY : ∀ (w : World) (h : Heap), YP w h → (K w.params).In h)
   (F : ∀ (w : World) (mg : Str → Option Value) (fa : Addr) (h : Heap), (K w.params).In h → h.Ns mainGlobals mg → mg d.name = some (.ref fa) →
     ∃ fd : FuncData, (∀ (s : Shared) (u : Value), BindsTo s fd ⟨[u], []⟩ [(x, u)]) ∧
       ∀ base : Heap, (K w.params).In base → base.Ns mainGlobals mg → FnOk l.prog w (K w.params) mg base (CX w) true k fa fd [x] (sp w))
   (hsp : ∀ (w : World) (H : Hp) (a : Addr) (ns : List Int), ns.length ≤ n → Only H → SqL (K w.params) H a (ns.map V.int) → sp w [.ref a] H (fun v _ => v = .bl true) fun _ _ _ => False)
   (hCX : ∀ (w : World) (H : Hp) (s : Shared) (e : Value) (s' : Shared), CX w [] H s (fun _ _ _ => False) e s' → False) :
   PySem.W.WalkO q loose XP YP l.row.toRowW d [] (fun f vs => PySem.call f vs) := by
 refine Att.attach_call hn hdf fun w s₀ s₁ mg mb fa o pm cd doc a vs ns G Y ho hd hcd hmg hobj hints hlen hg => ?_
 have KX := hY w _ Y
 obtain ⟨fd, hb, hF⟩ := F w mg fa _ KX G.T.g hmg
 exact law_call KX G.T.g G.T.b G.T.builtins G.T.nolimit hg hobj hints (Nat.le_trans hlen hn2) hr hF hb (fun H hO hS => hsp w H a ns hlen hO hS) fun H e s' => hCX w H s₁ e s'
end L2
/- THE LAST THEOREM (shape; LID, My.* are yours):
  My.Adr: a structure of the addresses that your layer names (classes, functions); My.Txt K t: a structure (Prop) of the equations over K;
  My.txt_mk : {K} {implicit addresses ..} (e1 : nsIn K mainGlobals "law" = some (some (.ref f))) (e2 : K.lookup f = some ⟨oc, od, .func (fnOf "law" "law" params body scope dV kV doc pm an cdv ct), sl⟩) (e3 : codeIn K cdv "law" = true) .. : ∃ t, My.Txt K t
set_option maxRecDepth 100000 in
set_option maxHeartbeats 0 in
theorem PySem.Challenge.cw_LID_holds : PySem.Challenge.rw_LID.Holds := by
 w_on; o_law; k_head; (case hw => w_witness2)
 k_fill
 refine L2.walk_of (l := PySem.Challenge.rw_LID) (n := 63) (k := 40) (x := "script") (CX := fun w => ..) (sp := fun _ => My.sp_law) rfl (by decide) rfl ⟨rfl, by decide, by decide⟩ (fun w h Y => PySem.W.kIn_of Y) ?F ?S ?C
 case F =>
   intro w mg fa h KX G hmg
   have T : ∃ t, My.Txt (L2.KOf KX) t := by
     dsimp only [L2.KOf]                          -- K must stand as «<heap const> w.params» for k_is
     refine' My.txt_mk ?e1 ?e2 ?e3 ..
     (case e1 => PySem.W.k_is)                    -- in the order: a name -> its address -> its object -> its parts
     (case e2 => PySem.W.k_is)
     ..
   obtain ⟨t, T⟩ := T
   have e0 := hmg.symm.trans (PySem.W.mg_of KX G T.law)
   cases e0                                       -- fa is the law's own address
   exact ⟨_, fun s u => .of_eq rfl, fun base kb nb => My.law_fn T kb nb⟩     -- if «.of_eq rfl» comes too early: refine' ⟨_, ?b, fun base kb nb => My.law_fn T kb nb⟩; exact fun s u => .of_eq rfl
 case S => exact fun w H a ns hl hO hS => ..
 case C => exact ..
(the tactic k_is has no namespace: write k_is) -/
namespace L2
open PySem PySem.Spec PyProof.Rows
def inClass (s : Stmt) (j : Nat) : Stmt := match s with
 | .ClassDef _ _ _ body _ _ _ _ _ _ _ => body.getD j (.Pass ⟨0, 0, 0, 0⟩)
 | _ => .Pass ⟨0, 0, 0, 0⟩
def defArgs (s : Stmt) : Arguments := match s with
 | .FunctionDef _ a _ _ _ _ _ _ _ _ => a
 | _ => { posonlyargs := [], args := [], vararg := none, kwonlyargs := [], kw_defaults := [], kwarg := none, defaults := [] }
def defBody (s : Stmt) : List Stmt := match s with
 | .FunctionDef _ _ b _ _ _ _ _ _ _ => b
 | _ => []
def defScope (s : Stmt) : Scope := match s with
 | .FunctionDef _ _ _ _ _ _ sc _ _ _ => sc
 | _ => { kind := .function, names := [], isGenerator := false, isCoroutine := false }
abbrev CX0 : CXT := fun _ _ _ _ _ _ => False
abbrev E0 : XK := fun _ _ _ => False
theorem pass0 {X : Cx} : Passes CX0 X E0 := fun _ _ _ _ _ _ _ h => h.elim
structure Fun (K : PySem.W.Frag) (x qual : Str) (st : Stmt) (f : Addr) (fd : FuncData) : Prop where
 ex : ∃ (oc : Value) (od : Option Addr) (kV doc pm : Value) (an : Option Addr) (cdv ct : Value) (osl : Array (Option Value)),
   fd = PySem.W.fnOf x qual (defArgs st) (defBody st) (defScope st) .none kV doc pm an cdv ct ∧ K.lookup f = some ⟨oc, od, .func fd, osl⟩ ∧ PySem.W.codeIn K cdv qual = true
 kp : PySem.W.keepIn K (.ref f) = true
section
variable {P : Program} {w : World} {K : PySem.W.Frag} {mg : Str → Option Value} {base : Heap}
theorem Fun.ok {x qual : Str} {st : Stmt} {f : Addr} {fd : FuncData} {N ps : List Str} {k : Nat} {sp : Sp} (F : Fun K x qual st f fd) (S : FnScope N ps (defScope st)) (len : ∀ vs H Q E, sp vs H Q E → vs.length = ps.length)
   (hbody : ∀ (cdv : Value) (A : Around) (outer : List Env) (s : Shared) (H : Hp) (vs : List V) (Q : VK) (E : XK), Room cm k (A.deeper (envOfC qual (defScope st) s.heap.objs.size f cdv)) → sp vs H Q E →
     ∃ t, PSs (cxOf CX0 cm P w K mg base N qual (defScope st) f cdv A outer s H E).nox (defBody st) t ∧ t { nx := fun _ H' => Q .non H', rt := Q } (start N vs) H) : FnOk P w K mg base CX0 cm (k + 1) f fd ps sp := by
 obtain ⟨oc, od, kV, doc, pm, an, cdv, ct, osl, rfl, lk, hcd⟩ := F.ex
 refine fn_of lk hcd S len fun A outer s H vs Q E hr hsp => ?_
 obtain ⟨t, h, q⟩ := hbody cdv A outer s H vs Q E hr hsp
 exact ⟨t, h.nox, q⟩
theorem Fun.binds {x qual : Str} {st : Stmt} {f : Addr} {fd : FuncData} {ps : List Str} (F : Fun K x qual st f fd)
   (h : ∀ (kV doc pm : Value) (an : Option Addr) (cdv ct : Value) (us : List Value), us.length = ps.length → bindArgs (PySem.W.fnOf x qual (defArgs st) (defBody st) (defScope st) .none kV doc pm an cdv ct) ⟨us, []⟩ = pure (ps.zip us)) : Binds K fd ps [] := by
 obtain ⟨oc, od, kV, doc, pm, an, cdv, ct, osl, rfl, lk, hcd⟩ := F.ex
 exact .all (h kV doc pm an cdv ct)
end
section
variable {X : Cx}
theorem pv (i : Nat) {x : Str} {pos : Pos} (hN : X.N[i]? = some x := by rfl) (hv : Vis X.env.scope x := by first | exact Or.inl rfl | exact Or.inr (Or.inl rfl) | exact Or.inr (Or.inr rfl)) (hd : (x == ("__debug__" : Str)) = false := by decide)
   (hcd : (x == ("__classdict__" : Str)) = false := by decide) : PE X (.Name x pos) (tVar i) := pe_var hN hv hd hcd
end
theorem iteF {A B : Prop} (h : B) : if false = true then A else B := by
 rw [if_neg Bool.false_ne_true]
 exact h
theorem iteT {A B : Prop} (h : A) : if true = true then A else B := by
 rw [if_pos rfl]
 exact h
def Same (H H' : Hp) : Prop := ∀ b o, H b = some o → H' b = some o
theorem Same.refl (H : Hp) : Same H H := fun _ _ h => h
theorem Same.trans {H H1 H2 : Hp} (a : Same H H1) (b : Same H1 H2) : Same H H2 := fun c o h => b c o (a c o h)
theorem Same.free {H H' : Hp} (e : Same H H') {l : Addr} (h : H' l = Option.none) : H l = Option.none := by
 cases q : H l with
 | none => rfl
 | some o =>
   rw [e l o q] at h
   cases h
theorem Same.seq {K : PySem.W.Frag} {H H' : Hp} {a : Addr} {xs : List V} (e : Same H H') (h : SqL K H a xs) : SqL K H' a xs := by
 rcases h with (h | ⟨o, h⟩) | h
 · exact .inl (.inl (e _ _ h))
 · exact .inl (.inr ⟨o, e _ _ h⟩)
 · exact .inr h
section
variable {κ : Type} [DecidableEq κ]
end
end L2
namespace L3
open PySem
def Rec (h : Heap) (x : Addr) (C : Value) (dx : Option Addr) (tb : Value) : Prop :=
 ∃ oe vs, h.get? x = some oe ∧ oe.cls = C ∧ oe.dict = dx ∧ oe.data = .fields vs ∧ vs[1]? = some tb ∧ vs[2]? = some .none
def Tra (h : Heap) (T : Addr) (fl : Value) : Prop := ∃ oT ts, h.get? T = some oT ∧ oT.data = .fields ts ∧ ts[3]? = some fl
theorem dict_mapFields (o : Obj) (f) : (o.mapFields f).dict = o.dict := by
 obtain ⟨c, d, dt, sl⟩ := o
 cases dt <;> rfl
structure Aft (S ch : List Addr) (h h' : Heap) : Prop where
 keep : ∀ b o, b ∉ S → b ∉ ch → h.get? b = some o → h'.get? b = some o
 slot : ∀ b o, b ∉ ch → h.get? b = some o → ∃ sl, h'.get? b = some { o with slots := sl }
 size : h.objs.size ≤ h'.objs.size
theorem Aft.refl (S ch : List Addr) (h : Heap) : Aft S ch h h := ⟨fun _ _ _ _ e => e, fun _ o _ e => ⟨o.slots, e⟩, Nat.le_refl _⟩
theorem Aft.trans {S ch : List Addr} {h1 h2 h3 : Heap} (a : Aft S ch h1 h2) (b : Aft S ch h2 h3) : Aft S ch h1 h3 where
 keep := fun c o hs hc e => b.keep c o hs hc (a.keep c o hs hc e)
 slot := fun c o hc e => by
   obtain ⟨s1, e1⟩ := a.slot c o hc e
   obtain ⟨s2, e2⟩ := b.slot c _ hc e1
   exact ⟨s2, e2⟩
 size := Nat.le_trans a.size b.size
theorem Aft.mono {S S' ch ch' : List Addr} {h h' : Heap} (a : Aft S ch h h') (hs : ∀ b, b ∈ S → b ∈ S') (hc : ∀ b, b ∈ ch → b ∈ ch') : Aft S' ch' h h' :=
 ⟨fun b o z1 z2 e => a.keep b o (fun q => z1 (hs b q)) (fun q => z2 (hc b q)) e, fun b o z e => a.slot b o (fun q => z (hc b q)) e, a.size⟩
section
variable {M : Model} {A : Around} {E : Value → Shared → Prop} {s : Shared}
theorem set_rec {T : Addr} {oT : Obj} {ts : Array Value} {i : Nat} {v : Value} {Q : Unit → Shared → Prop} (hT : s.heap.get? T = some oT) (hd : oT.data = .fields ts) (hi : i < ts.size)
   (h : ∀ h', Aft [] [T] s.heap h' → h'.get? T = some (oT.mapFields (·.setIfInBounds i v)) → Q () { s with heap := h' }) : wpAny M A (setField (.ref T) i v) Q E s := by
 refine wpAny_setField hT hd hi (h _ ⟨fun b o _ hb e => ?_, fun b o hb e => ⟨o.slots, ?_⟩, ?_⟩ ?_)
 · rw [Heap.get?_update_other _ _ (fun z => hb (by simp [z]))]; exact e
 · rw [Heap.get?_update_other _ _ (fun z => hb (by simp [z]))]; exact e
 · exact Nat.le_of_eq (Heap.size_after_update ..).symm
 · exact Heap.get?_update_self _ hT (Obj.isFreed_of_fields (Obj.data_mapFields hd _))
theorem new_rec {base : Heap} {env : Env} {outer : List Env} {L x : Addr} {oe : Obj} {vs : Array Value} {head : Value} {hadNext : Bool} {Q : Unit → Shared → Prop}
   (hfr : A.frames = some (env :: outer)) (hl : s.heap.FunFrames base (env :: outer)) (hf : env.frame = some L) (he : s.heap.get? x = some oe) (hd : oe.data = .fields vs) (hsz : 1 < vs.size) (hcx : vs[2]? = some .none)
   (h : ∀ h' T, Aft ((env :: outer).filterMap (·.frame)) [x] s.heap h' → s.heap.objs.size ≤ T → Rec h' x oe.cls oe.dict (.ref T) → Tra h' T (rawInt L) → Q () { s with heap := h' }) :
   wpAny M A (do let a ← frameOf env; let pl ← entryPlaceOf L hadNext; let b ← EntryCells.newEntry head a .none (rawInt L) .none pl; setField (.ref x) 1 b) Q E s := by
 have hne : x ∉ (env :: outer).filterMap (·.frame) := fun hm => by
   obtain ⟨_, o, ho, hnf⟩ := hl.mem hm
   rw [he] at ho
   cases ho
   exact hnf vs hd
 refine wpAny_bind (wpAny_frameOf_fun hfr hl hf fun h1 hs1 => ?_)
 refine wpAny_bind (wpAny_entryPlaceOf fun pl hpl => ?_)
 unfold EntryCells.newEntry newFields
 refine wpAny_bind (wpAny_newObj_type ?_ (hpl.sizeOk5 _ _ _ _ _))
 have he1 : h1.get? x = some oe := (hs1.2.1 x hne).trans he
 refine set_rec (Heap.get?_push_of_some _ he1) hd hsz fun h' a hx => ?_
 have hTx : h1.objs.size ≠ x := Nat.ne_of_gt (Heap.lt_size he1)
 refine h h' h1.objs.size ⟨fun b o hb hc e => ?_, fun b o hc e => ?_, ?_⟩ (Nat.le_of_eq hs1.1.symm) ⟨_, _, hx, Obj.cls_mapFields _ _, dict_mapFields _ _, Obj.data_mapFields hd _, by simp [hsz], by rw [Array.getElem?_setIfInBounds_ne (by decide)]; exact hcx⟩ ?_
 · exact a.keep b o (by simp) hc (Heap.get?_push_of_some _ ((hs1.2.1 b hb).trans e))
 · obtain ⟨sl, e1⟩ := hs1.2.2 b o e
   exact ⟨sl, a.keep b _ (by simp) hc (Heap.get?_push_of_some _ e1)⟩
 · refine Nat.le_trans ?_ a.size
   show s.heap.objs.size ≤ (h1.push _).objs.size
   rw [Heap.size_push, hs1.1]
   exact Nat.le_succ _
 · refine ⟨_, _, a.keep _ _ (by simp) (by simp [hTx]) (Heap.get?_push_size h1 rfl), rfl, ?_⟩
   first | (simp; done) | (rcases hpl with rfl | ⟨_, _, _, _, _, _, _, rfl⟩ <;> simp)
theorem note_new {base : Heap} {env : Env} {outer : List Env} {L x : Addr} {C : Value} {dx : Option Addr} {Q : Unit → Shared → Prop}
   (hfr : A.frames = some (env :: outer)) (hl : s.heap.FunFrames base (env :: outer)) (hf : env.frame = some L) (r : Rec s.heap x C dx .none)
   (h : ∀ h' T, Aft ((env :: outer).filterMap (·.frame)) [x] s.heap h' → s.heap.objs.size ≤ T → Rec h' x C dx (.ref T) → Tra h' T (rawInt L) → Q () { s with heap := h' }) :
   wpAny M A (noteFrame (.ref x) env) Q E s := by
 obtain ⟨oe, vs, he, rfl, rfl, hd, h1, hcx⟩ := r
 unfold noteFrame
 simp only [hf]
 refine wpAny_bind (wpAny_field he hd h1 ?_)
 rw [if_neg (by decide)]
 exact new_rec hfr hl hf he hd (Array.getElem?_eq_some_iff.mp h1).1 hcx h
theorem note_any {base : Heap} {env : Env} {outer : List Env} {L x T : Addr} {C : Value} {dx : Option Addr} {fl : Value} {Q : Unit → Shared → Prop}
   (hfr : A.frames = some (env :: outer)) (hl : s.heap.FunFrames base (env :: outer)) (hf : env.frame = some L) (r : Rec s.heap x C dx (.ref T)) (hx : T ≠ x) (t : Tra s.heap T fl)
   (h : ∀ h' T' fl', Aft ((env :: outer).filterMap (·.frame)) [x, T] s.heap h' → (T' = T ∨ s.heap.objs.size ≤ T') → Rec h' x C dx (.ref T') → Tra h' T' fl' → Q () { s with heap := h' }) :
   wpAny M A (noteFrame (.ref x) env) Q E s := by
 obtain ⟨oe, vs, he, rfl, rfl, hd, h1, hcx⟩ := r
 obtain ⟨oT, ts, hT, hdT, h3⟩ := t
 unfold noteFrame
 simp only [hf]
 refine wpAny_bind (wpAny_field he hd h1 ?_)
 rw [if_pos (show (Value.ref T != Value.none) = true from by simp)]
 refine wpAny_bind (wpAny_field hT hdT h3 ?_)
 by_cases hb : (fl == rawInt L) = true
 · rw [if_pos hb]
   exact wpAny_pure (h s.heap T fl (Aft.refl ..) (.inl rfl) ⟨oe, vs, he, rfl, rfl, hd, h1, hcx⟩ ⟨oT, ts, hT, hdT, h3⟩)
 rw [if_neg hb]
 refine wpAny_bind (set_rec hT hdT (Array.getElem?_eq_some_iff.mp h3).1 fun h2 a2 e2 => ?_)
 have nT : ∀ b o, s.heap.get? b = some o → (∀ ws, o.data ≠ .fields ws) → b ∉ [T] := fun b o e hn z => by
   have z' : b = T := by simpa using z
   rw [z', hT] at e
   cases e
   exact hn ts hdT
 refine new_rec hfr (hl.of_keeps fun b o e hn => ⟨o, a2.keep b o (by simp) (nT b o e hn) e, rfl⟩) hf (a2.keep x oe (by simp) (by simp [Ne.symm hx]) he) hd (Array.getElem?_eq_some_iff.mp h1).1 hcx fun h' T' a r' t' l => ?_
 refine h h' T' _ (Aft.trans (a2.mono (by simp) (by simp)) (a.mono (fun _ z => z) (by simp))) (.inr (Nat.le_trans a2.size r')) t' l
theorem flight_none {x T : Addr} {C : Value} {dx : Option Addr} {fl : Value} {Q : Unit → Shared → Prop} (r : Rec s.heap x C dx (.ref T)) (hx : T ≠ x) (t : Tra s.heap T fl)
   (h : ∀ h', Aft [] [T] s.heap h' → Rec h' x C dx (.ref T) → Tra h' T .none → Q () { s with heap := h' }) : wpAny M A (setFlight (.ref x) none) Q E s := by
 obtain ⟨oe, vs, he, rfl, rfl, hd, h1, hcx⟩ := r
 obtain ⟨oT, ts, hT, hdT, h3⟩ := t
 unfold setFlight
 refine wpAny_bind (wpAny_field he hd h1 ?_)
 rw [if_pos (show (Value.ref T != Value.none) = true from by simp)]
 have h3' := (Array.getElem?_eq_some_iff.mp h3).1
 refine set_rec hT hdT h3' fun h2 a2 e2 => h h2 a2 ⟨oe, vs, a2.keep x oe (by simp) (by simp [Ne.symm hx]) he, rfl, rfl, hd, h1, hcx⟩ ⟨_, _, e2, Obj.data_mapFields hdT _, ?_⟩
 simp [h3']
end
end L3
namespace L3
open PySem
def Rds {α : Type} (M : Model) (h : Heap) (t : Sem α) (r : α) : Prop :=
 ∀ (A : Around) (Q : α → Shared → Prop) (E : Value → Shared → Prop) (s : Shared), (∀ b o, h.get? b = some o → s.heap.get? b = some o) → Q r s → wpAny M A t Q E s
structure XC (h : Heap) (C : Addr) (bm : List Value) : Prop where
 at_ : ∃ nm q N bs sn sub ab col dd k0 k1 k2 k3 k5, h.get? C = some (excClassObj nm q C N bs bm true sn sub ab col dd k0 k1 k2 k3 k5 "ValueError.__new__")
 val : bm.contains (.type "ValueError") = true
 bas : bm.contains (.type "BaseException") = true
 ob : bm.contains (.type "object") = true
 noA : bm.contains (.type "AttributeError") = false
 noN : bm.contains (.type "NameError") = false
theorem XC.keeps {h h' : Heap} {C : Addr} {bm : List Value} (x : XC h C bm) (k : ∀ b o, h.get? b = some o → h'.get? b = some o) : XC h' C bm := by
 obtain ⟨⟨nm, q, N, bs, sn, sub, ab, col, dd, k0, k1, k2, k3, k5, e⟩, h1, h2, h3, h4, h5⟩ := x
 exact ⟨⟨nm, q, N, bs, sn, sub, ab, col, dd, k0, k1, k2, k3, k5, k _ _ e⟩, h1, h2, h3, h4, h5⟩
theorem has_more {C : Addr} {bm : List Value} {T : String} {b : Bool} (h : bm.contains (.type T) = b) : (Value.ref C :: bm).contains (.type T) = b := by
 rw [List.contains_cons, h]
 cases b <;> rfl
section
variable {P : Program} {w : World} {A : Around} {E : Value → Shared → Prop} {h : Heap} {g : Array GenState} {d : Drawn} {t : Nat} {os : OsState} {C : Addr} {bm : List Value}
theorem new_check {M : Model} {more : List Value} {Q : Unit → Shared → Prop} (x : XC h C bm) (hq : Q () ⟨h, g, d, t, os⟩) : wpAny M A (checkBuiltinCall "ValueError.__new__" ⟨.ref C :: more, []⟩) Q E ⟨h, g, d, t, os⟩ := by
 obtain ⟨⟨nm, q, N, bs, sn, sub, ab, col, dd, k0, k1, k2, k3, k5, cC⟩, val, bas, _, _, _⟩ := x
 have F := PySem.F.excBase_ValueError
 have c1 : (Value.ref C :: bm).contains (.type "ValueError") = true := has_more val
 have star := F.noStar
 simp only [checkBuiltinCall, F.newKind, F.newSplit, F.newRow]
 repeat (first
   | refine wpAny_loadPart_at cC ?_
   | (refine wpAny_isSubtype_exc cC ?_; rw [c1])
   | refine wpAny_staticBase_exc cC ?_
   | refine wpAny_madeBy_exc cC ?_
   | simp only [bne_self_eq_false, Bool.false_eq_true, if_false]
   | wp_step)
 exact hq
theorem new_run {more : List Value} {R : Result → Shared → Prop} (x : XC h C bm)
   (hq : R (.ok (.ret (.ref (h.objs.size + 1)))) ⟨(h.push { cls := .type "tuple", data := .seq more.toArray }).push { cls := .ref C, data := .fields #[.ref h.objs.size, .none, .none, .none, .bool false, .none] }, g, d, t, os⟩)
   (hrest : more.length ≤ sizeLine) : codeAny (model P w) A (.builtin "ValueError.__new__" ⟨.ref C :: more, []⟩) R ⟨h, g, d, t, os⟩ := by
 obtain ⟨⟨nm, q, N, bs, sn, sub, ab, col, dd, k0, k1, k2, k3, k5, cC⟩, val, bas, _, noA, noN⟩ := x
 have F := PySem.F.excBase_ValueError
 have ends := F.ends
 have c1 : (Value.ref C :: bm).contains (.type "ValueError") = true := has_more val
 have c2 : (Value.ref C :: bm).contains (.type "AttributeError") = false := has_more noA
 have c3 : (Value.ref C :: bm).contains (.type "NameError") = false := has_more noN
 refine codeAny_builtinAt F.entry ?_
 unfold Builtin.«BaseException.__new__»
 refine wpAt_bind ?_
 show wpAt _ _ _ (stack >>= _) _ _ _
 refine wpAt_bind (wpAt_stack fun p below => wpAt_of_wpAny ?_)
 wp_walk
 refine wpAt_of_wpAny ?_
 rw [F.owner]
 repeat (first
   | with_reducible refine wpAny_madeHere_exc F.canon cC ?_
   | with_reducible refine wpAny_loadPart_at cC ?_
   | (with_reducible refine wpAny_isSubtype_exc cC ?_; first | rw [c1] | rw [c2] | rw [c3])
   | wp_step)
 show R _ _
 rw [Heap.size_push]
 exact hq
theorem class_run {iv : Value} {more : List Value} {Q : PySem.Fin → Shared → Prop} (x : XC h C bm) (li : Rds (model P w) h (typeLookup (.ref C) "__init__") (some iv))
   (hrest : more.length ≤ sizeLine)
   (hq : ∀ h' e, Heap.MadeExcOf h h' e (.ref C) more → h.objs.size ≤ e → wpAny (model P w) A (bindSpecial iv (.ref e)) (fun p s1 => wpAny (model P w) A (call p.1 (p.2 ++ more)) (fun r s2 => r = .none ∧ Q (.done (.ret (.ref e))) s2) E s1) E ⟨h', g, d, t, os⟩) :
   wpAny (model P w) A (Builtin.«type.__call__» ⟨.ref C :: more, []⟩) Q E ⟨h, g, d, t, os⟩ := by
 have x0 := x
 obtain ⟨⟨nm, q, N, bs, sn, sub, ab, col, dd, k0, k1, k2, k3, k5, cC⟩, val, bas, _, noA, noN⟩ := x
 have F := PySem.F.excBase_ValueError
 repeat (first
   | with_reducible refine wpAny_loadPart_at cC ?_
   | with_reducible refine wpAny_madeBy_exc cC ?_
   | wp_step)
 refine codeAny_call_builtin_code (Code.quiet_builtin _ F.quiet) (new_check x0 ?_)
 refine new_run x0 ?_ hrest
 show wpAny _ _ _ _ _ _
 have up : ∀ b o, h.get? b = some o → ((h.push { cls := .type "tuple", data := .seq more.toArray }).push { cls := .ref C, data := .fields #[.ref h.objs.size, .none, .none, .none, .bool false, .none] }).get? b = some o :=
   fun b o e => Heap.get?_push_of_some _ (Heap.get?_push_of_some _ e)
 have cC1 := up _ _ cC
 have here : ((h.push { cls := .type "tuple", data := .seq more.toArray }).push { cls := .ref C, data := .fields #[.ref h.objs.size, .none, .none, .none, .bool false, .none] }).get? (h.objs.size + 1) =
     some { cls := .ref C, data := .fields #[.ref h.objs.size, .none, .none, .none, .bool false, .none] } := by heap_get
 have c0 : (Value.ref C :: bm).contains (.ref C) = true := by simp
 unfold isInstance
 repeat (first
   | with_reducible refine wpAny_loadPart_at here ?_
   | (with_reducible refine wpAny_isSubtype_exc cC1 ?_; rw [c0])
   | wp_step)
 show wpAny _ _ (typeLookup (.ref C) _) _ _ _
 refine li _ _ _ _ up ?_
 refine wpAny_holding (wpAny_bind (wpAny_mono (hq _ (h.objs.size + 1) ⟨up, Heap.get?_none_of_le (Nat.le_succ _), h.objs.size, here, Heap.get?_none_of_le (Nat.le_refl _), ?_⟩ (Nat.le_succ _)) (fun p s1 h1 => ?_) fun _ _ z => z))
 · exact Heap.get?_push_of_some _ (Heap.get?_push_at rfl rfl)
 · obtain ⟨p1, p2⟩ := p
   refine wpAny_bind (wpAny_mono h1 (fun r s2 hr => ?_) fun _ _ z => z)
   obtain ⟨rfl, hQ⟩ := hr
   wp_walk
   exact hQ
end
end L3
namespace L3
open PySem
section
variable {P : Program} {w : World} {A : Around} {E : Value → Shared → Prop} {h : Heap} {g : Array GenState} {d : Drawn} {t : Nat} {os : OsState} {C : Addr} {bm : List Value}
theorem class_call {iv : Value} {more : List Value} {Q : Value → Shared → Prop} (x : XC h C bm) (li : Rds (model P w) h (typeLookup (.ref C) "__init__") (some iv)) (hrest : more.length ≤ sizeLine)
   (hq : ∀ h' e, Heap.MadeExcOf h h' e (.ref C) more → h.objs.size ≤ e → wpAny (model P w) (A.under (.builtin "type.__call__" ⟨.ref C :: more, []⟩)) (bindSpecial iv (.ref e))
     (fun p s1 => wpAny (model P w) (A.under (.builtin "type.__call__" ⟨.ref C :: more, []⟩)) (call p.1 (p.2 ++ more)) (fun r s2 => r = .none ∧ Q (.ref e) s2) E s1) E ⟨h', g, d, t, os⟩) :
   wpAny (model P w) A (call (.ref C) more) Q E ⟨h, g, d, t, os⟩ := by
 have x0 := x
 obtain ⟨⟨nm, q, N, bs, sn, sub, ab, col, dd, k0, k1, k2, k3, k5, cC⟩, _⟩ := x
 have f1 := tc_lookup
 have f2 := tc_bind (.ref C)
 have ty : (⟨h, g, d, t, os⟩ : Shared).TypeIs (.ref C) "type" := ⟨_, cC, rfl⟩
 refine wpAny_call (codeAny_of_tree ?_)
 show wpAny _ _ (callAny (.ref C) _) _ _ _
 repeat (any_goals (first
   | assumption
   | with_reducible refine wpAny_loadPart_at cC ?_
   | wp_step))
 refine ⟨rfl, ?_⟩
 exact codeAny_call_builtin_at (Code.quiet_builtin _ (by decide +kernel)) entry_typeCall (wpAny_check_type_call_sub cC (class_run x0 li hrest fun h' e hm hs => hq h' e hm hs))
def Bare (s : Shared) (e C : Addr) : Prop := ∃ dx t, s.heap.get? e = some { cls := .ref C, dict := dx, data := .fields #[.ref t, .none, .none, .none, .bool false, .none] }
theorem raise_run {env : Env} {s : Shared} {x : Sem Value} {Q : Flow → Shared → Prop} (hh : A.handled = none)
   (hx : wpAny (model P w) A x (fun v s1 => ∃ e, v = .ref e ∧ XC s1.heap C bm ∧ Bare s1 e C ∧ E (.ref e) s1) E s) : wpAny (model P w) A (raiseStmt env (some x) none) Q E s := by
 unfold raiseStmt
 refine wpAny_bind (wpAny_mono hx (fun v s1 h1 => ?_) fun _ _ z => z)
 obtain ⟨e, rfl, xc, ⟨dx, tt, he⟩, hE⟩ := h1
 obtain ⟨⟨nm, q, N, bs, sn, sub, ab, col, dd, k0, k1, k2, k3, k5, cC⟩, _, bas, _⟩ := xc
 have c1 : (Value.ref C :: bm).contains (.type "BaseException") = true := has_more bas
 obtain ⟨hp, g1, d1, tk, os1⟩ := s1
 repeat (first
   | with_reducible refine wpAny_loadPart_at he ?_
   | with_reducible refine wpAny_loadPart_at cC ?_
   | (with_reducible refine wpAny_isSubtype_exc cC ?_; rw [c1])
   | wp_step)
 exact wpAny_raiseNew_none hh hE
theorem raise_call {env : Env} {s : Shared} {x : Str} {np cpos pos : Pos} {args : List Expr} {iv : Value} {Q : Flow → Shared → Prop} (hh : A.handled = none) (hplain : (backTo cpos (starEach args env)).any (·.1) = false)
   (hx : wpAny (model P w) A (eval (.Name x np) env) (fun f s1 => f = .ref C ∧ wpAny (model P w) A (evalArgs (.ref C) true (backTo cpos (starEach args env)) [])
     (fun a s2 => a.kw = [] ∧ a.pos.length ≤ sizeLine ∧ XC s2.heap C bm ∧ Rds (model P w) s2.heap (typeLookup (.ref C) "__init__") (some iv) ∧
       ∀ h' e, Heap.MadeExcOf s2.heap h' e (.ref C) a.pos → s2.heap.objs.size ≤ e → wpAny (model P w) (A.under (.builtin "type.__call__" ⟨.ref C :: a.pos, []⟩)) (bindSpecial iv (.ref e))
         (fun p s3 => wpAny (model P w) (A.under (.builtin "type.__call__" ⟨.ref C :: a.pos, []⟩)) (call p.1 (p.2 ++ a.pos)) (fun r s4 => r = .none ∧ XC s4.heap C bm ∧ Bare s4 e C ∧ E (.ref e) s4) E s3) E { s2 with heap := h' }) E s1) E s) :
   wpAny (model P w) A (exec (.Raise (some (.Call (.Name x np) args [] cpos)) none pos) env) Q E s := by
 rw [arm_exec_Raise]
 have go : wpAny (model P w) A (eval (.Call (.Name x np) args [] cpos) env) (fun v s1 => ∃ e, v = .ref e ∧ XC s1.heap C bm ∧ Bare s1 e C ∧ E (.ref e) s1) E s := by
   refine wpAny_Call_ofName (wpAny_mono hx (fun f s1 h1 => ?_) fun _ _ z => z)
   obtain ⟨rfl, h1⟩ := h1
   unfold callWith
   refine wpAny_bind (wpAny_holding (wpAny_mono h1 (fun a s2 h2 => wpAny_bind (wpAny_standAt ?_)) fun _ _ z => z))
   obtain ⟨ap, ak⟩ := a
   obtain ⟨hkw, hlen, xc, li, h2⟩ := h2
   obtain rfl : ak = [] := hkw
   obtain ⟨hp, g1, d1, tk, os1⟩ := s2
   simp only [hplain]
   obtain ⟨⟨nm, q, N, bs, sn, sub, ab, col, dd, k0, k1, k2, k3, k5, cC⟩, _⟩ := id xc
   refine wpAny_bind (wpAny_keeperOf_exc cC ?_)
   refine wpAny_bind (class_call xc li hlen fun h' e hm hs => wpAny_mono (h2 h' e hm hs) (fun p s3 h3 => wpAny_mono h3 (fun r s4 h4 => ?_) fun _ _ z => z) fun _ _ z => z)
   exact ⟨h4.1, wpAny_bind (wpAny_holding (wpAny_point (wpAny_pure ⟨e, rfl, h4.2⟩)))⟩
 first
   | refine wpAny_bind (wpAny_standAt (raise_run (C := C) (bm := bm) hh (wpAny_bind (wpAny_mono go (fun v s3 h3 => wpAny_bind (wpAny_standAt (wpAny_pure h3))) fun _ _ z => z))))
   | (simp only [evalOpt, Option.map]; refine wpAny_bind (wpAny_standAt (raise_run (C := C) (bm := bm) hh (wpAny_bind (wpAny_mono go (fun v s3 h3 => wpAny_bind (wpAny_standAt (wpAny_pure h3))) fun _ _ z => z)))))
end
end L3
namespace L3
open PySem
section
variable {P : Program} {w : World} {A : Around} {E : Value → Shared → Prop} {h h' : Heap} {g : Array GenState} {d : Drawn} {t : Nat} {os : OsState} {C : Addr} {bm : List Value}
end
end L3
namespace L3
open PySem Builtin Builtin.ObjectAttr
section
variable {P : Program} {w : World} {A : Around} {E : Value → Shared → Prop} {h : Heap} {g : Array GenState} {d : Drawn} {t : Nat} {os : OsState} {C x : Addr} {bm : List Value}
 {mA : Str → Option Value} {name : Str} {v : Value} {B : String} {bmB : List Value}
theorem Rds.go {α : Type} {M : Model} {r : α} {u : Sem α} {s : Shared} {Q : α → Shared → Prop} (l : Rds M h u r) (k : ∀ b o, h.get? b = some o → s.heap.get? b = some o) (q : Q r s) : wpAny M A u Q E s := l A Q E s k q
def Stored (h : Heap) (x C : Addr) (mA : Str → Option Value) (name : Str) (v : Value) (h' : Heap) : Prop :=
 h'.Inst x C (fun y => if y = name then some v else mA y) ∧
 (∀ b o, b ≠ x → (∀ o0 dx, h.get? x = some o0 → o0.dict = some dx → b ≠ dx) → h.get? b = some o → h'.get? b = some o) ∧
 (∀ o0, h.get? x = some o0 → ∃ o1, h'.get? x = some o1 ∧ o1.cls = o0.cls ∧ o1.data = o0.data ∧ o1.slots = o0.slots ∧ ∀ dx, o0.dict = some dx → o1.dict = some dx) ∧
 (∀ o0, h.get? x = some o0 → o0.dict = none → ∃ o1, h'.get? x = some o1 ∧ o1.dict = some h.objs.size)
theorem set_check {M : Model} {o : Obj} {nameV : Value} {Q : Unit → Shared → Prop} (SF : StoreFacts B bmB "object.__setattr__" "object") (xc : XC h C bm) (hx : h.get? x = some o) (hc : o.cls = .ref C)
   (hq : Q () ⟨h, g, d, t, os⟩) : wpAny M A (checkBuiltinCall "object.__setattr__" ⟨[.ref x, nameV, v], []⟩) Q E ⟨h, g, d, t, os⟩ := by
 obtain ⟨⟨nm, q, N, bs, sn, sub, ab, col, dd, k0, k1, k2, k3, k5, cC⟩, _, _, ob, _, _⟩ := xc
 have c1 : (Value.ref C :: bm).contains (.type "object") = true := has_more ob
 simp only [checkBuiltinCall, SF.kind, SF.split]
 refine wpAny_bind ?_
 · unfold isInstance
   repeat (first
     | (with_reducible refine wpAny_loadPart_at hx ?_; rw [hc])
     | (with_reducible refine wpAny_isSubtype_exc cC ?_; rw [c1])
     | wp_step)
   exact hq
theorem set_entry {tk : Tok} {Q : PySem.Fin → Shared → Prop} {ns : List Str} (xc : XC h C bm) (hpass : ∀ self, refuseLoop self "__setattr__" bm = pure ()) (la : Rds (model P w) h (typeLookup (.ref C) name) none) (I : h.Inst x C mA)
   (hw : Within mA ns) (hsz : ns.length ≤ sizeLine) (hq : ∀ h' tk', Stored h x C mA name v h' → Q (.done (.ret .none)) ⟨h', g, d, tk', os⟩) :
   wpAny (model P w) A (Builtin.«object.__setattr__» ⟨[.ref x, .str name tk, v], []⟩) Q E ⟨h, g, d, t, os⟩ := by
 obtain ⟨⟨nm, q, N, bs, sn, sub, ab, col, dd, k0, k1, k2, k3, k5, cC⟩, _⟩ := xc
 obtain ⟨o, hx, hc, hnc, hd⟩ := I
 have hp := hpass (.ref x)
 unfold Builtin.«object.__setattr__»
 repeat (first
   | rw [refuse_eq]
   | (rw [refuseLoop_ref, hp])
   | (with_reducible refine wpAny_loadPart_at hx ?_; rw [hc])
   | with_reducible refine wpAny_mroOf_exc cC ?_
   | with_reducible refine Rds.go la (fun _ _ z => z) ?_
   | wp_step)
 rcases hd with ⟨hdn, hmA⟩ | ⟨dx, hdx, hne, hns⟩
 · rw [hdn, if_neg (by simp [typeHasDict])]
   split
   · rename_i z
     cases z
   split
   · rename_i c z
     exact absurd z (hnc c)
   · have hx1 : (h.push { cls := .type "dict", data := .dict #[] }).get? x = some o := Heap.get?_push_of_some _ hx
     have hxs : x ≠ h.objs.size := Nat.ne_of_lt (Heap.lt_size hx)
     refine wpAny_bind (wpAny_alloc' ?_)
     refine wpAny_bind (wpAny_update' hx1 ?_)
     refine wpAny_pure ?_
     have g1 : ((h.push { cls := .type "dict", data := .dict #[] }).update x fun o => { cls := o.cls, dict := some h.objs.size, data := o.data, slots := o.slots }).get? h.objs.size =
         some { cls := .type "dict", data := .dict #[] } := (Heap.get?_update_ne _ _ _ _ hxs.symm).trans (Heap.get?_push_at rfl rfl)
     have g2 : ((h.push { cls := .type "dict", data := .dict #[] }).update x fun o => { cls := o.cls, dict := some h.objs.size, data := o.data, slots := o.slots }).Ns h.objs.size (fun _ => none) :=
       ⟨_, #[], _, g1, rfl, (fun e he => absurd he (by simp)), fun _ => rfl⟩
     show wpAny _ _ (storeInDict h.objs.size (.str name tk) name v) _ _ _
     unfold storeInDict newKeyGuard
     refine wpAny_bind (wpAny_pure (wpAny_bind (wpAny_nsSet1 (Heap.Ns1.of_empty g2) fun h' hn' hs => ?_)))
     obtain ⟨oD, esD, epD, hoD, hdD, hcD⟩ := hn'.count (Within.cons name v Within.nil)
     refine wpAny_bind (wpAny_lookBehind hoD (by rw [hdD]; exact pastItsLine_dict (Nat.le_trans hcD (by rw [List.length_cons, List.length_nil, sizeLine_eq]; omega))) ?_)
     wp_walk
     have hx' : h'.get? x = some { cls := o.cls, dict := some h.objs.size, data := o.data, slots := o.slots } := by
       refine (hs.2 x hxs).trans (Heap.get?_update_self _ hx1 ?_)
       have fr := (Heap.get?_some_iff.mp hx).2
       obtain ⟨oc, od, odt, osl⟩ := o
       cases odt <;> first | rfl | exact fr
     refine hq h' _ ⟨⟨_, hx', hc, hnc, .inr ⟨h.objs.size, rfl, hxs.symm, ?_⟩⟩, fun b ob hbx _ hb => ?_, fun o0 h0 => ?_, fun o0 h0 _ => ⟨_, hx', rfl⟩⟩
     · obtain ⟨o', es, ep, e1, e2, e3, eu, e4⟩ := hn'
       exact ⟨o', es, ep, e1, e2, e3, eu, fun y => by rw [e4 y]; by_cases hy : y = name <;> simp [hy, hmA]⟩
     · exact (hs.2 b (Nat.ne_of_lt (Heap.lt_size hb))).trans ((Heap.get?_update_ne _ _ _ _ hbx).trans (Heap.get?_push_of_some _ hb))
     · obtain rfl : o = o0 := Option.some.inj (hx.symm.trans h0)
       exact ⟨_, hx', rfl, rfl, rfl, fun dx e => by rw [hdn] at e; cases e⟩
 · rw [hdx]
   refine wpAny_pure ?_
   show wpAny _ _ (storeInDict dx (.str name tk) name v) _ _ _
   unfold storeInDict newKeyGuard
   refine wpAny_bind (wpAny_pure (wpAny_bind (wpAny_nsSet1 hns fun h' hn' hs => ?_)))
   obtain ⟨oD, esD, epD, hoD, hdD, hcD⟩ := hn'.count (Within.cons name v hw)
   refine wpAny_bind (wpAny_lookBehind hoD (by rw [hdD]; exact pastItsLine_dict (Nat.le_trans hcD (by rw [List.length_cons]; omega))) ?_)
   wp_walk
   refine hq h' _ ⟨⟨o, (hs.2 x hne.symm).trans hx, hc, hnc, .inr ⟨dx, hdx, hne, hn'⟩⟩, fun b ob _ hbd hb => ?_, fun o0 h0 => ⟨o0, (hs.2 x hne.symm).trans h0, rfl, rfl, rfl, fun _ e => e⟩, fun o0 h0 hn0 => ?_⟩
   · exact (hs.2 b (hbd o dx hx hdx)).trans hb
   · obtain rfl : o = o0 := Option.some.inj (hx.symm.trans h0)
     rw [hdx] at hn0
     cases hn0
theorem set_attr {Q : Unit → Shared → Prop} {ns : List Str} (SF : StoreFacts B bmB "object.__setattr__" "object") (xc : XC h C bm) (hpass : ∀ self, refuseLoop self "__setattr__" bm = pure ())
   (ls : Rds (model P w) h (typeLookup (.ref C) "__setattr__") (some (.builtin "object.__setattr__"))) (la : Rds (model P w) h (typeLookup (.ref C) name) none) (I : h.Inst x C mA) (hw : Within mA ns) (hsz : ns.length ≤ sizeLine)
   (hq : ∀ h' tk', Stored h x C mA name v h' → Q () ⟨h', g, d, tk', os⟩) : wpAny (model P w) A (setAttr (.ref x) name v) Q E ⟨h, g, d, t, os⟩ := by
 obtain ⟨o, hx, hc, _⟩ := id I
 have f3 := SF.slot.bind (.ref x)
 unfold setAttr callSpecial? specialOf
 repeat (any_goals (first
   | assumption
   | (with_reducible refine wpAny_loadPart_at hx ?_; rw [hc])
   | with_reducible refine Rds.go ls (fun _ _ z => z) ?_
   | wp_step))
 refine codeAny_call_builtin SF.slot.plain SF.entry (set_check SF xc hx hc (set_entry xc hpass la I hw hsz fun h' tk' st => ?_))
 repeat (any_goals (first | assumption | wp_step))
 exact hq h' tk' st
end
end L3
namespace L3
open PySem Builtin Builtin.ObjectAttr
section
variable {P : Program} {w : World} {A : Around} {E : Value → Shared → Prop} {h : Heap} {g : Array GenState} {d : Drawn} {t : Nat} {os : OsState} {C x dx : Addr} {bm : List Value}
 {mA : Str → Option Value} {name : Str} {v : Value} {o : Obj} {vs : Array Value}
theorem get_check {M : Model} {nameV : Value} {Q : Unit → Shared → Prop} (xc : XC h C bm) (hx : h.get? x = some o) (hc : o.cls = .ref C) (hq : Q () ⟨h, g, d, t, os⟩) :
   wpAny M A (checkBuiltinCall "BaseException.__getattribute__" ⟨[.ref x, nameV], []⟩) Q E ⟨h, g, d, t, os⟩ := by
 obtain ⟨⟨nm, q, N, bs, sn, sub, ab, col, dd, k0, k1, k2, k3, k5, cC⟩, _, bas, _, _, _⟩ := xc
 have f1 : builtinKind "BaseException.__getattribute__" = some .slot := by decide +kernel
 have f2 : splitId "BaseException.__getattribute__" = some ("BaseException", "__getattribute__") := by decide +kernel
 have c1 : (Value.ref C :: bm).contains (.type "BaseException") = true := has_more bas
 have ha := PySem.F.args_bexc_ga (.ref x) nameV
 simp only [checkBuiltinCall, f1, f2]
 refine wpAny_bind ?_
 unfold isInstance
 repeat (first
   | (with_reducible refine wpAny_loadPart_at hx ?_; rw [hc])
   | (with_reducible refine wpAny_isSubtype_exc cC ?_; rw [c1])
   | wp_step)
 exact hq
theorem get_entry {tk : Tok} {Q : PySem.Fin → Shared → Prop} (xc : XC h C bm) (la : Rds (model P w) h (typeLookup (.ref C) name) none) (hx : h.get? x = some o) (hc : o.cls = .ref C) (hd : o.data = .fields vs) (hdx : o.dict = some dx)
   (hn : h.Ns1 dx mA) (hv : mA name = some v) (hq : Q (.done (.ret v)) ⟨h, g, d, t, os⟩) :
   wpAny (model P w) A (Builtin.«object.__getattribute__» ⟨[.ref x, .str name tk], []⟩) Q E ⟨h, g, d, t, os⟩ := by
 obtain ⟨⟨nm, q, N, bs, sn, sub, ab, col, dd, k0, k1, k2, k3, k5, cC⟩, _⟩ := xc
 obtain ⟨oc, od, odt, osl⟩ := o
 dsimp only at hc hd hdx
 subst hc hd hdx
 repeat (any_goals (first
   | assumption
   | with_reducible refine wpAny_loadPart_at hx ?_
   | with_reducible refine wpAny_loadPart_at cC ?_
   | with_reducible refine Rds.go la (fun _ _ z => z) ?_
   | with_reducible refine wpAny_nsGet hn.ns ?_
   | wp_step))
 rw [hv]
 repeat (any_goals (first | assumption | wp_step))
theorem get_attr {ex : Bool} {Q : Value → Shared → Prop} (FB : ExcAttrFacts "ValueError") (xc : XC h C bm) (lg : Rds (model P w) h (typeLookup (.ref C) "__getattribute__") (some (.builtin "BaseException.__getattribute__")))
   (lh : Rds (model P w) h (typeLookup (.ref C) "__getattr__") none) (la : Rds (model P w) h (typeLookup (.ref C) name) none) (hx : h.get? x = some o) (hc : o.cls = .ref C) (hd : o.data = .fields vs) (hdx : o.dict = some dx)
   (hn : h.Ns1 dx mA) (hv : mA name = some v) (hh : handedOut v = pure v) (hq : Q v ⟨h, g, d, t + 1, os⟩) : wpAny (model P w) A (getAttr (.ref x) name ex) Q E ⟨h, g, d, t, os⟩ := by
 have f3 := FB.ga.bind (.ref x)
 have e0 : (ex && onTheHeap (Value.builtin "BaseException.__getattribute__")) = false := by cases ex <;> rfl
 have e2 : (Value.builtin "BaseException.__getattribute__" == Value.builtin "object.__getattribute__") = false := by decide +kernel
 have e1 : (onTheHeap (Value.ref C) && Value.builtin "BaseException.__getattribute__" == Value.builtin "object.__getattribute__") = false := by rw [e2]; rfl
 unfold getAttr
 repeat (any_goals (first
   | assumption
   | (with_reducible refine wpAny_loadPart_at hx ?_; rw [hc])
   | with_reducible refine Rds.go lg (fun _ _ z => z) ?_
   | with_reducible refine Rds.go lh (fun _ _ z => z) ?_
   | wp_step))
 refine codeAny_call_builtin FB.ga.plain PySem.F.entry_bexc_ga (get_check xc hx hc (get_entry xc la hx hc hd hdx hn hv ?_))
 repeat (any_goals (first | assumption | wp_step))
end
end L3
namespace L3
open PySem Builtin Builtin.ObjectAttr
section
variable {P : Program} {w : World} {A : Around} {E : Value → Shared → Prop} {h : Heap} {g : Array GenState} {d : Drawn} {t : Nat} {os : OsState} {C x : Addr} {bm : List Value} {o : Obj}
theorem cls_get {R : Result → Shared → Prop} (xc : XC h C bm) (hx : h.get? x = some o) (hc : o.cls = .ref C) (hq : R (.ok (.ret (.ref C))) ⟨h, g, d, t, os⟩) :
   codeAny (model P w) A (.call (.builtin "getset_descriptor.__get__") ⟨[.builtin "object.__class__", .ref x, .ref C], []⟩) R ⟨h, g, d, t, os⟩ := by
 obtain ⟨⟨nm, q, N, bs, sn, sub, ab, col, dd, k0, k1, k2, k3, k5, cC⟩, _, _, ob, _, _⟩ := xc
 have ty : (⟨h, g, d, t, os⟩ : Shared).TypeIs (.builtin "object.__class__") "getset_descriptor" := PySem.F.typeOf_object_class
 have c1 : (Value.ref C :: bm).contains (.type (".".intercalate ("object.__class__".cutAt '.').dropLast)) = true := by
   rw [PySem.F.owner_object_class]
   exact has_more ob
 refine codeAny_call_builtin PySem.F.slot_gs_get.plain PySem.F.entry_gs_get (PySem.F.slot_gs_get.check _ _ _ _ _ _ _ _ ty (PySem.F.args_gs_get _ _ _) ?_)
 repeat (any_goals (first
   | assumption
   | (with_reducible refine wpAny_loadPart_at hx ?_; rw [hc])
   | (with_reducible refine wpAny_isSubtype_exc cC ?_; rw [c1])
   | wp_step))
 refine ⟨Code.quiet_builtin _ (by decide +kernel), codeAny_builtin PySem.F.entry_object_class ?_⟩
 repeat (any_goals (first
   | assumption
   | (with_reducible refine wpAny_loadPart_at hx ?_; rw [hc])
   | wp_step))
theorem cls_entry {tk : Tok} {Q : PySem.Fin → Shared → Prop} (xc : XC h C bm) (lc : Rds (model P w) h (typeLookup (.ref C) "__class__") (some (.builtin "object.__class__"))) (hx : h.get? x = some o) (hc : o.cls = .ref C)
   (hq : Q (.done (.ret (.ref C))) ⟨h, g, d, t, os⟩) : wpAny (model P w) A (Builtin.«object.__getattribute__» ⟨[.ref x, .str "__class__" tk], []⟩) Q E ⟨h, g, d, t, os⟩ := by
 have ty : (⟨h, g, d, t, os⟩ : Shared).TypeIs (.builtin "object.__class__") "getset_descriptor" := PySem.F.typeOf_object_class
 have f5 := PySem.F.typeOf_object_class
 have f6 := PySem.F.slot_gs_get.lookup
 have f7 := PySem.F.slot_gs_set.lookup
 repeat (any_goals (first
   | assumption
   | (with_reducible refine wpAny_loadPart_at hx ?_; rw [hc])
   | with_reducible refine Rds.go lc (fun _ _ z => z) ?_
   | wp_step))
 refine cls_get xc hx hc ?_
 repeat (any_goals (first | assumption | wp_step))
theorem cls_attr {Q : Option Value → Shared → Prop} (FB : ExcAttrFacts "ValueError") (xc : XC h C bm) (lg : Rds (model P w) h (typeLookup (.ref C) "__getattribute__") (some (.builtin "BaseException.__getattribute__")))
   (lh : Rds (model P w) h (typeLookup (.ref C) "__getattr__") none) (lc : Rds (model P w) h (typeLookup (.ref C) "__class__") (some (.builtin "object.__class__"))) (hx : h.get? x = some o) (hc : o.cls = .ref C)
   (hq : Q (some (.ref C)) ⟨h, g, d, t + 1, os⟩) : wpAny (model P w) A (getAttr? (.ref x) "__class__") Q E ⟨h, g, d, t, os⟩ := by
 have f3 := FB.ga.bind (.ref x)
 have e0 : (false && onTheHeap (Value.builtin "BaseException.__getattribute__")) = false := rfl
 have e2 : (Value.builtin "BaseException.__getattribute__" == Value.builtin "object.__getattribute__") = false := by decide +kernel
 have e1 : (onTheHeap (Value.ref C) && Value.builtin "BaseException.__getattribute__" == Value.builtin "object.__getattribute__") = false := by rw [e2]; rfl
 unfold getAttr? getAttrBy?
 repeat (any_goals (first
   | assumption
   | (with_reducible refine wpAny_loadPart_at hx ?_; rw [hc])
   | with_reducible refine Rds.go lg (fun _ _ z => z) ?_
   | with_reducible refine Rds.go lh (fun _ _ z => z) ?_
   | wp_step))
 refine codeAny_call_builtin FB.ga.plain PySem.F.entry_bexc_ga (get_check xc hx hc (cls_entry xc lc hx hc ?_))
 repeat (any_goals (first | assumption | wp_step))
end
end L3
namespace L2
open PySem PySem.Spec PyProof.Rows L3
def onlyVal : List Value → Bool
 | .ref _ :: r => onlyVal r
 | l => l == [.type "ValueError", .type "Exception", .type "BaseException", .type "object"]
theorem refuse_val (self : Value) {l : List Value} (e : onlyVal l = true) : refuseLoop self "__setattr__" l = pure () := by
 induction l with
 | nil => cases e
 | cons c r ih =>
   cases c with
   | ref a =>
     rw [refuseLoop_ref]
     exact ih e
   | type n =>
     rw [show Value.type n :: r = [.type "ValueError", .type "Exception", .type "BaseException", .type "object"] from beq_iff_eq.mp e]
     exact PySem.F.store_ValueError.passes self
   | _ => exact absurd (beq_iff_eq.mp e) (by simp)
def bmOf (K : PySem.W.Frag) (C : Addr) : List Value := match K.lookup C with
 | some ⟨_, _, .cls cd, _⟩ => cd.mro.tail
 | _ => []
def xclsIn (K : PySem.W.Frag) (C : Addr) : Bool := match K.lookup C with
 | some ⟨.type "type", _, .cls cd, sl⟩ => (match cd.mro, sl.toList with
   | .ref C' :: bm, [_, _, _, _, some (.builtin n), _] => C' == C && !cd.hasDel && cd.hasDict && n == "ValueError.__new__" && bm.contains (.type "ValueError") && bm.contains (.type "BaseException") && bm.contains (.type "object") && !bm.contains (.type "AttributeError") && !bm.contains (.type "NameError") && onlyVal bm
   | _, _ => false)
 | _ => false
theorem xc_of {K : PySem.W.Frag} {h : Heap} {C : Addr} (X : K.In h) (q : xclsIn K C = true) : XC h C (bmOf K C) ∧ onlyVal (bmOf K C) = true := by
 unfold xclsIn at q
 split at q
 · rename_i dd cd sl ho
   split at q
   · rename_i C' bm k0 k1 k2 k3 n k5 hm hs
     simp only [Bool.and_eq_true, beq_iff_eq, Bool.not_eq_true'] at q
     obtain ⟨⟨⟨⟨⟨⟨⟨⟨⟨rfl, hdel⟩, hhd⟩, rfl⟩, hv⟩, hb⟩, hob⟩, hA⟩, hN⟩, ho'⟩ := q
     have eb : bmOf K C' = bm := by
       unfold bmOf
       rw [ho]
       show cd.mro.tail = bm
       rw [hm]
       rfl
     obtain ⟨nm, bs, mro, ns, qn, hd, sn, sub, ab, col, del⟩ := cd
     dsimp only at hm hdel hhd
     subst hm hdel hhd
     have hsl : sl = #[k0, k1, k2, k3, some (.builtin "ValueError.__new__"), k5] := by
       obtain ⟨l⟩ := sl
       simp only at hs
       rw [hs]
     subst hsl
     rw [eb]
     exact ⟨⟨⟨nm, qn, ns, bs, sn, sub, ab, col, dd, k0, k1, k2, k3, k5, X _ _ ho⟩, hv, hb, hob, hA, hN⟩, ho'⟩
   · cases q
 · cases q
structure XCls (K : PySem.W.Frag) (C : Addr) : Prop where
 sh : xclsIn K C = true
 ga : PySem.W.findIn K (.ref C) "__getattribute__" = some (some (.builtin "BaseException.__getattribute__"))
 gh : PySem.W.findIn K (.ref C) "__getattr__" = some none
 sa : PySem.W.findIn K (.ref C) "__setattr__" = some (some (.builtin "object.__setattr__"))
 cl : PySem.W.findIn K (.ref C) "__class__" = some (some (.builtin "object.__class__"))
theorem rds_of {K : PySem.W.Frag} {M : Model} {h : Heap} {C : Addr} {name : Str} {r : Option Value} (X : K.In h) (e : PySem.W.findIn K (.ref C) name = some r) : Rds M h (typeLookup (.ref C) name) r := PySem.W.looks_findIn X e
theorem XCls.xc {K : PySem.W.Frag} {h : Heap} {C : Addr} (c : XCls K C) (X : K.In h) : XC h C (bmOf K C) := (xc_of X c.sh).1
theorem XCls.pass {K : PySem.W.Frag} {h : Heap} {C : Addr} (c : XCls K C) (X : K.In h) (self : Value) : refuseLoop self "__setattr__" (bmOf K C) = pure () := refuse_val self (xc_of X c.sh).2
section
variable {X : Cx} {pins : List (Addr × Obj)} {σ : St} {H : Hp} {s : Shared} {h' : Heap}
theorem aft {ch : List Addr} (I : Inv X pins σ H s) (a : Aft (frs X.stack) ch s.heap h') (hc : ∀ b ∈ ch, FpOk X pins H b) : Inv X pins σ H { s with heap := h' } := by
 have nS : ∀ b, b ≠ X.env.locals → b ∉ X.fs → b ∉ frs X.stack := fun b h1 h2 z => (List.mem_cons.mp (I.stkSub b z)).elim h1 h2
 refine I.step (g' := s.gens) (d' := s.drawn) (t' := s.toks) (ch := ch) (fun b hb => ?_) (fun b o h1 h2 h3 e _ => a.keep b o (nS b h1 h2) h3 e) (fun b o _ _ h3 e _ => a.slot b o h3 e) (fun _ _ _ _ n => n)
   (fun b o h3 e => ?_) (fun _ _ e => e) (fun _ _ _ e => e) (fun b ps e => ⟨#[], by rw [e]; simp⟩) (fun m hm => ?_) (fun b u e => ?_) I.bare
 · obtain ⟨_, f1, _, f3, f4, f5⟩ := hc b hb
   exact ⟨f3, f1, f4, f5⟩
 · obtain ⟨sl, q⟩ := a.slot b o h3 e
   exact ⟨_, q⟩
 · obtain ⟨o, es, ep, ho, r⟩ := hm
   obtain ⟨sl, q⟩ := a.slot _ o (fun z => (hc _ z).2.1 rfl) ho
   exact ⟨_, es, ep, q, r⟩
 · refine (I.hok b u e).stay (fun c v hb q => a.keep c v (fun z => ?_) (fun z => ?_) q) (fun _ q => q) fun _ _ q => q
   · rcases hb with rfl | hb
     · rw [I.stkFree c z] at e; cases e
     · rw [I.stkFree c z] at hb; cases hb
   · rcases hb with rfl | hb
     · rw [(hc c z).1] at e; cases e
     · rw [(hc c z).1] at hb; cases hb
theorem track {x : Addr} {o : HO} (I : Inv X pins σ H s) (f : FpOk X pins H x) (new : ObjOk X.prog X.w (upd H x o) s.heap x o) : Inv X pins σ (upd H x o) s := by
 obtain ⟨f0, f1, f2, f3, f4, f5⟩ := f
 have nx : ∀ b u, H b = some u → b ≠ x := fun b u e z => by rw [z, f0] at e; cases e
 refine ⟨I.ok, I.os, I.bare, ⟨I.base.keep, I.base.slot, fun b ob e n hx => ?_, I.base.there, fun b xs e => ?_, fun b ob u e => ?_, fun b ps e => ?_⟩, I.loc, I.cell, ?_, fun y c e => ?_, fun p hp => ?_, fun b u e => ?_, I.len⟩
 · have hb : b ≠ x := fun z => by
     rcases f3 with q | q
     · exact hx (z ▸ q)
     · exact absurd (Nat.lt_of_lt_of_le (Heap.lt_size e) (z ▸ q)) (Nat.lt_irrefl _)
   rw [upd_ne hb]
   exact I.base.free b ob e n hx
 · have q := I.base.tups b xs e
   rw [upd_ne (nx _ _ q)]
   exact q
 · have q := I.base.frzs b ob u e
   rw [upd_ne (nx _ _ q)]
   exact q
 · obtain ⟨more, q⟩ := I.base.tbls b ps e
   exact ⟨more, by rw [upd_ne (nx _ _ q)]; exact q⟩
 · rw [upd_ne (Ne.symm f1)]
   exact I.free
 · rw [upd_ne (f4 y c e)]
   exact I.freeC y c e
 · obtain ⟨e, n, ne, nf, d⟩ := I.pin p hp
   exact ⟨e, by rw [upd_ne (f5 p hp)]; exact n, ne, nf, d⟩
 · by_cases hb : b = x
   · subst hb
     rw [upd_same] at e
     cases e
     exact new
   · rw [upd_ne hb] at e
     exact (I.hok b u e).stay (fun _ _ _ q => q) (fun c q => by rw [upd_ne (nx _ _ q)]; exact q) fun c xs q => by rw [upd_ne (nx _ _ q)]; exact q
end
structure ExIn (X : Cx) (pins : List (Addr × Obj)) (H : Hp) (s : Shared) (x : Addr) (C : Value) (dx : Option Addr) : Prop where
 own : FpOk X pins H x
 tr : Rec s.heap x C dx .none ∨ ∃ T fl, Rec s.heap x C dx (.ref T) ∧ T ≠ x ∧ Tra s.heap T fl ∧ FpOk X pins H T
def XeIs (X : Cx) (R : St → Prop) (Ek : XK) : Prop :=
 ∀ (pins : List (Addr × Obj)) (σ : St) (H : Hp) (s : Shared) (x : Addr) (C : Value) (dx : Option Addr), Inv X pins σ H s → R σ → ExIn X pins H s x C dx → Ek C dx H → X.xe (.ref x) s
def CX1 (P : Program) (w : World) : CXT := fun outer H s E e s' =>
 ∃ (x : Addr) (C : Value) (dx : Option Addr) (T : Addr) (H' : Hp), e = .ref x ∧ s'.os = s.os ∧ AllBare s'.gens ∧ Un (frs outer) [] H H' s.heap s'.heap ∧ HOk P w H' s'.heap ∧ (s.heap.objs.size ≤ x ∧ H' x = none) ∧ (s.heap.objs.size ≤ T ∧ H' T = none) ∧ T ≠ x ∧
   Rec s'.heap x C dx (.ref T) ∧ Tra s'.heap T .none ∧ E C dx H'
section
variable {X : Cx}
theorem pass1 {R : St → Prop} {E : XK} (hx : XeIs X R E) {pins : List (Addr × Obj)} {σ : St} {H : Hp} {s : Shared} {e : Value} {s' : Shared} (I : Inv X pins σ H s) (r : R σ) (h : CX1 X.prog X.w X.stack H s E e s') : X.xe e s' := by
 obtain ⟨x, C, dx, T, H', rfl, os, bare, un, hok, ⟨x1, x2⟩, ⟨t1, t2⟩, ne, rc, tr, q⟩ := h
 have I' : Inv X pins σ H' s' := I.call' os un hok bare (ch := []) (fun _ z => nomatch z)
 exact hx pins σ H' s' x C dx I' r ⟨I.fpOk x1 x2, .inr ⟨T, _, rc, ne, tr, I.fpOk t1 t2⟩⟩ q
end
theorem xe_def {P : Program} {w : World} {K : PySem.W.Frag} {mg : Str → Option Value} {base : Heap} {cm : Bool} {N : List Str} {qual : Str} {scope : Scope} {f : Addr} {cd : Value} {A : Around} {outer : List Env} {s : Shared} {H : Hp} {E : XK} :
   XeIs (cxOf (CX1 P w) cm P w K mg base N qual scope f cd A outer s H E) (fun _ => True) E := by
 intro pins σ H1 s1 x C dx I _ ex e
 show wpAny (model P w) (A.deeper (envOfC qual scope s.heap.objs.size f cd)) (leaving (envOfC qual scope s.heap.objs.size f cd) (.ref x)) (fun _ s2 => CX1 P w outer H s E (.ref x) s2) (fun e' s2 => CX1 P w outer H s E e' s2) s1
 have fin : ∀ (T : Addr) (h2 : Heap), Inv (cxOf (CX1 P w) cm P w K mg base N qual scope f cd A outer s H E) pins σ H1 { s1 with heap := h2 } → s.heap.objs.size ≤ T → H1 T = none → T ≠ x → Rec h2 x C dx (.ref T) → Tra h2 T .none → CX1 P w outer H s E (.ref x) { s1 with heap := h2 } := by
   intro T h2 J t1 t2 ne r t
   obtain ⟨f0, _, _, f3, _⟩ := ex.own
   have x1 : s.heap.objs.size ≤ x := f3.elim (fun z => absurd (show x ∈ ([] : List Addr) from z) (by simp)) id
   exact ⟨x, C, dx, T, H1, rfl, J.os, J.bare, J.base, J.hok, ⟨x1, f0⟩, ⟨t1, t2⟩, ne, r, t, e⟩
 unfold leaving
 rcases ex.tr with r | ⟨T0, fl0, r, ne0, t0, f0⟩
 · refine wpAny_bind (note_new I.ok.frames I.stack rfl r fun h' T a sz r' t' => ?_)
   have xT : T ≠ x := by
     obtain ⟨oe, _, he, _⟩ := r
     exact fun z => absurd (Nat.lt_of_lt_of_le (Heap.lt_size he) (z ▸ sz)) (Nat.lt_irrefl _)
   have hT := I.hok.fresh sz
   have I1 := aft I a (by intro b hb; have : b = x := by simpa using hb
                          subst this; exact ex.own)
   refine flight_none r' xT t' fun h2 a2 r2 t2 => ?_
   have I2 := aft (h' := h2) I1 (a2.mono (by simp) fun _ z => z) (by intro b hb; have : b = T := by simpa using hb
                                                                     subst this; exact I.fpOk sz hT)
   exact fin T h2 I2 (Nat.le_trans I.sz sz) hT xT r2 t2
 · refine wpAny_bind (note_any I.ok.frames I.stack rfl r ne0 t0 fun h' T fl' a sz r' t' => ?_)
   have xT : T ≠ x := by
     obtain ⟨oe, _, he, _⟩ := r
     rcases sz with z0 | z0
     · rw [z0]; exact ne0
     · exact fun z => absurd (Nat.lt_of_lt_of_le (Heap.lt_size he) (z ▸ z0)) (Nat.lt_irrefl _)
   have fT : FpOk (cxOf (CX1 P w) cm P w K mg base N qual scope f cd A outer s H E) pins H1 T := by
     rcases sz with z0 | z0
     · rw [z0]; exact f0
     · exact I.fpOk z0 (I.hok.fresh z0)
   have I1 := aft I a (by intro b hb
                          rcases (show b = x ∨ b = T0 by simpa using hb) with z | z
                          · subst z; exact ex.own
                          · subst z; exact f0)
   refine flight_none r' xT t' fun h2 a2 r2 t2 => ?_
   have I2 := aft (h' := h2) I1 (a2.mono (by simp) fun _ z => z) (by intro b hb; have : b = T := by simpa using hb
                                                                     subst this; exact fT)
   obtain ⟨g0, _, _, g3, _⟩ := fT
   exact fin T h2 I2 (g3.elim (fun z => absurd (show T ∈ ([] : List Addr) from z) (by simp)) id) g0 xT r2 t2
end L2
namespace L2
open PySem PySem.Spec PyProof.Rows L3
section
variable {X : Cx} {x : Str} {C : Addr} {np cpos pos : Pos} {e : Expr} {es : List Expr} {ta : TA} {R : St → Prop} {Ek : XK}
end
def tCallR (R : St → Prop) (sp : Sp) (dvs : List V) (E : XK) (t : TA) : TE := fun σ H Q => t σ H fun vs H1 => R σ ∧ sp (vs ++ dvs) H1 Q E
section
variable {X : Cx} {cm : Bool} {k : Nat} {f C : Addr} {fd : FuncData} {ps : List Str} {sp : Sp} {dvs : List V} {ds : List Value} {E : XK} {R : St → Prop} {x m : Str} {p pos apos : Pos} {e o : Expr} {es : List Expr} {ta : TE} {t : TA}
theorem run_fnR {pins : List (Addr × Obj)} {σ : St} {H : Hp} {s : Shared} {Q : VK} {us : List Value} {vs : List V} (F : FnOk X.prog X.w X.K X.mg X.base (CX1 X.prog X.w) cm k f fd ps sp) (hr : Room cm k X.A) (hb : Binds X.K fd ps ds) (hd : Vals dvs ds) (hx : XeIs X R E)
   (I : Inv X pins σ H s) (r : Vals vs us) (hR : R σ) (h : sp (vs ++ dvs) H Q E) : wpAny (model X.prog X.w) X.A (call (.ref f) us) (EP X pins σ Q) X.xe s := by
 have r2 : Vals (vs ++ dvs) (us ++ ds) := r.append hd
 have hl : (us ++ ds).length = ps.length := by rw [← r2.length]; exact F.len _ _ _ _ h
 refine wpAny_call (codeAny_mono (F.run X.A X.stack s H ⟨us, []⟩ (us ++ ds) (vs ++ dvs) Q E hr I.env0 (hb s us I.kIn hl) r2 h) fun r s' hq => ?_)
 cases r with
 | error e => exact pass1 hx I hR hq
 | ok fl =>
   cases fl with
   | ret u => exact I.after hq
   | next => exact False.elim hq
   | brk => exact False.elim hq
   | cont => exact False.elim hq
theorem pe_callR (F : FnOk X.prog X.w X.K X.mg X.base (CX1 X.prog X.w) cm k f fd ps sp) (hr : Room cm k X.A) (hg : Gl X x) (hm : X.mg x = some (.ref f)) (hk : PySem.W.keepIn X.K (.ref f) = true) (hb : Binds X.K fd ps ds) (hd : Vals dvs ds) (hx : XeIs X R E)
   (ha : PA X (e :: es) t) (hdb : (x == ("__debug__" : Str)) = false := by decide) (he : starEach (e :: es) X.env = (false, eval e X.env) :: starEach es X.env := by rfl) (hpl : (backTo pos (starEach es X.env)).any (·.1) = false := by rfl) :
   PE X (.Call (.Name x p) (e :: es) [] pos) (tCallR R sp dvs E t) := by
 intro pins s σ H Q I h
 refine wpAny_Call_Name_kw (ld_glob I hg hm ?_ hdb)
 refine PySem.W.callWith_K (h₀ := X.base) I.ok.mod.kin hk (thn (ha pos pins s σ H _ I h) fun us s1 ⟨vs, H1, I1, r, hR, q⟩ => ⟨I1.kIn, ?_⟩) he hpl
 exact run_fnR F hr hb hd hx I1 r hR q
end
structure FunD (K : PySem.W.Frag) (x qual : Str) (st : Stmt) (f : Addr) (fd : FuncData) (dV : Value) : Prop where
 ex : ∃ (oc : Value) (od : Option Addr) (kV doc pm : Value) (an : Option Addr) (cdv ct : Value) (osl : Array (Option Value)),
   fd = PySem.W.fnOf x qual (defArgs st) (defBody st) (defScope st) dV kV doc pm an cdv ct ∧ K.lookup f = some ⟨oc, od, .func fd, osl⟩ ∧ PySem.W.codeIn K cdv qual = true
 kp : PySem.W.keepIn K (.ref f) = true
section
variable {P : Program} {w : World} {K : PySem.W.Frag} {mg : Str → Option Value} {base : Heap} {cm : Bool}
theorem FunD.okX {x qual : Str} {st : Stmt} {f : Addr} {fd : FuncData} {dV : Value} {N ps : List Str} {k : Nat} {sp : Sp} (F : FunD K x qual st f fd dV) (S : FnScope N ps (defScope st)) (len : ∀ vs H Q E, sp vs H Q E → vs.length = ps.length)
   (hbody : ∀ (cdv : Value) (A : Around) (outer : List Env) (s : Shared) (H : Hp) (vs : List V) (Q : VK) (E : XK), Room cm k (A.deeper (envOfC qual (defScope st) s.heap.objs.size f cdv)) → sp vs H Q E →
     ∃ t, PSs (cxOf (CX1 P w) cm P w K mg base N qual (defScope st) f cdv A outer s H E) (defBody st) t ∧ t { nx := fun _ H' => Q .non H', rt := Q } (start N vs) H) : FnOk P w K mg base (CX1 P w) cm (k + 1) f fd ps sp := by
 obtain ⟨oc, od, kV, doc, pm, an, cdv, ct, osl, rfl, lk, hcd⟩ := F.ex
 exact fn_of lk hcd S len fun A outer s H vs Q E hr hsp => hbody cdv A outer s H vs Q E hr hsp
theorem FunD.ok {x qual : Str} {st : Stmt} {f : Addr} {fd : FuncData} {dV : Value} {N ps : List Str} {k : Nat} {sp : Sp} (F : FunD K x qual st f fd dV) (S : FnScope N ps (defScope st)) (len : ∀ vs H Q E, sp vs H Q E → vs.length = ps.length)
   (hbody : ∀ (cdv : Value) (A : Around) (outer : List Env) (s : Shared) (H : Hp) (vs : List V) (Q : VK) (E : XK), Room cm k (A.deeper (envOfC qual (defScope st) s.heap.objs.size f cdv)) → sp vs H Q E →
     ∃ t, PSs (cxOf CX0 cm P w K mg base N qual (defScope st) f cdv A outer s H E).nox (defBody st) t ∧ t { nx := fun _ H' => Q .non H', rt := Q } (start N vs) H) : FnOk P w K mg base CX0 cm (k + 1) f fd ps sp := by
 obtain ⟨oc, od, kV, doc, pm, an, cdv, ct, osl, rfl, lk, hcd⟩ := F.ex
 refine fn_of lk hcd S len fun A outer s H vs Q E hr hsp => ?_
 obtain ⟨t, h, q⟩ := hbody cdv A outer s H vs Q E hr hsp
 exact ⟨t, h.nox, q⟩
theorem FunD.binds {x qual : Str} {st : Stmt} {f : Addr} {fd : FuncData} {dV : Value} {ps : List Str} (F : FunD K x qual st f fd dV)
   (h : ∀ (kV doc pm : Value) (an : Option Addr) (cdv ct : Value) (us : List Value), us.length = ps.length → bindArgs (PySem.W.fnOf x qual (defArgs st) (defBody st) (defScope st) dV kV doc pm an cdv ct) ⟨us, []⟩ = pure (ps.zip us)) : Binds K fd ps [] := by
 obtain ⟨oc, od, kV, doc, pm, an, cdv, ct, osl, rfl, lk, hcd⟩ := F.ex
 exact .all (h kV doc pm an cdv ct)
theorem funD_mk {x qual : Str} {st : Stmt} {f : Addr} {oc dV : Value} {od an : Option Addr} {osl : Array (Option Value)} {kV doc pm cdv ct : Value} (l : K.lookup f = some ⟨oc, od, .func (PySem.W.fnOf x qual (defArgs st) (defBody st) (defScope st) dV kV doc pm an cdv ct), osl⟩)
   (c : PySem.W.codeIn K cdv qual = true) (k : PySem.W.keepIn K (.ref f) = true) : FunD K x qual st f (PySem.W.fnOf x qual (defArgs st) (defBody st) (defScope st) dV kV doc pm an cdv ct) dV := ⟨⟨oc, od, kV, doc, pm, an, cdv, ct, osl, rfl, l, c⟩, k⟩
end
end L2
namespace L2
open PySem PySem.Spec PyProof.Rows L3
abbrev into (X : Cx) (pn : List (Addr × Obj)) (E : Value → Shared → Prop) : Cx := { X with pn := pn, xe := E }
abbrev sup (X : Cx) (x : Addr) : Cx := { X with A := X.A.mark (some (.ref x)), calm := false, xe := fun _ _ => False }
def excO (x : Addr) (C : Value) (dx : Option Addr) : HO := .ext fun h => ∃ o vs, h.get? x = some o ∧ o.cls = C ∧ o.dict = dx ∧ o.data = .fields vs ∧ vs[2]? = some .none
theorem excO_ok {P : Program} {w : World} {H : Hp} {h : Heap} {x : Addr} {C : Value} {dx : Option Addr} {tb : Value} (r : Rec h x C dx tb) : ObjOk P w H h x (excO x C dx) := by
 obtain ⟨oe, vs, he, hc, hd, hf, _, hcx⟩ := r
 refine ⟨⟨oe, vs, he, hc, hd, hf, hcx⟩, ⟨oe, he⟩, fun h1 h2 z k => ?_⟩
 obtain ⟨o, vs, e, q⟩ := z
 exact ⟨o, vs, k o e, q⟩
theorem excO_get {P : Program} {w : World} {H : Hp} {h : Heap} {x : Addr} {C : Value} {dx : Option Addr} (hok : HOk P w H h) (e : H x = some (excO x C dx)) : ∃ o vs, h.get? x = some o ∧ o.cls = C ∧ o.dict = dx ∧ o.data = .fields vs ∧ vs[2]? = some .none := by
 obtain ⟨q, _⟩ := (show ObjOk P w H h x (excO x C dx) from hok x _ e)
 exact q
section
variable {X : Cx} {pins pins' : List (Addr × Obj)} {σ : St} {H : Hp} {s : Shared} {E : Value → Shared → Prop} {D : Ends}
theorem ok_into (ok : X.Ok) (pn : List (Addr × Obj)) (E : Value → Shared → Prop) : (into X pn E).Ok :=
 ⟨ok.mod, ok.kind, ok.glob, ok.blt, ok.above, ok.inj, ok.has, ok.cab, ok.hd, ok.frames, ok.stk, ok.exf, ok.bs, ok.bsz, ok.noex, ok.exfs, ok.funs, ok.frf⟩
theorem ok_outof {pn : List (Addr × Obj)} (ok : (into X pn E).Ok) : X.Ok :=
 ⟨ok.mod, ok.kind, ok.glob, ok.blt, ok.above, ok.inj, ok.has, ok.cab, ok.hd, ok.frames, ok.stk, ok.exf, ok.bs, ok.bsz, ok.noex, ok.exfs, ok.funs, ok.frf⟩
theorem inv_into (I : Inv X pins σ H s) (E : Value → Shared → Prop) : Inv (into X (X.pn ++ pins) E) [] σ H s :=
 ⟨ok_into I.ok _ E, I.os, I.bare, I.base, I.loc, I.cell, I.free, I.freeC, fun p hp => I.pin p (by simpa using hp), I.hok, I.len⟩
theorem inv_outof (I : Inv (into X (X.pn ++ pins) E) pins' σ H s) : Inv X pins σ H s :=
 ⟨ok_outof I.ok, I.os, I.bare, I.base, I.loc, I.cell, I.free, I.freeC, fun p hp => I.pin p (List.mem_append_left _ hp), I.hok, I.len⟩
theorem ok_sup (ok : X.Ok) (x : Addr) : (sup X x).Ok :=
 ⟨ok.mod, ok.kind, ok.glob, ok.blt, ok.above, ok.inj, ok.has, ok.cab, fun z => (by cases z), ok.frames, ok.stk, ok.exf, ok.bs, ok.bsz, ok.noex, ok.exfs, ok.funs, ok.frf⟩
theorem inv_sup (I : Inv X pins σ H s) (x : Addr) : Inv (sup X x) pins σ H s := ⟨ok_sup I.ok x, I.os, I.bare, I.base, I.loc, I.cell, I.free, I.freeC, I.pin, I.hok, I.len⟩
theorem inv_unsup {x : Addr} (ok : X.Ok) (I : Inv (sup X x) pins σ H s) : Inv X pins σ H s := ⟨ok, I.os, I.bare, I.base, I.loc, I.cell, I.free, I.freeC, I.pin, I.hok, I.len⟩
theorem sp_outof {f : Flow} {s' : Shared} (h : SP (into X (X.pn ++ pins) E) [] D f s') : SP X pins D f s' := by
 cases f with
 | next => obtain ⟨σ', H', I, q⟩ := h; exact ⟨σ', H', inv_outof I, q⟩
 | brk => obtain ⟨σ', H', I, q⟩ := h; exact ⟨σ', H', inv_outof I, q⟩
 | cont => obtain ⟨σ', H', I, q⟩ := h; exact ⟨σ', H', inv_outof I, q⟩
 | ret u => obtain ⟨v, σ', H', I, r, q⟩ := h; exact ⟨v, σ', H', inv_outof I, r, q⟩
theorem fp_outof {b : Addr} (f : FpOk (into X (X.pn ++ pins) E) pins' H b) : FpOk X pins H b := by
 obtain ⟨f0, f1, f2, f3, f4, f5⟩ := f
 exact ⟨f0, f1, f2, f3, f4, fun p hp => f5 p (List.mem_append_left _ hp)⟩
theorem unbind_ok {M : Model} {A : Around} {i : Nat} {n : Str} {pos : Pos} {Q : Unit → Shared → Prop} (I : Inv X pins σ H s) (hN : X.N.Nodup) (hi : X.N[i]? = some n) (hl : X.env.scope.names.lookup n = some .local)
   (h : ∀ s', Inv X pins (σ.set i none) H s' → Q () s') : wpAny M A (do bindName X.env n .none; unbindBehindTheSuite X.env n pos) Q E s := by
 obtain ⟨m, hn, hlk⟩ := id I.loc
 have hcls : (X.env.scope.kind == .class || (X.env.scope.kind == .module && X.env.locals != X.env.globals)) = false := by rw [I.ok.kind]; rfl
 obtain ⟨oL, _, _, hoL, _⟩ := id hn
 have lt : ∀ b o, X.s₀.heap.get? b = some o → b ≠ X.env.locals := fun b o e => Nat.ne_of_lt (Nat.lt_of_lt_of_le (Heap.lt_size e) I.ok.above)
 refine wpAny_nameGoes_keeps hl hn hcls fun h' v hn' hs => h _ ⟨I.ok, I.os, I.bare, ⟨fun b o e n hb hx => ?_, fun b o e n hb hx => ?_, I.base.free, fun b o e hx => ?_, I.base.tups, I.base.frzs, I.base.tbls⟩, ⟨_, hn', fun j y v' e1 e2 e3 => ?_⟩, fun y c e => ?_, I.free, I.freeC, fun p hp => ?_, fun b u e => ?_, by simpa using I.len⟩
 · exact (hs.2 b (lt b o e)).trans (I.base.keep b o e n hb hx)
 · obtain ⟨sl, e1⟩ := I.base.slot b o e n hb hx
   exact ⟨sl, (hs.2 b (lt b o e)).trans e1⟩
 · obtain ⟨o', e1⟩ := I.base.there b o e hx
   exact ⟨o', (hs.2 b (lt b o e)).trans e1⟩
 · by_cases hj : j = i
   · subst hj
     have hiσ : j < σ.length := by rw [I.len]; exact (List.getElem?_eq_some_iff.mp hi).1
     rw [List.getElem?_set_self hiσ] at e2
     cases e2
   · rw [List.getElem?_set_ne (Ne.symm hj)] at e2
     obtain ⟨u', r', q⟩ := hlk j y v' e1 e2 e3
     refine ⟨u', r', ?_⟩
     rcases q with ⟨k, e⟩ | ⟨k, c, e, z⟩
     · refine .inl ⟨k, ?_⟩
       have : y ≠ n := fun e => hj (nodup_ix hN e1 (e ▸ hi))
       simp [this, e]
     · exact .inr ⟨k, c, e, z.sameBut hs (I.cne y c e)⟩
 · obtain ⟨w', z⟩ := I.cell y c e
   exact ⟨w', z.sameBut hs (I.cne y c e)⟩
 · obtain ⟨e, n, ne, nf, d⟩ := I.pin p hp
   exact ⟨(hs.2 p.1 ne).trans e, n, ne, nf, d⟩
 · refine (I.hok b u e).stay (fun c w' hc q => (hs.2 c ?_).trans q) (fun _ q => q) fun _ _ q => q
   rintro rfl
   rcases hc with rfl | hc
   · rw [I.free] at e; cases e
   · rw [I.free] at hc; cases hc
end
def tTry (K : PySem.W.Frag) (CB : Addr) (i : Nat) (tb : (St → Prop) → XK → TS) (ts : TS) : TS := fun D σ H =>
 tb (fun σ' => σ' = σ) (fun C dx H' => PySem.W.exmOne K C (.ref CB) = some true ∧ ∀ x, H' x = none →
   ts { nx := fun σ2 H2 => D.nx (σ2.set i none) H2, rt := D.rt, bk := fun σ2 H2 => D.bk (σ2.set i none) H2, ct := fun σ2 H2 => D.ct (σ2.set i none) H2 } (σ.set i (some (.ref x))) (upd H' x (excO x C dx))) D σ H
section
variable {X : Cx}
theorem ps_try {body suite : List Stmt} {b0 : Stmt} {y n : Str} {np hpos pos : Pos} {CB : Addr} {i : Nat} {tb : (St → Prop) → XK → TS} {ts : TS} (hN : X.N.Nodup) (hi : X.N[i]? = some n) (hl : X.env.scope.names.lookup n = some .local)
   (hst : X.stack = X.env :: X.outer) (hfr : X.env.frame = some X.env.locals) (hg : Gl X y) (hm : X.mg y = some (.ref CB))
   (hb : ∀ (pn : List (Addr × Obj)) (E : Value → Shared → Prop) (R : St → Prop) (Ek : XK), PassesOwn (model X.prog X.w) X.A X.env E → XeIs (into X pn E) R Ek → PSs (into X pn E) body (tb R Ek)) (hs : ∀ x, PSs (sup X x) (b0 :: suite) ts)
   (hdb : (y == ("__debug__" : Str)) = false := by decide) : PS X (.Try body [.ExceptHandler (some (.Name y np)) (some n) (b0 :: suite) hpos] [] [] pos) (tTry X.K CB i tb ts) := by
 intro pins s σ H D I h
 refine wpAny_Try_except ?_
 have hxe : XeIs (into X (X.pn ++ pins) (fun e s1 => wpAny (model X.prog X.w) X.A (noteFrame e X.env) (fun _ s2 => wpAny (model X.prog X.w) X.A (setFlight e none)
     (fun _ s3 => wpAny (model X.prog X.w) X.A (handleBy e X.env [.ExceptHandler (some (.Name y np)) (some n) (b0 :: suite) hpos]) (SP X pins D) X.xe s3) X.xe s2) X.xe s1)) (fun σ' => σ' = σ)
     (fun C dx H' => PySem.W.exmOne X.K C (.ref CB) = some true ∧ ∀ x, H' x = none →
       ts { nx := fun σ2 H2 => D.nx (σ2.set i none) H2, rt := D.rt, bk := fun σ2 H2 => D.bk (σ2.set i none) H2, ct := fun σ2 H2 => D.ct (σ2.set i none) H2 } (σ.set i (some (.ref x))) (upd H' x (excO x C dx))) := by
   rintro pins' σ' H' s' x C dx I' rfl ex ⟨hmt, hsu⟩
   have I1 : Inv X pins σ' H' s' := inv_outof I'
   have own : FpOk X pins H' x := fp_outof ex.own
   -- behind noteFrame and setFlight
   have fin : ∀ (T : Addr) (s3 : Shared), Inv X pins σ' H' s3 → FpOk X pins H' T → T ≠ x → Rec s3.heap x C dx (.ref T) → Tra s3.heap T .none →
       wpAny (model X.prog X.w) X.A (handleBy (.ref x) X.env [.ExceptHandler (some (.Name y np)) (some n) (b0 :: suite) hpos]) (SP X pins D) X.xe s3 := by
     intro T s3 I3 fT ne r3 t3
     have LT : PySem.W.Looks (model X.prog X.w) s3.heap (typeOf (.ref x)) C := by
       obtain ⟨oe, vs, he, hc, _⟩ := id r3
       exact hc ▸ (PySem.W.Looks.ld he).andThen .now
     refine wpAny_handleBy_cons (codeAny_handlers_test (ld_glob (X := sup X x) (inv_sup I3 x) hg hm ((PySem.W.exm_one I3.kIn LT hmt).here ?_) hdb)) (by intro z; cases z)
     show codeAny _ _ (.handlers (.ref x) [.ExceptHandler none (some n) (b0 :: suite) hpos] X.env) _ s3
     refine codeAny_handlers_suite_as (flight_none r3 ne t3 fun h4 a4 r4 t4 => ?_)
     have I4 : Inv X pins σ' H' { s3 with heap := h4 } := aft I3 (a4.mono (by simp) fun _ z => z) (by intro b hb; have : b = T := by simpa using hb
                                                                                                      subst this; exact fT)
     have I5 := track (o := excO x C dx) I4 own (excO_ok r4)
     refine store_ok (X := sup X x) (inv_sup I5 x) hN hi (.inl hl) (v := .ref x) rfl (fun s6 I6 => ?_) (.inr hl)
     refine wpAny_mono (hs x pins s6 _ _ _ I6 (hsu x own.1)) (fun f s7 q => ?_) fun _ _ z => z.elim
     cases f with
     | next => obtain ⟨σ7, H7, I7, q7⟩ := q; exact unbind_ok (inv_unsup I.ok I7) hN hi hl fun s8 I8 => ⟨_, _, I8, q7⟩
     | brk => obtain ⟨σ7, H7, I7, q7⟩ := q; exact unbind_ok (inv_unsup I.ok I7) hN hi hl fun s8 I8 => ⟨_, _, I8, q7⟩
     | cont => obtain ⟨σ7, H7, I7, q7⟩ := q; exact unbind_ok (inv_unsup I.ok I7) hN hi hl fun s8 I8 => ⟨_, _, I8, q7⟩
     | ret u => obtain ⟨v7, σ7, H7, I7, r7, q7⟩ := q; exact unbind_ok (inv_unsup I.ok I7) hN hi hl fun s8 I8 => ⟨v7, _, _, I8, r7, q7⟩
   have fr : X.A.frames = some (X.env :: X.outer) := by rw [I1.ok.frames, hst]
   have stk : s'.heap.FunFrames X.base (X.env :: X.outer) := by rw [← hst]; exact I1.stack
   have big : ∀ {T : Addr}, s'.heap.objs.size ≤ T → (∃ tb, Rec s'.heap x C dx tb) → T ≠ x := fun sz ⟨_, oe, _, he, _⟩ z => absurd (Nat.lt_of_lt_of_le (Heap.lt_size he) (z ▸ sz)) (Nat.lt_irrefl _)
   rcases ex.tr with r | ⟨T0, fl0, r, ne0, t0, f0⟩
   · refine note_new fr stk hfr r fun h' T a sz r' t' => ?_
     have J1 := aft I1 (by rw [hst]; exact a) (by intro b hb; have : b = x := by simpa using hb
                                                  subst this; exact own)
     have ne := big sz ⟨_, r⟩
     have fT := I1.fpOk (H' := H') sz (I1.hok.fresh sz)
     refine flight_none r' ne t' fun h2 a2 r2 t2 => ?_
     exact fin T _ (aft (h' := h2) J1 (a2.mono (by simp) fun _ z => z) (by intro b hb; have : b = T := by simpa using hb
                                                                           subst this; exact fT)) fT ne r2 t2
   · refine note_any fr stk hfr r ne0 t0 fun h' T fl' a sz r' t' => ?_
     have J1 := aft I1 (by rw [hst]; exact a) (by intro b hb
                                                  rcases (show b = x ∨ b = T0 by simpa using hb) with z | z
                                                  · subst z; exact own
                                                  · subst z; exact fp_outof f0)
     have ne : T ≠ x := by
       rcases sz with z0 | z0
       · rw [z0]; exact ne0
       · exact big z0 ⟨_, r⟩
     have fT : FpOk X pins H' T := by
       rcases sz with z0 | z0
       · rw [z0]; exact fp_outof f0
       · exact I1.fpOk (H' := H') z0 (I1.hok.fresh z0)
     refine flight_none r' ne t' fun h2 a2 r2 t2 => ?_
     exact fin T _ (aft (h' := h2) J1 (a2.mono (by simp) fun _ z => z) (by intro b hb; have : b = T := by simpa using hb
                                                                           subst this; exact fT)) fT ne r2 t2
 refine wpAny_mono (hb (X.pn ++ pins) _ _ _ PassesOwn.looking hxe [] s σ H D (inv_into I _) h) (fun f s1 q => ?_) fun _ _ z => z
 have q' := sp_outof q
 cases f with
 | next => exact wpAny_execs_nil q'
 | brk => exact q'
 | cont => exact q'
 | ret u => exact q'
end
end L2
namespace L2
open PySem PySem.Spec PyProof.Rows L3
theorem kitx_exc {K : PySem.W.Frag} {x C : Addr} (T : XCls K C) : PySem.W.KitX K (.ref x) (.ref C) (fun h => ∃ o, h.get? x = some o ∧ o.cls = .ref C) where
 ty := fun M h _ p => by
   obtain ⟨o, e, c⟩ := p
   exact c ▸ (PySem.W.Looks.ld e).andThen .now
 it := fun M h X _ => by
   obtain ⟨⟨nm, q, N, bs, sn, sub, ab, col, dd, k0, k1, k2, k3, k5, cC⟩, _⟩ := T.xc X
   intro A Q E s k z
   unfold isType loadHead
   exact wpAny_bind (wpAny_loadPart (k _ _ cC) (wpAny_pure z))
 ne := fun h tp dd its n sl X htp => by
   obtain ⟨⟨nm, q, N, bs, sn, sub, ab, col, dd', k0, k1, k2, k3, k5, cC⟩, _⟩ := T.xc X
   refine Bool.eq_false_iff.mpr fun z => ?_
   have e : C = tp := Value.ref.inj (beq_iff_eq.mp z)
   subst e
   rw [cC] at htp
   have z2 := congrArg Obj.data (Option.some.inj htp)
   cases z2
 ca := fun {P w A E Q s} X p k => by
   obtain ⟨o, e, c⟩ := p
   obtain ⟨h, g, d, t, os⟩ := s
   exact cls_attr PySem.F.excAttr_ValueError (T.xc X) (rds_of X T.ga) (rds_of X T.gh) (rds_of X T.cl) e c k
inductive TyX (K : PySem.W.Frag) (H : Hp) : V → Value → Prop where
 | of {x : V} {t : Value} (e : TyOf K H x t) : TyX K H x t
 | exc {a C : Addr} {dx : Option Addr} (e : H a = some (excO a (.ref C) dx)) (T : XCls K C) : TyX K H (.ref a) (.ref C)
def clsV : V → Option Value
 | .ty n => some (.type n)
 | .ref a => some (.ref a)
 | _ => none
theorem clsV_is {c : V} {u t : Value} (e : clsV c = some u) (r : RelV c t) : t = u := by
 cases c with
 | ty n => cases e; exact r
 | ref a => cases e; exact r
 | _ => cases e
def rIs (K : PySem.W.Frag) : List V → Hp → VK → Prop := fun xs H Q => ∃ x c t u b, xs = [x, c] ∧ TyX K H x t ∧ clsV c = some u ∧ PySem.W.kitOne K t u = some b ∧ Q (.bl b) H
section
variable {X : Cx}
theorem call_is : CallR X (.builtin "isinstance") (rIs X.K) := by
 intro pins s σ H xs us Q I r h
 obtain ⟨x, c, t, u, b, rfl, ty, hc, e, q⟩ := h
 cases r with
 | cons r1 r2 =>
   cases r2 with
   | cons r2 r3 =>
     cases r3
     rename_i v1 v2
     rw [clsV_is hc r2]
     cases ty with
     | of ty => exact isinst_ok I r1 ty e fun tk => ⟨.bl b, H, I.tok _, rfl, q⟩
     | @exc a C dx ea T =>
       cases (show v1 = Value.ref a from r1)
       obtain ⟨o, vs, e1, e2, _⟩ := excO_get I.hok ea
       exact PySem.W.kia_one (kitx_exc T) I.kIn ⟨o, e1, e2⟩ e (fun z => nomatch z) fun tk => ⟨.bl b, H, I.tok _, rfl, q⟩
end
def tFldX (K : PySem.W.Frag) (ta : TE) (f : Str) : TE := fun σ H Q => ta σ H fun x H1 => ∃ a C dx fs v, x = .ref a ∧ H1 a = some (excO a (.ref C) (some dx)) ∧ H1 dx = some (.xd fs) ∧ XCls K C ∧ NoAttr K C f ∧ fs.lookup f = some v ∧ Q v H1
section
variable {X : Cx} {e : Expr} {f : Str} {pos : Pos} {ta : TE}
theorem pe_fldX (he : PE X e ta) (hb : attributeBase e f X.env (eval e X.env) = eval e X.env) : PE X (.Attribute e f pos) (tFldX X.K ta f) := by
 intro pins s σ H Q I h
 refine attr_of hb (thn (he pins s σ H _ I h) fun u s1 ⟨x, H1, I1, rx, a, C, dx, fs, v, ex, ea, ed, T, n, l, q⟩ => ?_)
 subst ex
 obtain rfl : u = Value.ref a := rx
 obtain ⟨o, vs, e1, e2, e3, e4, _⟩ := excO_get I1.hok ea
 obtain ⟨mA, hn, rel⟩ := (show ObjOk X.prog X.w H1 s1.heap dx (.xd fs) from I1.hok dx _ ed)
 obtain ⟨w', hw, rw'⟩ := RelO.some_of (v := v) (o := mA f) (by rw [← l]; exact rel f)
 obtain ⟨hp, g, d, t, os⟩ := s1
 exact get_attr PySem.F.excAttr_ValueError (T.xc I1.kIn) (rds_of I1.kIn T.ga) (rds_of I1.kIn T.gh) (rds_of I1.kIn n) e1 e2 e4 e3 hn hw (PySem.W.handedOut_of (handed_of rw')) ⟨v, H1, I1.tok _, rw', q⟩
end
end L2
namespace L2
open PySem PySem.Spec PyProof.Rows L3
def bareO (x : Addr) (C : Value) (dx : Option Addr) : HO := .ext fun h => ∃ t, h.get? x = some { cls := C, dict := dx, data := .fields #[.ref t, .none, .none, .none, .bool false, .none] }
theorem bareO_ok {P : Program} {w : World} {H : Hp} {h : Heap} {x t : Addr} {C : Value} {dx : Option Addr} (e : h.get? x = some { cls := C, dict := dx, data := .fields #[.ref t, .none, .none, .none, .bool false, .none] }) : ObjOk P w H h x (bareO x C dx) :=
 ⟨⟨t, e⟩, ⟨_, e⟩, fun h1 h2 ⟨t', z⟩ k => ⟨t', k _ z⟩⟩
theorem bareO_get {P : Program} {w : World} {H : Hp} {h : Heap} {x : Addr} {C : Value} {dx : Option Addr} (hok : HOk P w H h) (e : H x = some (bareO x C dx)) : ∃ t, h.get? x = some { cls := C, dict := dx, data := .fields #[.ref t, .none, .none, .none, .bool false, .none] } :=
 (show ObjOk P w H h x (bareO x C dx) from hok x _ e).1
theorem within_xd {fs : List (Str × V)} {mA : Str → Option Value} (rel : ∀ f, RelO (fs.lookup f) (mA f)) : PySem.Within mA (fs.map (·.1)) := fun g hg => by
 cases q : fs.lookup g with
 | none => exact absurd (RelO.none_of (by rw [← q]; exact rel g)) hg
 | some v => exact List.mem_map.mpr ⟨(g, v), PySem.mem_of_lookup q, rfl⟩
theorem rel_put {fs : List (Str × V)} {mA : Str → Option Value} {f : Str} {y : V} {u : Value} (rel : ∀ g, RelO (fs.lookup g) (mA g)) (ry : RelV y u) (g : Str) : RelO ((putF f y fs).lookup g) (if g = f then some u else mA g) := by
 rw [lookup_putF]
 by_cases q : g = f
 · rw [if_pos q, if_pos q]; exact ry
 · rw [if_neg q, if_neg q]; exact rel g
section
variable {X : Cx} {pins : List (Addr × Obj)} {σ : St} {H : Hp} {s : Shared} {A : Around} {E : Value → Shared → Prop} {a C : Addr} {f : Str} {y : V} {u : Value} {Q : Unit → Shared → Prop}
theorem setb_new (I : Inv X pins σ H s) (ea : H a = some (bareO a (.ref C) none)) (T : XCls X.K C) (n : NoAttr X.K C f) (ry : RelV y u)
   (h : ∀ d s', H d = none → d ≠ a → Inv X pins σ (upd (upd H d (.xd (putF f y []))) a (bareO a (.ref C) (some d))) s' → Q () s') : wpAny (model X.prog X.w) A (setAttr (.ref a) f u) Q E s := by
 obtain ⟨t, e0⟩ := bareO_get I.hok ea
 obtain ⟨hp, g, dr, tk, os⟩ := s
 have KX := I.kIn
 refine set_attr (mA := fun _ => none) (ns := []) PySem.F.store_ValueError (T.xc KX) (T.pass KX) (rds_of KX T.sa) (rds_of KX n) ⟨_, e0, rfl, (fun c z => nomatch z), .inl ⟨rfl, fun _ => rfl⟩⟩ (fun g hg => absurd rfl hg) (Nat.zero_le _) fun h' tk' st => ?_
 obtain ⟨⟨o', i1, i2, i3, i4⟩, keep, same, newd⟩ := st
 obtain ⟨o1, s1, s2, s3, s4, _⟩ := same _ e0
 obtain ⟨o2, n1, n2⟩ := newd _ e0 rfl
 have q1 : o2 = o1 := Option.some.inj (n1.symm.trans s1)
 have q2 : o' = o1 := Option.some.inj (i1.symm.trans s1)
 rw [q1] at n2
 rw [q2] at i4
 have hne : hp.objs.size ≠ a := Nat.ne_of_gt (Heap.lt_size e0)
 have hd : H hp.objs.size = none := I.hok.fresh (Nat.le_refl _)
 rcases i4 with ⟨z, _⟩ | ⟨d', z, z2, ns⟩
 · rw [n2] at z; cases z
 · rw [n2] at z
   cases z
   have e1 : h'.get? a = some { cls := .ref C, dict := some hp.objs.size, data := .fields #[.ref t, .none, .none, .none, .bool false, .none] } := by
     rw [s1]
     obtain ⟨oc, od, odt, osl⟩ := o1
     dsimp only at s2 s3 s4 n2
     subst s2 s3 s4 n2
     rfl
   have kp : ∀ b o, b ≠ a → hp.get? b = some o → h'.get? b = some o := fun b o hb e => keep b o hb (fun o0 dx q1 q2 => by rw [e0] at q1; cases q1; cases q2) e
   refine h hp.objs.size _ hd hne (I.step (g' := g) (d' := dr) (t' := tk') (ch := []) (fun _ z => nomatch z) (fun b o _ _ _ e nb => kp b o (fun z => by rw [z, ea] at nb; cases nb) e) (fun b o _ _ _ e nb => ⟨o.slots, kp b o (fun z => by rw [z, ea] at nb; cases nb) e⟩)
     (fun b o _ e nb => ?_) (fun b o _ e => ?_) (fun b xs e => ?_) (fun b o v e => ?_) (fun b ps e => ?_) (fun m hm => ?_) (fun b v e => ?_) I.bare)
   · rw [upd_ne (fun z => by rw [z, ea] at nb; cases nb), upd_ne (Nat.ne_of_lt (Heap.lt_size e))]
     exact nb
   · by_cases hb : b = a
     · exact ⟨_, hb ▸ e1⟩
     · exact ⟨o, kp b o hb e⟩
   · rw [upd_ne (fun z => by rw [z, ea] at e; cases e), upd_ne (ne_of_none e hd)]
     exact e
   · rw [upd_ne (fun z => by rw [z, ea] at e; cases e), upd_ne (ne_of_none e hd)]
     exact e
   · exact ⟨#[], by rw [upd_ne (fun z => by rw [z, ea] at e; cases e), upd_ne (ne_of_none e hd), e]; simp⟩
   · obtain ⟨o, es, ep, ho, r⟩ := hm
     exact ⟨o, es, ep, kp _ o (fun z => by have q := I.free; rw [z, ea] at q; cases q) ho, r⟩
   · by_cases hb : b = a
     · subst hb
       rw [upd_same] at e
       cases e
       exact bareO_ok e1
     · rw [upd_ne hb] at e
       by_cases hb2 : b = hp.objs.size
       · subst hb2
         rw [upd_same] at e
         cases e
         exact ⟨_, ns, fun g => rel_put (fs := []) (mA := fun _ => none) (fun _ => True.intro) ry g⟩
       · rw [upd_ne hb2] at e
         refine (I.hok b v e).stay (fun c o hc q => kp c o (fun z => ?_) q) (fun c q => ?_) fun c xs q => ?_
         · rcases hc with rfl | hc
           · exact hb z
           · rw [z, ea] at hc; cases hc
         · rw [upd_ne (fun z => by rw [z, ea] at q; cases q), upd_ne (ne_of_none q hd)]; exact q
         · rw [upd_ne (fun z => by rw [z, ea] at q; cases q), upd_ne (ne_of_none q hd)]; exact q
theorem setb_more {d : Addr} {fs : List (Str × V)} (I : Inv X pins σ H s) (ea : H a = some (bareO a (.ref C) (some d))) (ed : H d = some (.xd fs)) (T : XCls X.K C) (n : NoAttr X.K C f) (hl : fs.length < 1000) (ry : RelV y u)
   (h : ∀ s', Inv X pins σ (upd H d (.xd (putF f y fs))) s' → Q () s') : wpAny (model X.prog X.w) A (setAttr (.ref a) f u) Q E s := by
 obtain ⟨t, e0⟩ := bareO_get I.hok ea
 obtain ⟨mA, hn, rel⟩ := (show ObjOk X.prog X.w H s.heap d (.xd fs) from I.hok d _ ed)
 obtain ⟨hp, g, dr, tk, os⟩ := s
 have KX := I.kIn
 have hda : d ≠ a := fun z => by rw [z, ea] at ed; cases ed
 refine set_attr (mA := mA) (ns := fs.map (·.1)) PySem.F.store_ValueError (T.xc KX) (T.pass KX) (rds_of KX T.sa) (rds_of KX n) ⟨_, e0, rfl, (fun c z => nomatch z), .inr ⟨d, rfl, hda, hn⟩⟩ (within_xd rel) (by rw [List.length_map, sizeLine_eq]; omega) fun h' tk' st => ?_
 obtain ⟨⟨o', i1, i2, i3, i4⟩, keep, same, newd⟩ := st
 obtain ⟨o1, s1, s2, s3, s4, s5⟩ := same _ e0
 have n2 := s5 d rfl
 have q2 : o' = o1 := Option.some.inj (i1.symm.trans s1)
 rw [q2] at i4
 rcases i4 with ⟨z, _⟩ | ⟨d', z, z2, ns⟩
 · rw [n2] at z; cases z
 · rw [n2] at z
   cases z
   have e1 : h'.get? a = some { cls := .ref C, dict := some d, data := .fields #[.ref t, .none, .none, .none, .bool false, .none] } := by
     rw [s1]
     obtain ⟨oc, od, odt, osl⟩ := o1
     dsimp only at s2 s3 s4 n2
     subst s2 s3 s4 n2
     rfl
   have kp : ∀ b o, b ≠ d → hp.get? b = some o → h'.get? b = some o := fun b o hb e => by
     by_cases z : b = a
     · rw [z] at e ⊢
       rw [e0] at e
       cases e
       exact e1
     · exact keep b o z (fun o0 dx q1 q2 => by rw [e0] at q1; cases q1; cases q2; exact hb) e
   refine h _ (I.step (g' := g) (d' := dr) (t' := tk') (ch := []) (fun _ z => nomatch z) (fun b o _ _ _ e nb => kp b o (fun z => by rw [z, ed] at nb; cases nb) e) (fun b o _ _ _ e nb => ⟨o.slots, kp b o (fun z => by rw [z, ed] at nb; cases nb) e⟩)
     (fun b o _ e nb => ?_) (fun b o _ e => ?_) (fun b xs e => ?_) (fun b o v e => ?_) (fun b ps e => ?_) (fun m hm => ?_) (fun b v e => ?_) I.bare)
   · rw [upd_ne (fun z => by rw [z, ed] at nb; cases nb)]
     exact nb
   · by_cases hb : b = d
     · obtain ⟨od, _, _, q, _⟩ := ns
       exact ⟨_, hb ▸ q⟩
     · exact ⟨o, kp b o hb e⟩
   · rw [upd_ne (fun z => by rw [z, ed] at e; cases e)]
     exact e
   · rw [upd_ne (fun z => by rw [z, ed] at e; cases e)]
     exact e
   · exact ⟨#[], by rw [upd_ne (fun z => by rw [z, ed] at e; cases e), e]; simp⟩
   · obtain ⟨o, es, ep, ho, r⟩ := hm
     exact ⟨o, es, ep, kp _ o (fun z => by have q := I.free; rw [z, ed] at q; cases q) ho, r⟩
   · by_cases hb : b = d
     · subst hb
       rw [upd_same] at e
       cases e
       exact ⟨_, ns, fun g => rel_put rel ry g⟩
     · rw [upd_ne hb] at e
       refine (I.hok b v e).stay (fun c o hc q => kp c o (fun z => ?_) q) (fun c q => ?_) fun c xs q => ?_
       · rcases hc with rfl | hc
         · exact hb z
         · rw [z, ed] at hc; cases hc
       · rw [upd_ne (fun z => by rw [z, ed] at q; cases q)]; exact q
       · rw [upd_ne (fun z => by rw [z, ed] at q; cases q)]; exact q
theorem letgo {x : Addr} {C : Value} {dx : Option Addr} (I : Inv X pins σ H s) (e : H x = some (bareO x C dx)) : Inv X pins σ (fun b => if b = x then none else H b) s := by
 have go : ∀ {b : Addr} {o : HO}, (fun b => if b = x then none else H b) b = some o → H b = some o := fun {b o} q => by
   dsimp only at q
   split at q
   · cases q
   · exact q
 have off : ∀ {b : Addr}, H b = none → (fun b => if b = x then none else H b) b = none := fun {b} q => by
   dsimp only
   split
   · rfl
   · exact q
 have on : ∀ {b : Addr} {o : HO}, H b = some o → o ≠ bareO x C dx → (fun b => if b = x then none else H b) b = some o := fun {b o} q ne => by
   dsimp only
   rw [if_neg (fun z => ne (by rw [z, e] at q; exact (Option.some.inj q).symm))]
   exact q
 refine ⟨I.ok, I.os, I.bare, ⟨I.base.keep, I.base.slot, fun b ob q n hx => off (I.base.free b ob q n hx), I.base.there, fun b xs q => on (I.base.tups b xs q) (fun z => nomatch z), fun b ob u q => on (I.base.frzs b ob u q) (fun z => nomatch z), fun b ps q => ?_⟩, I.loc, I.cell, off I.free, fun y c q => off (I.freeC y c q), fun p hp => ?_, fun b u q => ?_, I.len⟩
 · obtain ⟨more, q'⟩ := I.base.tbls b ps q
   exact ⟨more, on q' (fun z => nomatch z)⟩
 · obtain ⟨q, n, r⟩ := I.pin p hp
   exact ⟨q, off n, r⟩
 · exact (I.hok b u (go q)).stay (fun _ _ _ z => z) (fun c z => on z (fun z => nomatch z)) fun c xs z => on z (fun z => nomatch z)
end
def sFldB (K : PySem.W.Frag) (ta tv : TE) (f : Str) : TS := fun D σ H => tv σ H fun y H1 => ta σ H1 fun x H2 => ∃ a C, x = .ref a ∧ XCls K C ∧ NoAttr K C f ∧
 ((H2 a = some (bareO a (.ref C) none) ∧ ∀ d, H2 d = none → d ≠ a → D.nx σ (upd (upd H2 d (.xd (putF f y []))) a (bareO a (.ref C) (some d)))) ∨
  (∃ d fs, H2 a = some (bareO a (.ref C) (some d)) ∧ H2 d = some (.xd fs) ∧ fs.length < 1000 ∧ D.nx σ (upd H2 d (.xd (putF f y fs)))))
section
variable {X : Cx} {o value : Expr} {f : Str} {pos pos' : Pos} {ta tv : TE}
theorem ps_fldB (ha : PE X o ta) (hv : PE X value tv) (hs : swapsWith value (some (.Attribute o f pos')) pos.line X.env = pure false) : PS X (.Assign [.Attribute o f pos'] value pos) (sFldB X.K ta tv f) := by
 intro pins s σ H D I h
 refine plainObj_wpAny_Assign_Attribute (thn (hv pins s σ H _ I h) fun u s1 ⟨y, H1, I1, ry, q⟩ => thn (ha pins s1 σ H1 _ I1 q) fun ov s2 ⟨x, H2, I2, rx, a, C, ex, T, n, q2⟩ => ?_) hs
 subst ex
 obtain rfl : ov = Value.ref a := rx
 rcases q2 with ⟨ea, q2⟩ | ⟨d, fs, ea, ed, l, q2⟩
 · exact setb_new I2 ea T n ry fun d s3 hd hda I3 => ⟨σ, _, I3, q2 d hd hda⟩
 · exact setb_more I2 ea ed T n l ry fun s3 I3 => ⟨σ, _, I3, q2⟩
end
def tRaiseI (R : St → Prop) (C : Addr) (sp : Sp) (ta : TA) (Ek : XK) : TS := fun _ σ H => ta σ H fun vs H1 => vs.length ≤ sizeLine ∧ R σ ∧ ∀ x, H1 x = none →
 sp (.ref x :: vs) (upd H1 x (bareO x (.ref C) none)) (fun v H2 => v = .non ∧ ∃ dx, H2 x = some (bareO x (.ref C) dx) ∧ Ek (.ref C) dx (fun b => if b = x then none else H2 b)) E0
section
variable {X : Cx} {cm : Bool} {k : Nat} {fI : Addr} {fd : FuncData} {ps : List Str} {sp : Sp} {x : Str} {C : Addr} {np cpos pos : Pos} {e : Expr} {es : List Expr} {ta : TA} {R : St → Prop} {Ek : XK}
theorem ps_raiseI (hc : X.calm = true) (hxe : XeIs X R Ek) (hg : Gl X x) (hm : X.mg x = some (.ref C)) (T : XCls X.K C) (hi : PySem.W.findIn X.K (.ref C) "__init__" = some (some (.ref fI))) (hfn : PySem.W.isFn X.K (.ref fI) = true)
   (F : FnOk X.prog X.w X.K X.mg X.base CX0 cm k fI fd ps sp) (hr : Room cm (k + 1) X.A) (hb : Binds X.K fd ps []) (ha : PA X (e :: es) ta)
   (hdb : (x == ("__debug__" : Str)) = false := by decide) (he : starEach (e :: es) X.env = (false, eval e X.env) :: starEach es X.env := by rfl) (hpl : (backTo cpos (starEach (e :: es) X.env)).any (·.1) = false := by rfl) :
   PS X (.Raise (some (.Call (.Name x np) (e :: es) [] cpos)) none pos) (tRaiseI R C sp ta Ek) := by
 intro pins s σ H D I h
 refine raise_call (C := C) (bm := bmOf X.K C) (iv := .ref fI) (I.ok.hd hc) hpl (ld_glob I hg hm ⟨rfl, ?_⟩ hdb)
 have hbk : backTo cpos (starEach (e :: es) X.env) = (false, eval e X.env) :: backTo cpos (starEach es X.env) := by rw [he]; rfl
 rw [hbk]
 refine Calls.evalArgs_plain ?_
 rw [← hbk]
 refine thn (ha cpos pins s σ H _ I h) fun us s1 ⟨vs, H1, I1, r, hl, hR, hE⟩ => ?_
 have hlen : us.length ≤ sizeLine := by rw [← r.length]; exact hl
 refine ⟨rfl, hlen, T.xc I1.kIn, rds_of I1.kIn hi, fun h' x' hm' hs' => ?_⟩
 obtain ⟨hp, g, d, t, os⟩ := s1
 have nx : H1 x' = none := I1.hok.fresh hs'
 have fx : FpOk X pins H1 x' := I1.fpOk hs' nx
 obtain ⟨tt, hx2, htn, ht⟩ := hm'.there
 have I2 : Inv X pins σ H1 ⟨h', g, d, t, os⟩ := I1.kept (t' := t) hm'.keeps
 have I3 := track (o := bareO x' (.ref C) none) I2 fx (bareO_ok hx2)
 refine PySem.W.Looks.here (s := ⟨h', g, d, t, os⟩) (PySem.W.bind_fn I3.kIn (.ref x') (beq_iff_eq.mp hfn)) ?_
 have sp1 := hE x' nx
 have rv : Vals (.ref x' :: vs) (.ref x' :: us) := .cons rfl r
 have hln : (Value.ref x' :: us).length = ps.length := by rw [← rv.length]; exact F.len _ _ _ _ sp1
 have hbi : BindsTo ⟨h', g, d, t, os⟩ fd ⟨.ref x' :: us, []⟩ (ps.zip (.ref x' :: us)) := by
   have z := hb ⟨h', g, d, t, os⟩ (.ref x' :: us) I3.kIn (by rw [List.append_nil]; exact hln)
   rw [List.append_nil] at z
   exact z
 refine wpAny_call (codeAny_mono (F.run _ X.stack _ _ ⟨.ref x' :: us, []⟩ (.ref x' :: us) (.ref x' :: vs) _ E0 (hr.make C us []) (I3.env0.make C us []) hbi rv sp1) fun rr s4 hq => ?_)
 cases rr with
 | error e => exact False.elim hq
 | ok fl =>
   cases fl with
   | next => exact False.elim hq
   | brk => exact False.elim hq
   | cont => exact False.elim hq
   | ret u =>
     obtain ⟨v, H2, os2, bare2, un2, hok2, rv2, rfl, dx, ex, hEk⟩ := hq
     have I4 : Inv X pins σ H2 s4 := I3.call' os2 un2 hok2 bare2 (ch := []) (fun _ z => nomatch z)
     obtain ⟨t4, e4⟩ := bareO_get I4.hok ex
     have I5 := letgo I4 ex
     refine ⟨rv2, T.xc I4.kIn, ⟨dx, t4, e4⟩, hxe pins σ _ s4 x' (.ref C) dx I5 hR ⟨⟨if_pos rfl, fx.2⟩, .inl ⟨_, _, e4, rfl, rfl, rfl, rfl, rfl⟩⟩ hEk⟩
end
end L2
namespace L2
open PySem PySem.Spec PyProof.Rows L3
section
variable {X : Cx}
theorem op_mulB : OpR X (binaryOp .Mult) (rI IntMulOk fun i j => .int (i * j)) := opI fun _ _ _ _ _ _ _ hc q => mul_int q hc
theorem op_fdivB : OpR X (binaryOp .FloorDiv) (rI (fun _ j => j ≠ 0 ∧ j.natAbs.log2 < 9000) fun i j => .int (i.fdiv j)) := opI fun _ _ _ _ _ _ _ hc q => floordiv_int hc.1 q (.inl (PyProof.noPylong_of_log2 hc.2))
theorem call_absN : CallR X (.builtin "abs") (fun xs H Q => ∃ i : Int, xs = [.int i] ∧ Q (.int (i.natAbs : Nat)) H) := by
 intro pins s σ H xs us Q I r h
 obtain ⟨i, rfl, q⟩ := h
 obtain ⟨u, rfl, t, rfl⟩ := vals1 r
 have e : (if i < 0 then -i else i) = ((i.natAbs : Nat) : Int) := by split <;> omega
 exact call_abs_int fun u tk => ⟨.int (if i < 0 then -i else i), H, I.tok _, ⟨_, rfl⟩, by rw [e]; exact q⟩
end
theorem bits_of {x : Int} (lo : -(2 ^ 250 * 2 ^ 250 * 2 ^ 250 * 2 ^ 250) ≤ x) (hi : x ≤ 2 ^ 250 * 2 ^ 250 * 2 ^ 250 * 2 ^ 250) : Builtin.Int.intBits x ≤ 1001 := by
 refine PySem.intBits_le_iff.mpr ?_
 have e : (2 : Nat) ^ 1001 = 2 ^ 250 * 2 ^ 250 * 2 ^ 250 * 2 ^ 250 * 2 := by
   rw [show (1001 : Nat) = 250 + 250 + 250 + 250 + 1 from rfl, Nat.pow_add, Nat.pow_add, Nat.pow_add, Nat.pow_add]
 rw [e]
 omega
theorem mul_of {x y : Int} (l1 : -(2 ^ 250 * 2 ^ 250 * 2 ^ 250 * 2 ^ 250) ≤ x) (h1 : x ≤ 2 ^ 250 * 2 ^ 250 * 2 ^ 250 * 2 ^ 250) (l2 : -(2 ^ 250 * 2 ^ 250 * 2 ^ 250 * 2 ^ 250) ≤ y) (h2 : y ≤ 2 ^ 250 * 2 ^ 250 * 2 ^ 250 * 2 ^ 250) : IntMulOk x y :=
 PySem.IntMulOk.of_le (bits_of l1 h1) (bits_of l2 h2) (by decide)
theorem decT {p : Prop} [Decidable p] {A B : Prop} (h : p) (k : A) : if decide p = true then A else B := by rw [if_pos (decide_eq_true h)]; exact k
theorem decF {p : Prop} [Decidable p] {A B : Prop} (h : ¬ p) (k : B) : if decide p = true then A else B := by rw [if_neg (by simpa using h)]; exact k
theorem dec2 {p : Prop} [Decidable p] {A B : Prop} (h1 : p → A) (h2 : ¬ p → B) : if decide p = true then A else B := by
 by_cases h : p
 · exact decT h (h1 h)
 · exact decF h (h2 h)
theorem ndecT {p : Prop} [Decidable p] {A B : Prop} (h : ¬ p) (k : A) : if (!decide p) = true then A else B := by rw [if_pos (by simp [h])]; exact k
theorem ndecF {p : Prop} [Decidable p] {A B : Prop} (h : p) (k : B) : if (!decide p) = true then A else B := by rw [if_neg (by simp [h])]; exact k
theorem ndec2 {p : Prop} [Decidable p] {A B : Prop} (h1 : ¬ p → A) (h2 : p → B) : if (!decide p) = true then A else B := by
 by_cases h : p
 · exact ndecF h (h2 h)
 · exact ndecT h (h1 h)
end L2
namespace L2
open PySem PySem.Spec PyProof.Rows L3
theorem bt_len : bootBuiltins "len" = some (.builtin "len") := by decide +kernel
theorem bt_abs : bootBuiltins "abs" = some (.builtin "abs") := by decide +kernel
theorem bt_isinstance : bootBuiltins "isinstance" = some (.builtin "isinstance") := by decide +kernel
theorem bt_int : bootBuiltins "int" = some (.type "int") := by decide +kernel
theorem bt_bool : bootBuiltins "bool" = some (.type "bool") := by decide +kernel
theorem bt_tuple : bootBuiltins "tuple" = some (.type "tuple") := by decide +kernel
theorem bt_list : bootBuiltins "list" = some (.type "list") := by decide +kernel
theorem bt_ValueError : bootBuiltins "ValueError" = some (.type "ValueError") := by decide +kernel
def Def (K : PySem.W.Frag) (mg : Str → Option Value) (x : Str) (st : Stmt) (dV : Value) : Prop := ∃ f fd, FunD K x x st f fd dV ∧ mg x = some (.ref f)
def Cal (P : Program) (w : World) (K : PySem.W.Frag) (mg : Str → Option Value) (base : Heap) (CX : CXT) (cm : Bool) (k : Nat) (x : Str) (ps : List Str) (ds : List V) (sp : Sp) : Prop :=
 ∃ f fd dvs, FnOk P w K mg base CX cm k f fd ps sp ∧ mg x = some (.ref f) ∧ PySem.W.keepIn K (.ref f) = true ∧ Binds K fd ps [] ∧ Vals ds dvs ∧ Binds K fd ps dvs
theorem call_isS {X : Cx} {x : Addr} : CallR (sup X x) (.builtin "isinstance") (rIs X.K) := call_is (X := sup X x)
end L2
namespace L2
open PySem PySem.Spec PyProof.Rows L3
theorem xe_off {X : Cx} : XeIs X (fun _ => True) E0 := fun _ _ _ _ _ _ _ _ _ _ z => z.elim
end L2
namespace L2
open PySem PySem.Spec PyProof.Rows L3
theorem Room.sup {cm : Bool} {k : Nat} {A : Around} (r : Room cm k A) (h : Option Value) : Room false k (A.mark h) := ⟨(fun z => nomatch z), r.dp, r.un⟩
end L2
namespace L2
open PySem PySem.Spec PyProof.Rows L3
def eqPl : V → Bool
 | .byt _ => false
 | .flt _ => false
 | _ => true
theorem eqAt_self {A : Around} {s : Shared} {x : V} {v u : Value} (hp : eqPl x = true) (r : RelV x v) (r' : RelV x u) : SeqAt.EqAt A s v u true := by
 cases x with
 | non => cases r; cases r'; exact SeqAt.EqAt.same _
 | bl b => cases r; cases r'; exact SeqAt.EqAt.same _
 | int i =>
   obtain ⟨t, rfl⟩ := r
   obtain ⟨t', rfl⟩ := r'
   have := SeqAt.EqAt.int_int (A := A) (s := s) i t i t'
   rw [beq_self_eq_true] at this
   exact this
 | str i =>
   obtain ⟨t, rfl⟩ := r
   obtain ⟨t', rfl⟩ := r'
   have := SeqAt.EqAt.str_str (A := A) (s := s) i t i t'
   rw [beq_self_eq_true] at this
   exact this
 | byt b => cases hp
 | flt b => cases hp
 | ref a => cases r; cases r'; exact SeqAt.EqAt.same _
 | ty n => cases r; cases r'; exact SeqAt.EqAt.same _
theorem vals_at : ∀ {xs : List V} {us : List Value}, Vals xs us → ∀ j (h : j < us.length), ∃ x, xs[j]? = some x ∧ RelV x us[j] := by
 intro xs us r
 induction r with
 | nil => intro j h; cases h
 | cons r rr ih =>
   intro j h
   cases j with
   | zero => exact ⟨_, rfl, r⟩
   | succ j => exact ih j (by simpa using h)
end L2
namespace L2
open PySem PySem.Spec PyProof.Rows L3
def Cx.inC (X : Cx) (scope : Scope) (cl : List (Str × Addr)) (C : Addr) (s2 : Shared) (H2 : Hp) (fp : List Addr) (N' : List Str) (xe : Value → Shared → Prop) : Cx :=
 { X with N := N', s₀ := s2, H₀ := H2, env := compEnvC scope cl C X.env, outer := X.stack, ex := fp, fn := fun _ => false, pn := [], xe := xe }
def tLC (wi : TI) (te : TE) (js : List Nat) : TE := fun σ H Q => wi σ H fun J H1 => ∃ W : Nat → Nat → List V → Hp → Prop, (∃ m, W 0 m [] H1) ∧ ∀ i m ys H, W i m ys H →
 (J.stop i H ∧ ∀ l, H l = none → Q (.ref l) (upd H l (.lst ys))) ∨ (J.go i H ∧ ys.length < sizeLine ∧ ∃ N : VK, (∀ y H2, N y H2 → ∃ m', m' < m ∧ W (i + 1) m' (ys ++ [y]) H2) ∧ ∀ x H', J.yld i H x H' → te (some x :: js.map (fun j => σ.getD j none)) H' N)
section
variable {X : Cx}
structure LcOk (X : Cx) (x : Str) (scope : Scope) (cl : List (Str × Addr)) (js : List Nat) : Prop where
 clos : closureFor scope X.env = pure cl
 sub : ∀ y c, cl.lookup y = some c → X.env.cells.lookup y = some c
 kind : scope.kind = .function
 cell : ∀ y ∈ scope.names, y.2 ≠ .cell
 names : ∀ y ∈ scope.names, y.2 = .local → scope.names.lookup y.1 = some .local
 loc : scope.names.lookup x = some .local
 has : ∀ y, (((relabel scope X.env).names.lookup y = some .cell) ∨ ((relabel scope X.env).names.lookup y = some .free)) → ∃ c, cl.lookup y = some c
 nd : (x :: js.map (fun j => X.N.getD j "")).Nodup
 fr : ∀ j ∈ js, ∃ y, X.N[j]? = some y ∧ X.env.kindOf y = some .cell ∧ (relabel scope X.env).names.lookup y = some .cell ∧ ∃ c, cl.lookup y = some c
theorem Inv.inC {x : Str} {scope : Scope} {cl : List (Str × Addr)} {js : List Nat} {pins : List (Addr × Obj)} {σ : St} {H2 : Hp} {s2 : Shared} {fp : List Addr} {C D : Addr} {h1 : Heap} {xe : Value → Shared → Prop} {oD : Obj} {m0 : Str → Option Value}
   (L : LcOk X x scope cl js) (I2 : Inv X pins σ H2 s2) (f2 : ∀ b ∈ fp, FpOk X pins H2 b) (fo : ∀ b ∈ fp, ∃ o, s2.heap.get? b = some o) (hC : s2.heap.objs.size ≤ C) (hD : s2.heap.objs.size ≤ D) (hDC : D ≠ C)
   (old : ∀ b o, s2.heap.get? b = some o → h1.get? b = some o) (hns : h1.Ns C m0) (hoD : h1.get? D = some oD) (hdD : ∀ v, oD.data ≠ .cell v) {t' : Nat} :
   Inv (X.inC scope cl C s2 H2 fp (x :: js.map (fun j => X.N.getD j "")) xe) [(D, oD)] (none :: js.map (fun j => σ.getD j none)) H2 { s2 with heap := h1, toks := t' } where
 ok := {
   mod := I2.ok.mod
   kind := L.kind
   glob := I2.ok.glob
   blt := I2.ok.blt
   above := hC
   inj := fun a b c e1 e2 => I2.ok.inj a b c (L.sub a c e1) (L.sub b c e2)
   has := fun y hy => L.has y hy
   cab := fun _ _ z => nomatch z
   hd := I2.ok.hd
   frames := I2.ok.frames
   stk := .inl rfl
   exf := fun b hb => by
     obtain ⟨o, e⟩ := fo b hb
     refine ⟨Nat.ne_of_lt (Nat.lt_of_lt_of_le (Heap.lt_size e) hC), fun y c e' => ?_⟩
     exact (f2 b hb).2.2.2.2.1 y c (L.sub y c e')
   bs := fun b o e => I2.bs b o e
   bsz := Nat.le_trans I2.ok.bsz I2.sz
   noex := fun b o e hb => by
     rcases (f2 b hb).2.2.2.1 with z | z
     · exact I2.ok.noex b o e z
     · exact absurd (Nat.lt_of_lt_of_le (Heap.lt_size e) (Nat.le_trans I2.ok.bsz z)) (Nat.lt_irrefl _)
   exfs := fun b hb z => by
     rcases List.mem_cons.mp (I2.stkSub b z) with e | e
     · exact (f2 b hb).2.1 e
     · exact (f2 b hb).2.2.1 e
   funs := I2.stack
   frf := I2.stkFree }
 os := rfl
 bare := I2.bare
 base := Un.kept old
 loc := by
   refine ⟨m0, hns, fun i y v e1 e2 e3 => ?_⟩
   cases i with
   | zero => cases e2
   | succ k =>
     have e1' : (js.map (fun j => X.N.getD j ""))[k]? = some y := e1
     have e2' : (js.map (fun j => σ.getD j none))[k]? = some (some v) := e2
     rw [List.getElem?_map] at e1' e2'
     cases hj : js[k]? with
     | none => rw [hj] at e1'; cases e1'
     | some j =>
       rw [hj] at e1' e2'
       obtain ⟨y', n1, n2, n3, c, n4⟩ := L.fr j (List.mem_of_getElem? hj)
       have e1'' : X.N.getD j "" = y := Option.some.inj e1'
       have e2'' : σ.getD j none = some v := Option.some.inj e2'
       have : y' = y := by
         rw [List.getD, n1] at e1''
         exact e1''
       subst this
       have hσ : σ[j]? = some (some v) := by
         rw [List.getD] at e2''
         cases q : σ[j]? with
         | none => rw [q] at e2''; cases e2''
         | some z => rw [q] at e2''; exact congrArg some e2''
       obtain ⟨m, hn, hl⟩ := I2.loc
       obtain ⟨u, r, l⟩ := hl j y' v n1 hσ (.inr (.inl n2))
       refine ⟨u, r, ?_⟩
       rcases l with ⟨k1, _⟩ | ⟨_, c', k2, k3⟩
       · rw [n2] at k1; cases k1
       · have : c' = c := by
           have := L.sub _ _ n4
           rw [k2] at this
           exact Option.some.inj this
         subst this
         obtain ⟨o, ho, hd⟩ := k3
         exact .inr ⟨.inl n3, c', n4, o, old _ _ ho, hd⟩
 cell := fun y c e => by
   obtain ⟨v, o, ho, hd⟩ := I2.cell y c (L.sub y c e)
   exact ⟨v, o, old _ _ ho, hd⟩
 free := I2.hok.fresh hC
 freeC := fun y c e => I2.freeC y c (L.sub y c e)
 pin := fun p hp => by
   have e : p = (D, oD) := by simpa [Cx.inC] using hp
   subst e
   refine ⟨hoD, I2.hok.fresh hD, hDC, fun z => ?_, hdD⟩
   rcases List.mem_cons.mp (I2.stkSub D z) with e | e
   · exact absurd I2.lt (by rw [← e]; exact Nat.not_lt.mpr hD)
   · exact I2.nofs hD e
 hok := I2.hok.kept old
 len := by simp [Cx.inC]
theorem lc_core {elt iter : Expr} {x : Str} {px pos cpos : Pos} {scope : Scope} {cl : List (Str × Addr)} {wi : TI} {te : TE} {js : List Nat} {use : Option (Value → Sem Unit)} {Qc : Value → Shared → Prop} {pins : List (Addr × Obj)} {s : Shared} {σ : St} {H : Hp} {Q : VK}
   (hc : X.calm = true) (L : LcOk X x scope cl js) (hi : PI X (.Name x px) iter wi) (G : Cx → Prop)
   (he : ∀ C s2 H2 fp xe, G (X.inC scope cl C s2 H2 fp (x :: js.map (fun j => X.N.getD j "")) xe) → PE (X.inC scope cl C s2 H2 fp (x :: js.map (fun j => X.N.getD j "")) xe) elt te)
   (hG : ∀ (C D : Addr) (s2 : Shared) (H2 : Hp) (fp : List Addr), Inv X pins σ H2 s2 → (∀ b ∈ fp, FpOk X pins H2 b) → (∀ b ∈ fp, ∃ o, s2.heap.get? b = some o) → s2.heap.objs.size < C →
     G (X.inC scope cl C s2 H2 fp (x :: js.map (fun j => X.N.getD j "")) (notedBy (model X.prog X.w) X.A (compEnvC scope cl C X.env) fun e s' => compPost (model X.prog X.w) X.A X.xe use Qc (.ref D) C (.error e) s')))
   (hs : ∀ z, foldedSetIterable iter X.env z = pure z) (I : Inv X pins σ H s) (h : tLC wi te js σ H Q)
   (fin : ∀ (D C : Addr) (H4 : Hp) (s4 : Shared) (m : Str → Option Value), s4.heap.Ns C m → FpOk X pins H4 C → (∀ h', Heap.SameBut C s4.heap h' → Inv X pins σ H4 { s4 with heap := h' }) → Q (.ref D) H4 → compPost (model X.prog X.w) X.A X.xe use Qc (.ref D) C (.ok .next) s4) :
   wpAny (model X.prog X.w) X.A (comprehension (.ListComp elt [⟨.Name x px, iter, [], 0⟩] scope pos) scope X.env cpos (newList []) false (eval iter X.env) use) Qc X.xe s := by
 refine wpAny_comprehension_free (cl := cl) (use := use) rfl hs L.clos L.kind L.names ?_
 refine thn (hi pins s σ H _ I h) fun v s1 h1 => thn h1 fun itv s2 h2 => ?_
 obtain ⟨it, fp, tn, J, H2, e, I2, T, st2, f2, W, ⟨k0, w0⟩, turn⟩ := h2
 subst e
 refine wpAny_newObj_type (wpAny_newFunctionEnv L.cell (by intro y hy; simp at hy) (fun h₁ hns₁ hsb₁ => ?_) L.kind)
 dsimp only at hns₁ hsb₁ ⊢
 generalize hH2 : s2.heap.push { cls := .type "list", dict := none, data := .seq ([] : List Value).toArray } = Hp2 at hns₁ hsb₁ ⊢
 have hC : Hp2.objs.size = s2.heap.objs.size + 1 := by rw [← hH2, Heap.size_push]
 generalize hD0 : s2.heap.objs.size = D at hC ⊢
 generalize hC0 : Hp2.objs.size = C at hC hns₁ hsb₁ ⊢
 have hDC : D ≠ C := by omega
 have below : ∀ b, b < D → b ≠ C := fun b hb => by omega
 have old : ∀ b o, s2.heap.get? b = some o → h₁.get? b = some o := fun b o e =>
   hsb₁.extBut b o (below b (by rw [← hD0]; exact Heap.lt_size e)) (Heap.get?_push_of_some _ (hH2 ▸ Heap.get?_push_of_some _ e))
 have hacc : h₁.get? D = some { cls := .type "list", data := .seq ([] : List Value).toArray 0 } := by
   subst hD0
   exact hsb₁.extBut _ _ hDC (Heap.get?_push_of_some _ (hH2 ▸ Heap.get?_push_size _ rfl))
 have fo : ∀ b ∈ fp, ∃ o, s2.heap.get? b = some o := fun b hb => let ⟨o, e, _⟩ := T.obj _ _ st2 b hb; ⟨o, e⟩
 have flt : ∀ b ∈ fp, b < D := fun b hb => let ⟨o, e⟩ := fo b hb; by rw [← hD0]; exact Heap.lt_size e
 have st1 : tn 0 h₁ := T.keep _ _ _ st2 fun b hb o e => old b o e
 have gx := hG C D s2 H2 fp I2 f2 fo (by omega)
 let R := compPost (model X.prog X.w) X.A X.xe use Qc (.ref D) C
 let xe := notedBy (model X.prog X.w) X.A (compEnvC scope cl C X.env) fun e s' => R (.error e) s'
 let X' := X.inC scope cl C s2 H2 fp (x :: js.map (fun j => X.N.getD j "")) xe
 have I0 : ∀ {t' : Nat}, Inv X' [(D, _)] (none :: js.map (fun j => σ.getD j none)) H2 { s2 with heap := h₁, toks := t' } := fun {t'} =>
   Inv.inC L I2 f2 fo (by omega) (by omega) hDC old hns₁ hacc (fun v z => by cases z)
 have fpk : ∀ {pD : List (Addr × Obj)} {H' : Hp}, (∀ p ∈ pD, p.1 = D) → (∀ b ∈ fp, H' b = none) → ∀ b ∈ fp, FpOk X' pD H' b := fun {pD H'} hp hn b hb => by
   refine ⟨hn b hb, below b (flt b hb), fun z => ?_, .inl hb, fun y c e => (f2 b hb).2.2.2.2.1 y c (L.sub y c e), fun p hp' z => ?_⟩
   · rcases List.mem_cons.mp (I2.stkSub b z) with e | e
     · exact (f2 b hb).2.1 e
     · exact (f2 b hb).2.2.1 e
   · have q := hp p (by simpa [X', Cx.inC] using hp')
     have := flt b hb
     rw [← z, q] at this
     exact Nat.lt_irrefl _ this
 have loop : ∀ s3 : Shared, (∃ k i ys H' its n σ0, Inv X' [(D, { cls := .type "list", data := .seq (its : List Value).toArray n })] (σ0 :: js.map (fun j => σ.getD j none)) H' s3 ∧ tn i s3.heap ∧ (∀ b ∈ fp, H' b = none) ∧ W i k ys H' ∧ Vals ys its ∧ ys.length ≤ sizeLine) →
     codeAny (model X.prog X.w) X.A (.compLoop (.ListComp elt [⟨.Name x px, iter, [], 0⟩] scope pos) 0 (.ref it) (.ref D) (compEnvC scope cl C X.env)) R s3 := by
   rintro s3 ⟨k, hk⟩
   refine codeAny_loop rfl (fun k s3 => ∃ i ys H' its n σ0, Inv X' [(D, { cls := .type "list", data := .seq (its : List Value).toArray n })] (σ0 :: js.map (fun j => σ.getD j none)) H' s3 ∧ tn i s3.heap ∧ (∀ b ∈ fp, H' b = none) ∧ W i k ys H' ∧ Vals ys its ∧ ys.length ≤ sizeLine) (fun k s3 hI => ?_) k hk
   obtain ⟨i, ys, H3, its, n, σ0, I3, st3, fr3, w3, vy, hz⟩ := hI
   show wpAny _ _ ((compTurn (.ListComp elt [⟨.Name x px, iter, [], 0⟩] scope pos) 0 (.ref it) (.ref D) (compEnvC scope cl C X.env)).onRaise (fun x => do noteFrame x (compEnvC scope cl C X.env); theTreesLotGoes x)) _ _ s3
   refine wpAny_noted ?_
   rw [compTurn_list1]
   have hpD : ∀ {o : Obj}, ∀ p ∈ [(D, o)], p.1 = D := fun p hp => by rw [List.mem_singleton.mp hp]
   refine wpAny_bind (wpAny_standAt (wpAny_bind ?_))
   rcases turn i k ys H3 w3 with ⟨stop, qn⟩ | ⟨go, hlen, N, hN, step⟩
   · refine thn (T.done X' rfl rfl rfl hc i _ s3 _ H3 xe I3 (fpk hpD fr3) st3 stop) fun r s4 ⟨hr, I4⟩ => ?_
     subst hr
     refine wpAny_pure ?_
     obtain ⟨m, hn, _⟩ := I4.loc
     obtain ⟨eD, nD, _⟩ := I4.pin (D, _) (List.mem_append_right _ (List.mem_singleton.mpr rfl))
     have fC : FpOk X pins (upd H3 D (.lst ys)) C := I2.fpOk (by omega) (by
       rw [upd_ne (Ne.symm hDC)]
       exact I4.free)
     refine fin D C (upd H3 D (.lst ys)) s4 m hn fC (fun h' sb => ?_) (qn D nD)
     obtain ⟨hh, g, d, t, os'⟩ := s4
     obtain rfl : os' = s2.os := I4.os
     have kp : ∀ b o, b ≠ C → hh.get? b = some o → h'.get? b = some o := fun b o hb e => (sb.2 b hb).trans e
     have lt2 : ∀ b o, s2.heap.get? b = some o → b ≠ C ∧ b ≠ D := fun b o e => by
       have q : b < D := by rw [← hD0]; exact Heap.lt_size e
       exact ⟨below b q, Nat.ne_of_lt q⟩
     have B : Un (frs X.stack) fp H2 H3 s2.heap hh := I4.base
     have hDn : H3 D = none := nD
     have I5 : Inv X pins σ (upd H3 D (.lst ys)) { s2 with heap := h', gens := g, drawn := d, toks := t } := by
       refine I2.call (h' := h') (g' := g) (d' := d) (t' := t) (ch := fp) ⟨?_, ?_, ?_, ?_, ?_, ?_, ?_⟩ ?_ I4.bare ?_
       · exact fun b o e n hb hx => kp b o (lt2 b o e).1 (B.keep b o e n hb hx)
       · intro b o e n hb hx
         obtain ⟨sl, q⟩ := B.slot b o e n hb hx
         exact ⟨sl, kp b _ (lt2 b o e).1 q⟩
       · intro b o e n hx
         rw [upd_ne (lt2 b o e).2]
         exact B.free b o e n hx
       · intro b o e hx
         obtain ⟨o', q⟩ := B.there b o e hx
         exact ⟨o', kp b o' (lt2 b o e).1 q⟩
       · intro b xs e
         have q := B.tups b xs e
         rw [upd_ne (ne_of_none q hDn)]
         exact q
       · intro b o u e
         have q := B.frzs b o u e
         rw [upd_ne (ne_of_none q hDn)]
         exact q
       · intro b ps e
         obtain ⟨more, q⟩ := B.tbls b ps e
         exact ⟨more, by rw [upd_ne (ne_of_none q hDn)]; exact q⟩
       · intro b u e
         by_cases hb : b = D
         · subst hb
           rw [upd_same] at e
           cases e
           exact ⟨hz, its, n, vy, kp _ _ hDC eD⟩
         · rw [upd_ne hb] at e
           have nC : ∀ c o, H3 c = some o → c ≠ C := fun c o q => ne_of_none q I4.free
           refine (I4.hok b u e).stay (fun c v hc' q => kp c v ?_ q) (fun c q => by rw [upd_ne (ne_of_none q hDn)]; exact q) fun c xs q => by rw [upd_ne (ne_of_none q hDn)]; exact q
           rcases hc' with z | z
           · rw [z]; exact nC b u e
           · exact nC c _ z
       · intro b hb
         obtain ⟨_, f1, _, f3, f4, f5⟩ := f2 b hb
         exact ⟨f3, f1, f4, f5⟩
     exact I5
   · refine thn (T.item X' rfl rfl rfl hc i _ s3 _ H3 xe I3 (fpk hpD fr3) st3 go) fun r s4 ⟨u, hr, h4⟩ => ?_
     subst hr
     refine wpAny_bind (thn h4 fun _ s5 ⟨xv, H5, I5, r5, y5, st5, fr5⟩ => ?_)
     have I5' := I5.pinned (fpk hpD fr5) (T.obj _ _ st5)
     refine wpAny_bind (thn (pg_name (X := X') (i := 0) L.nd rfl (Or.inl (lookup_relabel_local L.loc)) (Or.inr (lookup_relabel_local L.loc)) _ s5 _ H5 xv u (fun σ6 H6 => σ6 = some xv :: js.map (fun j => σ.getD j none) ∧ H6 = H5) I5' r5 ⟨rfl, rfl⟩) fun _ s6 ⟨σ6, H6, I6, e6, e6'⟩ => ?_)
     subst e6 e6'
     refine wpAny_bind (wpAny_bind (thn (he C s2 H2 fp xe gx _ s6 _ _ _ I6 (step xv _ y5)) fun y s7 ⟨yv, H7, I7, ry, n7⟩ => ?_))
     obtain ⟨m', hm, w7⟩ := hN yv H7 n7
     have I7' := I7.unpinned
     obtain ⟨eD, nD, neC, nfs, _⟩ := I7'.pin (D, _) (List.mem_append_right _ (List.mem_singleton.mpr rfl))
     have eD' : s7.heap.get? D = some { cls := .type "list", data := .seq its.toArray n } := eD
     have lv := vy.length
     refine wpAny_bind (call_meets F.slot_list_append ⟨_, eD', rfl⟩ F.entry_list_append (F.args_list_append_2 _ _) (PySem.list_append D its.toArray n y (by rw [List.size_toArray]; omega)) ⟨eD', ?_⟩)
     refine wpAny_pure (wpAny_pure ⟨rfl, m', hm, i + 1, ys ++ [yv], H7, its ++ [y], ?_⟩)
     have q := PySem.IsL.update eD' (fun a : Array Value => a.push y)
     have I8 : Inv X' [] (some xv :: js.map (fun j => σ.getD j none)) H7 { s7 with heap := s7.heap.update D (Obj.mapSeq (fun a : Array Value => a.push y)) } :=
       (I7'.pins_of (pins' := []) (fun p hp => nomatch hp)).turned (t' := s7.toks) (it := D) (fun b o hb e => (Heap.get?_update_other s7.heap _ (Ne.symm hb)).trans e) nD neC (.inr (by show s2.heap.objs.size ≤ D; omega))
         (fun z c e w => by
           obtain ⟨v', o', ho', _⟩ := I2.cell z c (L.sub z c e)
           have := Heap.lt_size ho'
           rw [w, hD0] at this
           exact Nat.lt_irrefl _ this) (fun p hp => nomatch hp)
     have pinf : ∀ b ∈ fp, ∀ o, s5.heap.get? b = some o → s7.heap.get? b = some o ∧ H7 b = none := fun b hb o e => by
       have z := I7.pin (b, o) (List.mem_append_right _ (List.mem_append_right _ (mem_pinsAt hb e)))
       exact ⟨z.1, z.2.1⟩
     obtain ⟨n', q'⟩ : ∃ n', (s7.heap.update D (Obj.mapSeq (fun a : Array Value => a.push y))).get? D = some { cls := .type "list", data := .seq (its ++ [y]).toArray n' } := by
       rw [show (its ++ [y]).toArray = its.toArray.push y by simp]
       exact ⟨_, q⟩
     refine ⟨n', some xv, I8.pins_of fun p hp => ?_, ?_, fun b hb => ?_, w7, vy.append (.cons ry .nil), by rw [List.length_append, List.length_singleton]; omega⟩
     · rw [List.mem_singleton.mp hp]
       exact ⟨q', nD, neC, nfs, fun v z => by cases z⟩
     · refine T.keep _ _ _ st5 fun b hb o e => ?_
       have hb' : D ≠ b := fun z => by
         have := flt b hb
         rw [← z] at this
         exact Nat.lt_irrefl _ this
       exact (Heap.get?_update_other s7.heap _ hb').trans (pinf b hb o e).1
     · obtain ⟨o, e, _⟩ := T.obj _ _ st5 b hb
       exact (pinf b hb o e).2
 have start : ∀ {t' : Nat}, ∃ k i ys H' its n σ0, Inv X' [(D, { cls := .type "list", data := .seq (its : List Value).toArray n })] (σ0 :: js.map (fun j => σ.getD j none)) H' { s2 with heap := h₁, toks := t' } ∧ tn i h₁ ∧ (∀ b ∈ fp, H' b = none) ∧ W i k ys H' ∧ Vals ys its ∧ ys.length ≤ sizeLine := fun {t'} =>
   ⟨k0, 0, [], H2, [], 0, none, I0, st1, fun b hb => (f2 b hb).1, w0, .nil, Nat.zero_le _⟩
 exact codeAny_compStart_list (loop _ start) (T.self X.A 0 _ _ _ st1 (loop _ start))
theorem pe_lc {elt iter : Expr} {x : Str} {px pos : Pos} {scope : Scope} {cl : List (Str × Addr)} {wi : TI} {te : TE} (js : List Nat) (hc : X.calm = true) (L : LcOk X x scope cl js) (hi : PI X (.Name x px) iter wi)
   (he : ∀ C s2 H2 fp xe, PE (X.inC scope cl C s2 H2 fp (x :: js.map (fun j => X.N.getD j "")) xe) elt te)
   (hs : ∀ z, foldedSetIterable iter X.env z = pure z := by intro _; rfl) :
   PE X (.ListComp elt [⟨.Name x px, iter, [], 0⟩] scope pos) (tLC wi te js) := by
 intro pins s σ H Q I h
 rw [eval_ListComp]
 exact lc_core (use := none) hc L hi (fun _ => True) (fun C s2 H2 fp xe _ => he C s2 H2 fp xe) (fun _ _ _ _ _ _ _ _ _ => trivial) hs I h fun D C H4 s4 m hn _ I4 q => ⟨m, hn, fun h' sb => ⟨.ref D, H4, I4 h' sb, rfl, q⟩⟩
theorem ps_setLC {i : Nat} {t : Str} {elt iter : Expr} {x : Str} {px pos cpos pos' : Pos} {scope : Scope} {cl : List (Str × Addr)} {wi : TI} {te : TE} (js : List Nat) (hN : X.N.Nodup) (hi' : X.N[i]? = some t) (hx : Loc X.env.scope t) (hc : X.calm = true) (L : LcOk X x scope cl js) (hi : PI X (.Name x px) iter wi)
   (he : ∀ C s2 H2 fp xe, PE (X.inC scope cl C s2 H2 fp (x :: js.map (fun j => X.N.getD j "")) xe) elt te)
   (hs : ∀ z, foldedSetIterable iter X.env z = pure z := by intro _; rfl) (hsw : swapsWith (.ListComp elt [⟨.Name x px, iter, [], 0⟩] scope cpos) (some (.Name t pos')) pos.line X.env = pure true := by rfl)
   (hf : X.fn t = true ∨ X.env.scope.names.lookup t = some .local := by first | exact .inl rfl | exact .inr rfl | assumption) :
   PS X (.Assign [.Name t pos'] (.ListComp elt [⟨.Name x px, iter, [], 0⟩] scope cpos) pos) (tAsg (tLC wi te js) (gName i)) := by
 intro pins s σ H D I h
 rw [exec_Assign_Name_used _ _ _ _ hsw]
 refine wpAny_bind (wpAny_standAt (wpAny_bind ?_))
 show wpAny _ X.A (do let _ ← comprehension (.ListComp elt [⟨.Name x px, iter, [], 0⟩] scope cpos) scope X.env _ (newList []) false (eval iter X.env) (some (assign (.Name t pos') X.env))) _ _ s
 refine wpAny_bind (wpAny_mono (lc_core (use := some (assign (.Name t pos') X.env)) (Qc := fun _ s' => SP X pins D .next s') hc L hi (fun _ => True) (fun C s2 H2 fp xe _ => he C s2 H2 fp xe) (fun _ _ _ _ _ _ _ _ _ => trivial) hs I h fun Dl C H4 s4 m hn fC I4 q => ?_) (fun _ s' hq => wpAny_pure (wpAny_pure hq)) fun _ _ e => e)
 show wpAny (model X.prog X.w) X.A (assign (.Name t pos') X.env (.ref Dl)) _ X.xe s4
 obtain ⟨oC, es, ep, hoC, hdC, rC⟩ := id hn
 have I4' : Inv X (pins ++ pinsAt [C] s4.heap) σ H4 s4 := (I4 s4.heap (.refl ..)).pinned (fun b hb => by rw [List.mem_singleton.mp hb]; exact fC) fun b hb => by
   rw [List.mem_singleton.mp hb]
   exact ⟨oC, hoC, fun v z => by rw [hdC] at z; cases z⟩
 refine thn (pg_name hN hi' hx hf _ s4 σ H4 (.ref Dl) (.ref Dl) D.nx I4' rfl q) fun _ s5 ⟨σ5, H5, I5, q5⟩ => ?_
 obtain ⟨e5, n5, _⟩ := I5.pin (C, oC) (List.mem_append_right _ (List.mem_append_right _ (mem_pinsAt (List.mem_singleton.mpr rfl) hoC)))
 refine ⟨m, ⟨oC, es, ep, e5, hdC, rC⟩, fun h' sb => ⟨σ5, H5, ?_, q5⟩⟩
 obtain ⟨_, f1, _, f3, f4, f5⟩ := fC
 exact I5.unpinned.turned (t' := s5.toks) (it := C) (fun b o hb e => (sb.2 b hb).trans e) n5 f1 f3 f4 f5
end
end L2
namespace L2
open PySem PySem.Spec PyProof.Rows L3
theorem lc_list {K : PySem.W.Frag} {a : Addr} {xs : List V} {T : V → Hp → VK → Prop} {R : Addr → Hp → List V → Prop} {H : Hp} (Pv : Nat → List V → Hp → Prop) (h0 : Pv 0 [] H) (hn : xs.length ≤ sizeLine) (hl : ∀ i ys H, i ≤ xs.length → Pv i ys H → SqL K H a xs ∧ ys.length = i)
   (hs : ∀ i x ys H, xs[i]? = some x → Pv i ys H → T x H fun y H2 => Pv (i + 1) (ys ++ [y]) H2) (hd : ∀ ys H, Pv xs.length ys H → ∀ l, H l = none → R l H ys) :
   ∃ W : Nat → Nat → List V → Hp → Prop, (∃ m, W 0 m [] H) ∧ ∀ i m ys H, W i m ys H →
     ((Itl K a).stop i H ∧ ∀ l, H l = none → R l H ys) ∨ ((Itl K a).go i H ∧ ys.length < sizeLine ∧ ∃ N : VK, (∀ y H2, N y H2 → ∃ m', m' < m ∧ W (i + 1) m' (ys ++ [y]) H2) ∧ ∀ x H', (Itl K a).yld i H x H' → T x H' N) := by
 refine ⟨fun i m ys H => m = xs.length - i ∧ i ≤ xs.length ∧ Pv i ys H, ⟨xs.length, by simp, Nat.zero_le _, h0⟩, ?_⟩
 rintro i m ys H ⟨rfl, hi, p⟩
 obtain ⟨q, hy⟩ := hl i ys H hi p
 by_cases hlt : i < xs.length
 · refine .inr ⟨⟨xs, xs[i], q, by simp [hlt]⟩, by omega, fun y H2 => Pv (i + 1) (ys ++ [y]) H2, fun y H2 p' => ⟨xs.length - (i + 1), by omega, rfl, hlt, p'⟩, fun x H' ⟨e, y⟩ => ?_⟩
   subst e
   exact hs i x ys _ (y xs q) p
 · have e : i = xs.length := by omega
   subst e
   exact .inl ⟨⟨xs, q, Nat.le_refl _⟩, hd ys H p⟩
theorem ints_of : ∀ {ns : List Int} {its : List Value}, Vals (ns.map V.int) its → IntsAre its ns
 | [], _, .nil => .nil
 | n :: r, _, .cons ⟨t, e⟩ rr => by
   subst e
   exact .cons n t (ints_of rr)
theorem bools_of : ∀ {bs : List Bool} {its : List Value}, Vals (bs.map V.bl) its → LSm.BoolsAre its bs
 | [], _, .nil => .nil
 | n :: r, _, .cons e rr => by
   cases e
   exact .cons n (bools_of rr)
section
variable {X : Cx}
theorem call_sum {k : Nat} (hr : Room true k X.A) : CallR X (.builtin "sum") (fun xs H Q => ∃ (p : Addr) (ns : List Int), xs = [.ref p] ∧ SqL X.K H p (ns.map V.int) ∧ Q (.int ns.sum) H) := by
 intro pins s σ H xs us Q I r h
 obtain ⟨p, ns, rfl, hq, q⟩ := h
 obtain ⟨u, rfl, rx⟩ := vals1 r
 cases rx
 obtain ⟨its, r', pl, hz⟩ := I.list hq
 have hi := ints_of r'
 obtain ⟨xs, hx⟩ := hi.allInts.items
 have hl' : s.heap.IsList p (intItems xs) := hx ▸ pl.isList
 refine sum_intListG (hr.hd rfl) hl' fun h' tk t' hk => ?_
 have e1 : ns = xs.toList.map (·.1) := by
   rw [← nums_intItems, ← hx]
   exact (show numsOf its.toArray.toList = ns from hi.numsOf).symm
 have e2 : preSum (numAt xs) xs.size = ns.sum := by
   rw [preSum_eq, List.take_of_length_le (by simp), e1]
 rw [e2]
 exact ⟨.int ns.sum, H, I.kept hk, ⟨t', rfl⟩, q⟩
theorem call_any {k : Nat} (hr : Room true k X.A) : CallR X (.builtin "any") (fun xs H Q => ∃ (p : Addr) (bs : List Bool), xs = [.ref p] ∧ SqL X.K H p (bs.map V.bl) ∧ Q (.bl (bs.any id)) H) := by
 intro pins s σ H xs us Q I r h
 obtain ⟨p, bs, rfl, hq, q⟩ := h
 obtain ⟨u, rfl, rx⟩ := vals1 r
 cases rx
 obtain ⟨its, r', pl, hz⟩ := I.list hq
 have hb := bools_of r'
 have hl := pl.isList
 have hlt : p < s.heap.objs.size := by obtain ⟨_, e, _⟩ := hl; exact Heap.lt_size e
 refine call_any_walk (wpAny_pyIter_list hl ?_)
 refine ⟨s.heap.objs.size, [s.heap.objs.size, p], [s.heap.objs.size], its.toArray.size, _, _, fun i => (bs[i]?).getD false, rfl, Walks.list (A := X.A.in1) (hr.hd rfl) _ p (Nat.ne_of_lt hlt) its.toArray,
   ⟨⟨_, Heap.get?_push_size _ rfl, rfl, rfl⟩, hl.push _⟩, fun i v s' Q' E' hP hQ => ?_, fun h' tk hk => ?_⟩
 · obtain ⟨b, e, rfl⟩ := hb.get i v (by simpa using hP)
   simp only [e, Option.getD_some] at hQ
   exact wpAny_truthy_bool hQ
 · have e : ((List.range its.toArray.size).any fun i => (bs[i]?).getD false) = bs.any id := by
     rw [List.size_toArray, hb.length]; exact LSm.range_any bs
   rw [e]
   exact ⟨.bl (bs.any id), H, I.kept (LSm.kept_iter hk), rfl, q⟩
end
theorem lookup_relabel_not {env : Env} {k : NameKind} : ∀ {names : List (Str × NameKind)} {y : Str}, (∀ z ∈ names, z.2 ≠ .free) → (∀ z ∈ names, z.2 ≠ k) → (names.map fun (n, k) => if (k == NameKind.free && env.scope.kind == .function && env.kindOf n == some .cell) then (n, NameKind.cell) else (n, k)).lookup y = some k → False
 | [], _, _, _, h => by simp at h
 | (n, k') :: r, y, hf, hk, h => by
   have e : (k' == NameKind.free) = false := by simpa using hf (n, k') List.mem_cons_self
   rw [List.map_cons] at h
   simp only [e, Bool.false_and, Bool.false_eq_true, if_false] at h
   rw [List.lookup_cons] at h
   cases hx : y == n with
   | true => rw [hx] at h; exact hk (n, k') List.mem_cons_self (Option.some.inj h)
   | false => rw [hx] at h; exact lookup_relabel_not (fun z hz => hf z (List.mem_cons_of_mem _ hz)) (fun z hz => hk z (List.mem_cons_of_mem _ hz)) h
theorem LcOk.plain {X : Cx} {x : Str} {scope : Scope} (hfree : ∀ y ∈ scope.names, y.2 ≠ .free) (hcell : ∀ y ∈ scope.names, y.2 ≠ .cell) (hkind : scope.kind = .function) (hnames : ∀ y ∈ scope.names, y.2 = .local → scope.names.lookup y.1 = some .local)
   (hloc : scope.names.lookup x = some .local) : LcOk X x scope [] [] where
 clos := closureFor_none hfree
 sub := fun _ _ e => nomatch e
 kind := hkind
 cell := hcell
 names := hnames
 loc := hloc
 has := fun y h => by
   rcases h with h | h
   · exact (lookup_relabel_not hfree hcell h).elim
   · exact (lookup_relabel_not hfree hfree h).elim
 nd := by simp
 fr := fun _ h => nomatch h
theorem bt_sum : bootBuiltins "sum" = some (.builtin "sum") := by decide +kernel
theorem bt_any : bootBuiltins "any" = some (.builtin "any") := by decide +kernel
end L2
namespace L2
open PySem PySem.Spec PyProof.Rows L3
theorem lookup_relabel_free {env : Env} {k : NameKind} (hk : k = .cell ∨ k = .free) : ∀ {names : List (Str × NameKind)} {y : Str}, (∀ z ∈ names, z.2 ≠ .cell) → (names.map fun (n, k) => if (k == NameKind.free && env.scope.kind == .function && env.kindOf n == some .cell) then (n, NameKind.cell) else (n, k)).lookup y = some k → ∃ z ∈ names, z.1 = y ∧ z.2 = .free
 | [], _, _, h => by simp at h
 | (n, k') :: r, y, hc, h => by
   rw [List.map_cons] at h
   have fst : (if (k' == NameKind.free && env.scope.kind == .function && env.kindOf n == some .cell) = true then (n, NameKind.cell) else (n, k')).1 = n := by split <;> rfl
   cases hx : y == n with
   | true =>
     have e : y = n := eq_of_beq hx
     subst e
     by_cases hf : k' = .free
     · exact ⟨(y, k'), List.mem_cons_self, rfl, hf⟩
     · exfalso
       have e : (k' == NameKind.free) = false := by simpa using hf
       simp only [e, Bool.false_and, Bool.false_eq_true, if_false] at h
       rw [List.lookup_cons] at h
       rw [hx] at h
       have h' : k' = k := Option.some.inj h
       rcases hk with z | z
       · exact hc (y, k') List.mem_cons_self (h'.trans z)
       · exact hf (h'.trans z)
   | false =>
     rw [List.lookup_cons] at h
     rw [fst, hx] at h
     obtain ⟨z, m, q⟩ := lookup_relabel_free hk (fun z hz => hc z (List.mem_cons_of_mem _ hz)) h
     exact ⟨z, List.mem_cons_of_mem _ m, q⟩
theorem lookup_mem {cl : List (Str × Addr)} {y : Str} (h : y ∈ cl.map (·.1)) : ∃ c, cl.lookup y = some c := by
 induction cl with
 | nil => cases h
 | cons p r ih =>
   rw [List.lookup_cons]
   cases hx : y == p.1 with
   | true => exact ⟨_, rfl⟩
   | false =>
     rcases List.mem_cons.mp h with e | e
     · rw [e, beq_self_eq_true] at hx; cases hx
     · exact ih e
theorem mem_lookup {cl : List (Str × Addr)} {y : Str} {c : Addr} (h : cl.lookup y = some c) : (y, c) ∈ cl := by
 induction cl with
 | nil => cases h
 | cons p r ih =>
   rw [List.lookup_cons] at h
   cases hx : y == p.1 with
   | true =>
     rw [hx] at h
     have e := eq_of_beq hx
     have e2 : p.2 = c := Option.some.inj h
     rw [show p = (y, c) by rw [e, ← e2]]
     exact List.mem_cons_self
   | false => rw [hx] at h; exact List.mem_cons_of_mem _ (ih h)
theorem LcOk.free {X : Cx} {x : Str} {scope : Scope} {cl : List (Str × Addr)} {js : List Nat} (fns : List Str) (hclos : closureFor scope X.env = pure cl) (hf : cl.map (·.1) = fns) (hsub : ∀ p ∈ cl, X.env.cells.lookup p.1 = some p.2) (hcell : ∀ y ∈ scope.names, y.2 ≠ .cell) (hkind : scope.kind = .function) (hnames : ∀ y ∈ scope.names, y.2 = .local → scope.names.lookup y.1 = some .local)
   (hloc : scope.names.lookup x = some .local) (hcov : ∀ z ∈ scope.names, z.2 = .free → z.1 ∈ fns) (hnd : (x :: js.map (fun j => X.N.getD j "")).Nodup)
   (hfr : ∀ j ∈ js, ∃ y, X.N[j]? = some y ∧ X.env.kindOf y = some .cell ∧ (relabel scope X.env).names.lookup y = some .cell ∧ y ∈ fns) : LcOk X x scope cl js where
 clos := hclos
 sub := fun y c e => hsub (y, c) (mem_lookup e)
 kind := hkind
 cell := hcell
 names := hnames
 loc := hloc
 has := fun y h => by
   have : ∃ z ∈ scope.names, z.1 = y ∧ z.2 = .free := by
     rcases h with h | h
     · exact lookup_relabel_free (.inl rfl) hcell h
     · exact lookup_relabel_free (.inr rfl) hcell h
   obtain ⟨z, m, rfl, e⟩ := this
   exact lookup_mem (by rw [hf]; exact hcov z m e)
 nd := hnd
 fr := fun j hj => by
   obtain ⟨y, a, b, c, d⟩ := hfr j hj
   exact ⟨y, a, b, c, lookup_mem (by rw [hf]; exact d)⟩
end L2
namespace L2
open PySem PySem.Spec PyProof.Rows L3
section
variable {X : Cx}
end
end L2
namespace L2
open PySem PySem.Spec PyProof.Rows L3
def RawD (h : Heap) (d : Addr) (es : Array DictEntry) (ep : Nat) : Prop := ∃ o, h.get? d = some o ∧ o.ExactDict ∧ o.data = .dict es ep
section
variable {prog : Program} {w : World} {A : Around} {E : Value → Shared → Prop} {s : Shared}
theorem RawD.typeIs {d : Addr} {es : Array DictEntry} {ep : Nat} (x : RawD s.heap d es ep) : s.TypeIs (.ref d) "dict" := by
 obtain ⟨o, ho, hc, _⟩ := x
 exact ⟨o, ho, hc.1⟩
end
section
variable {X : Cx}
end
end L2
namespace L2
open PySem PySem.Spec PyProof.Rows L3
section
variable {X : Cx} {pins : List (Addr × Obj)} {σ : St} {H : Hp} {s : Shared}
end
section
variable {X : Cx}
end
end L2
namespace L2
open PySem PySem.Spec PyProof.Rows L3
theorem ix_seqC {X : Cx} {scope : Scope} {cl : List (Str × Addr)} {C : Addr} {s2 : Shared} {H2 : Hp} {fp : List Addr} {N' : List Str} {xe : Value → Shared → Prop} : IxR (X.inC scope cl C s2 H2 fp N' xe) (rIx X.K) := ix_seq (X := X.inC scope cl C s2 H2 fp N' xe)
end L2
namespace L2
open PySem PySem.Spec PyProof.Rows L3
section
variable {X : Cx}
end
end L2
namespace L2
open PySem PySem.Spec PyProof.Rows L3
theorem lc_range {lo : Int} {n : Nat} {T : V → Hp → VK → Prop} {R : Addr → Hp → List V → Prop} {H : Hp} (Pv : Nat → List V → Hp → Prop) (h0 : Pv 0 [] H) (hn : n ≤ sizeLine) (hl : ∀ i ys H, i ≤ n → Pv i ys H → ys.length = i)
   (hs : ∀ i ys H, i < n → Pv i ys H → T (.int (lo + i)) H fun y H2 => Pv (i + 1) (ys ++ [y]) H2) (hd : ∀ ys H, Pv n ys H → ∀ l, H l = none → R l H ys) :
   ∃ W : Nat → Nat → List V → Hp → Prop, (∃ m, W 0 m [] H) ∧ ∀ i m ys H, W i m ys H →
     ((Itr lo n).stop i H ∧ ∀ l, H l = none → R l H ys) ∨ ((Itr lo n).go i H ∧ ys.length < sizeLine ∧ ∃ N : VK, (∀ y H2, N y H2 → ∃ m', m' < m ∧ W (i + 1) m' (ys ++ [y]) H2) ∧ ∀ x H', (Itr lo n).yld i H x H' → T x H' N) := by
 refine ⟨fun i m ys H => m = n - i ∧ i ≤ n ∧ Pv i ys H, ⟨n, by simp, Nat.zero_le _, h0⟩, ?_⟩
 rintro i m ys H ⟨rfl, hi, p⟩
 have hy := hl i ys H hi p
 by_cases hlt : i < n
 · refine .inr ⟨hlt, by omega, fun y H2 => Pv (i + 1) (ys ++ [y]) H2, fun y H2 p' => ⟨n - (i + 1), by omega, rfl, hlt, p'⟩, fun x H' ⟨e, y⟩ => ?_⟩
   subst e y
   exact hs i ys _ hlt p
 · have e : i = n := by omega
   subst e
   exact .inl ⟨Nat.le_refl _, hd ys H p⟩
end L2
namespace L2
open PySem PySem.Spec PyProof.Rows L3
section
variable {X : Cx}
def eqT (K : PySem.W.Frag) (H : Hp) (x y : V) : Prop := (x = y ∧ eqPl x = true) ∨ ∃ a b xs, x = .ref a ∧ y = .ref b ∧ SqT K H a xs ∧ SqT K H b xs ∧ ∀ z ∈ xs, eqPl z = true
theorem Inv.eqT {pins : List (Addr × Obj)} {σ : St} {H : Hp} {s : Shared} {x y : V} {v u : Value} {A : Around} (I : Inv X pins σ H s) (hu : A.units < cLine) (e : eqT X.K H x y) (rx : RelV x v) (ry : RelV y u) : SeqAt.EqAt A s v u true := by
 rcases e with ⟨rfl, hp⟩ | ⟨a, b, xs, rfl, rfl, ha, hb, hp⟩
 · exact eqAt_self hp rx ry
 · cases rx
   cases ry
   by_cases hab : a = b
   · subst hab
     exact SeqAt.EqAt.same _
   obtain ⟨its, r, pl, hz⟩ := I.tuple ha
   obtain ⟨its2, r2, pl2, hz2⟩ := I.tuple hb
   have l1 := r.length
   have l2 := r2.length
   have h := SeqAt.RcAt.tuples (A := A) (e := fun _ => true) (show s.heap.IsTuple a its.toArray from pl) (show s.heap.IsTuple b its2.toArray from pl2) hu (fun j h1 h2 => by
     simp only [List.size_toArray] at h1 h2
     obtain ⟨x, e, rx⟩ := vals_at r j h1
     obtain ⟨x2, e2, rx2⟩ := vals_at r2 j h2
     rw [e] at e2
     cases e2
     simp only [List.getElem_toArray]
     exact eqAt_self (hp x (List.mem_of_getElem? e)) rx rx2)
   have hb : ((List.range (min its.toArray.size its2.toArray.size)).all (fun _ => true) && its.toArray.size == its2.toArray.size) = true := by
     simp only [List.size_toArray]
     rw [← l1, ← l2]
     simp
   rw [hb] at h
   exact SeqAt.EqAt.of_refs hab h
def EqLs (K : PySem.W.Frag) (H : Hp) (xs ys : List V) : Prop := xs.length = ys.length ∧ ∀ (j : Nat) x y, xs[j]? = some x → ys[j]? = some y → eqT K H x y
theorem op_eqD {cm : Bool} {k : Nat} (hr : Room cm k X.A) : OpR X (compareOp .Eq) (fun x y H Q => ∃ a b xs ys, x = .ref a ∧ y = .ref b ∧ SqL X.K H a xs ∧ SqL X.K H b ys ∧ EqLs X.K H xs ys ∧ Q (.bl true) H) := by
 intro pins s σ H x y v u Q I rx ry h
 obtain ⟨a, b, xs, ys, rfl, rfl, ha, hb, ⟨hl, he⟩, q⟩ := h
 cases rx
 cases ry
 obtain ⟨its, r, pl, hz⟩ := I.list ha
 obtain ⟨its2, r2, pl2, hz2⟩ := I.list hb
 have l1 := r.length
 have l2 := r2.length
 have hu : X.A.units < cLine := by have := hr.un; omega
 have hu1 : X.A.in1.units < cLine := by have := hr.un; show X.A.units + 1 < cLine; omega
 refine SeqAt.eq_listAt (e := fun _ => true) pl.isList pl2.isList (by simp only [List.size_toArray]; omega) hu (fun j h1 h2 => ?_) ?_
 · simp only [List.size_toArray] at h1 h2
   obtain ⟨x, e, rx⟩ := vals_at r j h1
   obtain ⟨x2, e2, rx2⟩ := vals_at r2 j h2
   simp only [List.getElem_toArray]
   exact I.eqT hu1 (he j x x2 e e2) rx rx2
 · rw [show ((List.range its.toArray.size).all fun _ => true) = true by simp]
   exact ⟨.bl true, H, I, rfl, q⟩
theorem op_neD {cm : Bool} {k : Nat} (hr : Room cm k X.A) : OpR X (compareOp .NotEq) (fun x y H Q => ∃ a b xs ys, x = .ref a ∧ y = .ref b ∧ SqL X.K H a xs ∧ SqL X.K H b ys ∧ EqLs X.K H xs ys ∧ Q (.bl false) H) := by
 intro pins s σ H x y v u Q I rx ry h
 obtain ⟨a, b, xs, ys, rfl, rfl, ha, hb, ⟨hl, he⟩, q⟩ := h
 cases rx
 cases ry
 obtain ⟨its, r, pl, hz⟩ := I.list ha
 obtain ⟨its2, r2, pl2, hz2⟩ := I.list hb
 have l1 := r.length
 have l2 := r2.length
 have hu : X.A.units < cLine := by have := hr.un; omega
 have hu1 : X.A.in1.units < cLine := by have := hr.un; show X.A.units + 1 < cLine; omega
 refine SeqAt.RcNeAt.lists (e := fun _ => true) pl.isList pl2.isList (by simp only [List.size_toArray]; omega) hu (fun j h1 h2 => ?_) _ _ _ _ ?_
 · simp only [List.size_toArray] at h1 h2
   obtain ⟨x, e, rx⟩ := vals_at r j h1
   obtain ⟨x2, e2, rx2⟩ := vals_at r2 j h2
   simp only [List.getElem_toArray]
   exact I.eqT hu1 (he j x x2 e e2) rx rx2
 · rw [show ((List.range its.toArray.size).all fun _ => true) = true by simp]
   exact ⟨.bl false, H, I, rfl, q⟩
theorem EqLs.refl {K : PySem.W.Frag} {H : Hp} {xs : List V} (h : ∀ z ∈ xs, eqPl z = true) : EqLs K H xs xs := ⟨rfl, fun j x y e1 e2 => by
 rw [e1] at e2
 cases e2
 exact .inl ⟨rfl, h x (List.mem_of_getElem? e1)⟩⟩
end
end L2
namespace L2
open PySem PySem.Spec PyProof.Rows L3
def tLCT (wi : TI) (g : TG) (te : TE) (n : Nat) (js : List Nat) : TE := fun σ H Q => wi σ H fun J H1 => ∃ W : Nat → Nat → List V → Hp → Prop, (∃ m, W 0 m [] H1) ∧ ∀ i m ys H, W i m ys H →
 (J.stop i H ∧ ∀ l, H l = none → Q (.ref l) (upd H l (.lst ys))) ∨ (J.go i H ∧ ys.length < sizeLine ∧ ∃ N : VK, (∀ y H2, N y H2 → ∃ m', m' < m ∧ W (i + 1) m' (ys ++ [y]) H2) ∧ ∀ x H', J.yld i H x H' → ∀ σ0 : St, σ0.length = n → g x (σ0 ++ js.map (fun j => σ.getD j none)) H' fun σ6 H6 => ∃ σ1 : St, σ1.length = n ∧ σ6 = σ1 ++ js.map (fun j => σ.getD j none) ∧ te σ6 H6 N)
section
variable {X : Cx}
structure LcOkT (X : Cx) (xs : List Str) (scope : Scope) (cl : List (Str × Addr)) (js : List Nat) : Prop where
 clos : closureFor scope X.env = pure cl
 sub : ∀ y c, cl.lookup y = some c → X.env.cells.lookup y = some c
 kind : scope.kind = .function
 cell : ∀ y ∈ scope.names, y.2 ≠ .cell
 names : ∀ y ∈ scope.names, y.2 = .local → scope.names.lookup y.1 = some .local
 loc : ∀ x ∈ xs, scope.names.lookup x = some .local
 has : ∀ y, (((relabel scope X.env).names.lookup y = some .cell) ∨ ((relabel scope X.env).names.lookup y = some .free)) → ∃ c, cl.lookup y = some c
 nd : (xs ++ js.map (fun j => X.N.getD j "")).Nodup
 fr : ∀ j ∈ js, ∃ y, X.N[j]? = some y ∧ X.env.kindOf y = some .cell ∧ (relabel scope X.env).names.lookup y = some .cell ∧ ∃ c, cl.lookup y = some c
theorem Inv.inCT {xs : List Str} {scope : Scope} {cl : List (Str × Addr)} {js : List Nat} {pins : List (Addr × Obj)} {σ : St} {H2 : Hp} {s2 : Shared} {fp : List Addr} {C D : Addr} {h1 : Heap} {xe : Value → Shared → Prop} {oD : Obj} {m0 : Str → Option Value}
   (L : LcOkT X xs scope cl js) (I2 : Inv X pins σ H2 s2) (f2 : ∀ b ∈ fp, FpOk X pins H2 b) (fo : ∀ b ∈ fp, ∃ o, s2.heap.get? b = some o) (hC : s2.heap.objs.size ≤ C) (hD : s2.heap.objs.size ≤ D) (hDC : D ≠ C)
   (old : ∀ b o, s2.heap.get? b = some o → h1.get? b = some o) (hns : h1.Ns C m0) (hoD : h1.get? D = some oD) (hdD : ∀ v, oD.data ≠ .cell v) {t' : Nat} :
   Inv (X.inC scope cl C s2 H2 fp (xs ++ js.map (fun j => X.N.getD j "")) xe) [(D, oD)] (xs.map (fun _ => none) ++ js.map (fun j => σ.getD j none)) H2 { s2 with heap := h1, toks := t' } where
 ok := {
   mod := I2.ok.mod
   kind := L.kind
   glob := I2.ok.glob
   blt := I2.ok.blt
   above := hC
   inj := fun a b c e1 e2 => I2.ok.inj a b c (L.sub a c e1) (L.sub b c e2)
   has := fun y hy => L.has y hy
   cab := fun _ _ z => nomatch z
   hd := I2.ok.hd
   frames := I2.ok.frames
   stk := .inl rfl
   exf := fun b hb => by
     obtain ⟨o, e⟩ := fo b hb
     refine ⟨Nat.ne_of_lt (Nat.lt_of_lt_of_le (Heap.lt_size e) hC), fun y c e' => ?_⟩
     exact (f2 b hb).2.2.2.2.1 y c (L.sub y c e')
   bs := fun b o e => I2.bs b o e
   bsz := Nat.le_trans I2.ok.bsz I2.sz
   noex := fun b o e hb => by
     rcases (f2 b hb).2.2.2.1 with z | z
     · exact I2.ok.noex b o e z
     · exact absurd (Nat.lt_of_lt_of_le (Heap.lt_size e) (Nat.le_trans I2.ok.bsz z)) (Nat.lt_irrefl _)
   exfs := fun b hb z => by
     rcases List.mem_cons.mp (I2.stkSub b z) with e | e
     · exact (f2 b hb).2.1 e
     · exact (f2 b hb).2.2.1 e
   funs := I2.stack
   frf := I2.stkFree }
 os := rfl
 bare := I2.bare
 base := Un.kept old
 loc := by
   refine ⟨m0, hns, fun i y v e1 e2 e3 => ?_⟩
   have hik : ¬ i < xs.length := fun z => by
     have e2' : (xs.map (fun _ => (none : Option V)) ++ js.map (fun j => σ.getD j none))[i]? = some (some v) := e2
     rw [List.getElem?_append_left (by rw [List.length_map]; exact z), List.getElem?_map] at e2'
     rw [List.getElem?_eq_getElem z] at e2'
     cases e2'
   have hsplit : ∃ k, i = xs.length + k := ⟨i - xs.length, by omega⟩
   obtain ⟨k, rfl⟩ := hsplit
   · have e1' : (js.map (fun j => X.N.getD j ""))[k]? = some y := by
       have e1' : (xs ++ js.map (fun j => X.N.getD j ""))[xs.length + k]? = some y := e1
       rw [List.getElem?_append_right (by omega)] at e1'
       simpa using e1'
     have e2' : (js.map (fun j => σ.getD j none))[k]? = some (some v) := by
       have e2' : (xs.map (fun _ => (none : Option V)) ++ js.map (fun j => σ.getD j none))[xs.length + k]? = some (some v) := e2
       rw [List.getElem?_append_right (by rw [List.length_map]; omega)] at e2'
       simpa using e2'
     rw [List.getElem?_map] at e1' e2'
     cases hj : js[k]? with
     | none => rw [hj] at e1'; cases e1'
     | some j =>
       rw [hj] at e1' e2'
       obtain ⟨y', n1, n2, n3, c, n4⟩ := L.fr j (List.mem_of_getElem? hj)
       have e1'' : X.N.getD j "" = y := Option.some.inj e1'
       have e2'' : σ.getD j none = some v := Option.some.inj e2'
       have : y' = y := by
         rw [List.getD, n1] at e1''
         exact e1''
       subst this
       have hσ : σ[j]? = some (some v) := by
         rw [List.getD] at e2''
         cases q : σ[j]? with
         | none => rw [q] at e2''; cases e2''
         | some z => rw [q] at e2''; exact congrArg some e2''
       obtain ⟨m, hn, hl⟩ := I2.loc
       obtain ⟨u, r, l⟩ := hl j y' v n1 hσ (.inr (.inl n2))
       refine ⟨u, r, ?_⟩
       rcases l with ⟨k1, _⟩ | ⟨_, c', k2, k3⟩
       · rw [n2] at k1; cases k1
       · have : c' = c := by
           have := L.sub _ _ n4
           rw [k2] at this
           exact Option.some.inj this
         subst this
         obtain ⟨o, ho, hd⟩ := k3
         exact .inr ⟨.inl n3, c', n4, o, old _ _ ho, hd⟩
 cell := fun y c e => by
   obtain ⟨v, o, ho, hd⟩ := I2.cell y c (L.sub y c e)
   exact ⟨v, o, old _ _ ho, hd⟩
 free := I2.hok.fresh hC
 freeC := fun y c e => I2.freeC y c (L.sub y c e)
 pin := fun p hp => by
   have e : p = (D, oD) := by simpa [Cx.inC] using hp
   subst e
   refine ⟨hoD, I2.hok.fresh hD, hDC, fun z => ?_, hdD⟩
   rcases List.mem_cons.mp (I2.stkSub D z) with e | e
   · exact absurd I2.lt (by rw [← e]; exact Nat.not_lt.mpr hD)
   · exact I2.nofs hD e
 hok := I2.hok.kept old
 len := by simp [Cx.inC]
theorem lcT_core {elt iter tg : Expr} {g : TG} {xs : List Str} {pos cpos : Pos} {scope : Scope} {cl : List (Str × Addr)} {wi : TI} {te : TE} {js : List Nat} {use : Option (Value → Sem Unit)} {Qc : Value → Shared → Prop} {pins : List (Addr × Obj)} {s : Shared} {σ : St} {H : Hp} {Q : VK}
   (hc : X.calm = true) (L : LcOkT X xs scope cl js) (hi : PI X tg iter wi) (hg : ∀ C s2 H2 fp xe, PG (X.inC scope cl C s2 H2 fp (xs ++ js.map (fun j => X.N.getD j "")) xe) tg g)
   (he : ∀ C s2 H2 fp xe, PE (X.inC scope cl C s2 H2 fp (xs ++ js.map (fun j => X.N.getD j "")) xe) elt te)
   (hs : ∀ z, foldedSetIterable iter X.env z = pure z) (I : Inv X pins σ H s) (h : tLCT wi g te xs.length js σ H Q)
   (fin : ∀ (D C : Addr) (H4 : Hp) (s4 : Shared) (m : Str → Option Value), s4.heap.Ns C m → FpOk X pins H4 C → (∀ h', Heap.SameBut C s4.heap h' → Inv X pins σ H4 { s4 with heap := h' }) → Q (.ref D) H4 → compPost (model X.prog X.w) X.A X.xe use Qc (.ref D) C (.ok .next) s4) :
   wpAny (model X.prog X.w) X.A (comprehension (.ListComp elt [⟨tg, iter, [], 0⟩] scope pos) scope X.env cpos (newList []) false (eval iter X.env) use) Qc X.xe s := by
 refine wpAny_comprehension_free (cl := cl) (use := use) rfl hs L.clos L.kind L.names ?_
 refine thn (hi pins s σ H _ I h) fun v s1 h1 => thn h1 fun itv s2 h2 => ?_
 obtain ⟨it, fp, tn, J, H2, e, I2, T, st2, f2, W, ⟨k0, w0⟩, turn⟩ := h2
 subst e
 refine wpAny_newObj_type (wpAny_newFunctionEnv L.cell (by intro y hy; simp at hy) (fun h₁ hns₁ hsb₁ => ?_) L.kind)
 dsimp only at hns₁ hsb₁ ⊢
 generalize hH2 : s2.heap.push { cls := .type "list", dict := none, data := .seq ([] : List Value).toArray } = Hp2 at hns₁ hsb₁ ⊢
 have hC : Hp2.objs.size = s2.heap.objs.size + 1 := by rw [← hH2, Heap.size_push]
 generalize hD0 : s2.heap.objs.size = D at hC ⊢
 generalize hC0 : Hp2.objs.size = C at hC hns₁ hsb₁ ⊢
 have hDC : D ≠ C := by omega
 have below : ∀ b, b < D → b ≠ C := fun b hb => by omega
 have old : ∀ b o, s2.heap.get? b = some o → h₁.get? b = some o := fun b o e =>
   hsb₁.extBut b o (below b (by rw [← hD0]; exact Heap.lt_size e)) (Heap.get?_push_of_some _ (hH2 ▸ Heap.get?_push_of_some _ e))
 have hacc : h₁.get? D = some { cls := .type "list", data := .seq ([] : List Value).toArray 0 } := by
   subst hD0
   exact hsb₁.extBut _ _ hDC (Heap.get?_push_of_some _ (hH2 ▸ Heap.get?_push_size _ rfl))
 have fo : ∀ b ∈ fp, ∃ o, s2.heap.get? b = some o := fun b hb => let ⟨o, e, _⟩ := T.obj _ _ st2 b hb; ⟨o, e⟩
 have flt : ∀ b ∈ fp, b < D := fun b hb => let ⟨o, e⟩ := fo b hb; by rw [← hD0]; exact Heap.lt_size e
 have st1 : tn 0 h₁ := T.keep _ _ _ st2 fun b hb o e => old b o e
 let R := compPost (model X.prog X.w) X.A X.xe use Qc (.ref D) C
 let xe := notedBy (model X.prog X.w) X.A (compEnvC scope cl C X.env) fun e s' => R (.error e) s'
 let X' := X.inC scope cl C s2 H2 fp (xs ++ js.map (fun j => X.N.getD j "")) xe
 have I0 : ∀ {t' : Nat}, Inv X' [(D, _)] (xs.map (fun _ => none) ++ js.map (fun j => σ.getD j none)) H2 { s2 with heap := h₁, toks := t' } := fun {t'} =>
   Inv.inCT L I2 f2 fo (by omega) (by omega) hDC old hns₁ hacc (fun v z => by cases z)
 have fpk : ∀ {pD : List (Addr × Obj)} {H' : Hp}, (∀ p ∈ pD, p.1 = D) → (∀ b ∈ fp, H' b = none) → ∀ b ∈ fp, FpOk X' pD H' b := fun {pD H'} hp hn b hb => by
   refine ⟨hn b hb, below b (flt b hb), fun z => ?_, .inl hb, fun y c e => (f2 b hb).2.2.2.2.1 y c (L.sub y c e), fun p hp' z => ?_⟩
   · rcases List.mem_cons.mp (I2.stkSub b z) with e | e
     · exact (f2 b hb).2.1 e
     · exact (f2 b hb).2.2.1 e
   · have q := hp p (by simpa [X', Cx.inC] using hp')
     have := flt b hb
     rw [← z, q] at this
     exact Nat.lt_irrefl _ this
 have loop : ∀ s3 : Shared, (∃ k i ys H' its n, ∃ σ0 : St, σ0.length = xs.length ∧ Inv X' [(D, { cls := .type "list", data := .seq (its : List Value).toArray n })] (σ0 ++ js.map (fun j => σ.getD j none)) H' s3 ∧ tn i s3.heap ∧ (∀ b ∈ fp, H' b = none) ∧ W i k ys H' ∧ Vals ys its ∧ ys.length ≤ sizeLine) →
     codeAny (model X.prog X.w) X.A (.compLoop (.ListComp elt [⟨tg, iter, [], 0⟩] scope pos) 0 (.ref it) (.ref D) (compEnvC scope cl C X.env)) R s3 := by
   rintro s3 ⟨k, hk⟩
   refine codeAny_loop rfl (fun k s3 => ∃ i ys H' its n, ∃ σ0 : St, σ0.length = xs.length ∧ Inv X' [(D, { cls := .type "list", data := .seq (its : List Value).toArray n })] (σ0 ++ js.map (fun j => σ.getD j none)) H' s3 ∧ tn i s3.heap ∧ (∀ b ∈ fp, H' b = none) ∧ W i k ys H' ∧ Vals ys its ∧ ys.length ≤ sizeLine) (fun k s3 hI => ?_) k hk
   obtain ⟨i, ys, H3, its, n, σ0, hσ0, I3, st3, fr3, w3, vy, hz⟩ := hI
   show wpAny _ _ ((compTurn (.ListComp elt [⟨tg, iter, [], 0⟩] scope pos) 0 (.ref it) (.ref D) (compEnvC scope cl C X.env)).onRaise (fun x => do noteFrame x (compEnvC scope cl C X.env); theTreesLotGoes x)) _ _ s3
   refine wpAny_noted ?_
   rw [compTurn_list1]
   have hpD : ∀ {o : Obj}, ∀ p ∈ [(D, o)], p.1 = D := fun p hp => by rw [List.mem_singleton.mp hp]
   refine wpAny_bind (wpAny_standAt (wpAny_bind ?_))
   rcases turn i k ys H3 w3 with ⟨stop, qn⟩ | ⟨go, hlen, N, hN, step⟩
   · refine thn (T.done X' rfl rfl rfl hc i _ s3 _ H3 xe I3 (fpk hpD fr3) st3 stop) fun r s4 ⟨hr, I4⟩ => ?_
     subst hr
     refine wpAny_pure ?_
     obtain ⟨m, hn, _⟩ := I4.loc
     obtain ⟨eD, nD, _⟩ := I4.pin (D, _) (List.mem_append_right _ (List.mem_singleton.mpr rfl))
     have fC : FpOk X pins (upd H3 D (.lst ys)) C := I2.fpOk (by omega) (by
       rw [upd_ne (Ne.symm hDC)]
       exact I4.free)
     refine fin D C (upd H3 D (.lst ys)) s4 m hn fC (fun h' sb => ?_) (qn D nD)
     obtain ⟨hh, g, d, t, os'⟩ := s4
     obtain rfl : os' = s2.os := I4.os
     have kp : ∀ b o, b ≠ C → hh.get? b = some o → h'.get? b = some o := fun b o hb e => (sb.2 b hb).trans e
     have lt2 : ∀ b o, s2.heap.get? b = some o → b ≠ C ∧ b ≠ D := fun b o e => by
       have q : b < D := by rw [← hD0]; exact Heap.lt_size e
       exact ⟨below b q, Nat.ne_of_lt q⟩
     have B : Un (frs X.stack) fp H2 H3 s2.heap hh := I4.base
     have hDn : H3 D = none := nD
     have I5 : Inv X pins σ (upd H3 D (.lst ys)) { s2 with heap := h', gens := g, drawn := d, toks := t } := by
       refine I2.call (h' := h') (g' := g) (d' := d) (t' := t) (ch := fp) ⟨?_, ?_, ?_, ?_, ?_, ?_, ?_⟩ ?_ I4.bare ?_
       · exact fun b o e n hb hx => kp b o (lt2 b o e).1 (B.keep b o e n hb hx)
       · intro b o e n hb hx
         obtain ⟨sl, q⟩ := B.slot b o e n hb hx
         exact ⟨sl, kp b _ (lt2 b o e).1 q⟩
       · intro b o e n hx
         rw [upd_ne (lt2 b o e).2]
         exact B.free b o e n hx
       · intro b o e hx
         obtain ⟨o', q⟩ := B.there b o e hx
         exact ⟨o', kp b o' (lt2 b o e).1 q⟩
       · intro b xs e
         have q := B.tups b xs e
         rw [upd_ne (ne_of_none q hDn)]
         exact q
       · intro b o u e
         have q := B.frzs b o u e
         rw [upd_ne (ne_of_none q hDn)]
         exact q
       · intro b ps e
         obtain ⟨more, q⟩ := B.tbls b ps e
         exact ⟨more, by rw [upd_ne (ne_of_none q hDn)]; exact q⟩
       · intro b u e
         by_cases hb : b = D
         · subst hb
           rw [upd_same] at e
           cases e
           exact ⟨hz, its, n, vy, kp _ _ hDC eD⟩
         · rw [upd_ne hb] at e
           have nC : ∀ c o, H3 c = some o → c ≠ C := fun c o q => ne_of_none q I4.free
           refine (I4.hok b u e).stay (fun c v hc' q => kp c v ?_ q) (fun c q => by rw [upd_ne (ne_of_none q hDn)]; exact q) fun c xs q => by rw [upd_ne (ne_of_none q hDn)]; exact q
           rcases hc' with z | z
           · rw [z]; exact nC b u e
           · exact nC c _ z
       · intro b hb
         obtain ⟨_, f1, _, f3, f4, f5⟩ := f2 b hb
         exact ⟨f3, f1, f4, f5⟩
     exact I5
   · refine thn (T.item X' rfl rfl rfl hc i _ s3 _ H3 xe I3 (fpk hpD fr3) st3 go) fun r s4 ⟨u, hr, h4⟩ => ?_
     subst hr
     refine wpAny_bind (thn h4 fun _ s5 ⟨xv, H5, I5, r5, y5, st5, fr5⟩ => ?_)
     have I5' := I5.pinned (fpk hpD fr5) (T.obj _ _ st5)
     refine wpAny_bind (thn (hg C s2 H2 fp xe _ s5 _ H5 xv u _ I5' r5 (step xv _ y5 σ0 hσ0)) fun _ s6 ⟨σ6, H6, I6, σ1, hσ1, e6, st6⟩ => ?_)
     subst e6
     refine wpAny_bind (wpAny_bind (thn (he C s2 H2 fp xe _ s6 _ _ _ I6 st6) fun y s7 ⟨yv, H7, I7, ry, n7⟩ => ?_))
     obtain ⟨m', hm, w7⟩ := hN yv H7 n7
     have I7' := I7.unpinned
     obtain ⟨eD, nD, neC, nfs, _⟩ := I7'.pin (D, _) (List.mem_append_right _ (List.mem_singleton.mpr rfl))
     have eD' : s7.heap.get? D = some { cls := .type "list", data := .seq its.toArray n } := eD
     have lv := vy.length
     refine wpAny_bind (call_meets F.slot_list_append ⟨_, eD', rfl⟩ F.entry_list_append (F.args_list_append_2 _ _) (PySem.list_append D its.toArray n y (by rw [List.size_toArray]; omega)) ⟨eD', ?_⟩)
     refine wpAny_pure (wpAny_pure ⟨rfl, m', hm, i + 1, ys ++ [yv], H7, its ++ [y], ?_⟩)
     have q := PySem.IsL.update eD' (fun a : Array Value => a.push y)
     have I8 : Inv X' [] (σ1 ++ js.map (fun j => σ.getD j none)) H7 { s7 with heap := s7.heap.update D (Obj.mapSeq (fun a : Array Value => a.push y)) } :=
       (I7'.pins_of (pins' := []) (fun p hp => nomatch hp)).turned (t' := s7.toks) (it := D) (fun b o hb e => (Heap.get?_update_other s7.heap _ (Ne.symm hb)).trans e) nD neC (.inr (by show s2.heap.objs.size ≤ D; omega))
         (fun z c e w => by
           obtain ⟨v', o', ho', _⟩ := I2.cell z c (L.sub z c e)
           have := Heap.lt_size ho'
           rw [w, hD0] at this
           exact Nat.lt_irrefl _ this) (fun p hp => nomatch hp)
     have pinf : ∀ b ∈ fp, ∀ o, s5.heap.get? b = some o → s7.heap.get? b = some o ∧ H7 b = none := fun b hb o e => by
       have z := I7.pin (b, o) (List.mem_append_right _ (List.mem_append_right _ (mem_pinsAt hb e)))
       exact ⟨z.1, z.2.1⟩
     obtain ⟨n', q'⟩ : ∃ n', (s7.heap.update D (Obj.mapSeq (fun a : Array Value => a.push y))).get? D = some { cls := .type "list", data := .seq (its ++ [y]).toArray n' } := by
       rw [show (its ++ [y]).toArray = its.toArray.push y by simp]
       exact ⟨_, q⟩
     refine ⟨n', σ1, hσ1, I8.pins_of fun p hp => ?_, ?_, fun b hb => ?_, w7, vy.append (.cons ry .nil), by rw [List.length_append, List.length_singleton]; omega⟩
     · rw [List.mem_singleton.mp hp]
       exact ⟨q', nD, neC, nfs, fun v z => by cases z⟩
     · refine T.keep _ _ _ st5 fun b hb o e => ?_
       have hb' : D ≠ b := fun z => by
         have := flt b hb
         rw [← z] at this
         exact Nat.lt_irrefl _ this
       exact (Heap.get?_update_other s7.heap _ hb').trans (pinf b hb o e).1
     · obtain ⟨o, e, _⟩ := T.obj _ _ st5 b hb
       exact (pinf b hb o e).2
 have start : ∀ {t' : Nat}, ∃ k i ys H' its n, ∃ σ0 : St, σ0.length = xs.length ∧ Inv X' [(D, { cls := .type "list", data := .seq (its : List Value).toArray n })] (σ0 ++ js.map (fun j => σ.getD j none)) H' { s2 with heap := h₁, toks := t' } ∧ tn i h₁ ∧ (∀ b ∈ fp, H' b = none) ∧ W i k ys H' ∧ Vals ys its ∧ ys.length ≤ sizeLine := fun {t'} =>
   ⟨k0, 0, [], H2, [], 0, xs.map (fun _ => none), List.length_map .., I0, st1, fun b hb => (f2 b hb).1, w0, .nil, Nat.zero_le _⟩
 exact codeAny_compStart_list (loop _ start) (T.self X.A 0 _ _ _ st1 (loop _ start))
theorem pe_lcT {elt iter tg : Expr} {g : TG} {xs : List Str} {pos : Pos} {scope : Scope} {cl : List (Str × Addr)} {wi : TI} {te : TE} (js : List Nat) (hc : X.calm = true) (L : LcOkT X xs scope cl js) (hi : PI X tg iter wi)
   (hg : ∀ C s2 H2 fp xe, PG (X.inC scope cl C s2 H2 fp (xs ++ js.map (fun j => X.N.getD j "")) xe) tg g)
   (he : ∀ C s2 H2 fp xe, PE (X.inC scope cl C s2 H2 fp (xs ++ js.map (fun j => X.N.getD j "")) xe) elt te)
   (hs : ∀ z, foldedSetIterable iter X.env z = pure z := by intro _; rfl) :
   PE X (.ListComp elt [⟨tg, iter, [], 0⟩] scope pos) (tLCT wi g te xs.length js) := by
 intro pins s σ H Q I h
 rw [eval_ListComp]
 exact lcT_core (use := none) hc L hi hg he hs I h fun D C H4 s4 m hn _ I4 q => ⟨m, hn, fun h' sb => ⟨.ref D, H4, I4 h' sb, rfl, q⟩⟩
theorem LcOkT.plain {X : Cx} {xs : List Str} {scope : Scope} (hfree : ∀ y ∈ scope.names, y.2 ≠ .free) (hcell : ∀ y ∈ scope.names, y.2 ≠ .cell) (hkind : scope.kind = .function) (hnames : ∀ y ∈ scope.names, y.2 = .local → scope.names.lookup y.1 = some .local)
   (hloc : ∀ x ∈ xs, scope.names.lookup x = some .local) (hnd : xs.Nodup) : LcOkT X xs scope [] [] where
 clos := closureFor_none hfree
 sub := fun _ _ e => nomatch e
 kind := hkind
 cell := hcell
 names := hnames
 loc := hloc
 has := fun y h => by
   rcases h with h | h
   · exact (lookup_relabel_not hfree hcell h).elim
   · exact (lookup_relabel_not hfree hfree h).elim
 nd := by simpa using hnd
 fr := fun _ h => nomatch h
end
end L2
namespace L2
open PySem PySem.Spec PyProof.Rows PySem.W PySem.Calls L3
theorem bits_ns : ∀ {ns : List Int}, WData.weightAll (ns.map WData.int) ≤ 2 ^ 20 → ∀ w ∈ ns, Builtin.Int.intBits w ≤ 2 ^ 20
 | [], _, w, h => nomatch h
 | n :: ns, h, w, hw => by
   have h' : WData.weight (.int n) + 1 + WData.weightAll (ns.map WData.int) ≤ 2 ^ 20 := h
   rcases List.mem_cons.mp hw with rfl | m
   · have e : WData.weight (.int w) = if w == 0 then 0 else w.natAbs.log2 + 1 := rfl
     rw [e] at h'
     unfold Builtin.Int.intBits
     by_cases c : w = 0
     · subst c
       simp
     · simp [c] at h' ⊢
       omega
   · exact bits_ns (by omega) w m
theorem attach_callB {l : OpenLaw} {n : Nat} {q : Program} {loose : List Str} {XP : (Str → Option Value) → Heap → Prop} {YP : World → Heap → Prop} {d : DefRec}
   (hn : l.most = some n) (hdf : d.params.defaults = [])
   (call : ∀ (w : World) (s₀ s₁ : Shared) (mg mb : Str → Option Value) (fa : Addr) (o : Obj) (pm cd doc : Value) (a : Addr) (vs : List Value) (ns : List Int),
     Ground q loose [] XP w s₀ mg mb s₁.heap → YP w s₁.heap →
     s₁.heap.get? fa = some o → o.data = .func (docDef d.name d.params d.body d.scope pm cd doc) → s₁.heap.CodeRec cd d.name → mg d.name = some (.ref fa) →
     s₁.heap.get? a = some { cls := .type "list", data := .seq vs.toArray } → IntsAre vs ns → ns.length ≤ n → (∀ w ∈ ns, Builtin.Int.intBits w ≤ 2 ^ 20) → s₁.gens = #[] →
     codeAny (model l.prog w) callerA (.call (.ref fa) ⟨[.ref a], []⟩) (fun r s' => r = .ok (.ret (.bool true)) ∧ OldK s₁.heap s'.heap ∧ s'.os = s₁.os ∧ AllBare s'.gens) s₁) :
   WalkO q loose XP YP l.row.toRowW d [] (fun f vs => PySem.call f vs) := by
 intro w s₀ s₁ mg mb G Y fa o pm cd doc dV kV ho hd hcd hD hmg hg args vals as hpre hlay hrd hwl hlo
 obtain rfl : dV = .none := Dflts.none hD hdf
 obtain rfl : kV = .none := Dflts.noKw hD
 obtain ⟨a, vs, ns, rfl, rfl, hobj, hints, hlen⟩ := Att.script_of hn hpre hwl
 have hb : ∀ w ∈ ns, Builtin.Int.intBits w ≤ 2 ^ 20 := by
   have h1 : WData.layable (.list (ns.map WData.int)) = true := by
     have := hlay
     unfold WData.layableAll at this
     simpa using this
   unfold WData.layable at h1
   rw [Bool.and_eq_true, decide_eq_true_eq] at h1
   exact bits_ns h1.2
 refine enter_call (codeAny_mono (call w s₀ s₁ mg mb fa o pm cd doc a vs ns G Y ho (fd_plain hd) hcd hmg hobj hints hlen hb hg) fun r s' hq => ?_)
 obtain ⟨rfl, h2, h3, h4⟩ := hq
 exact ⟨.inl ⟨.bool true, .bool true, [], rfl, fun _ => rfl, .bool true, Att.post_true l _, fun _ => ⟨List.Pairwise.nil, fun _ hm => (nomatch hm)⟩⟩, h2, h3, h4⟩
theorem walk_ofB {l : PySem.W.OpenLaw} {n k : Nat} {q : Program} {loose : List Str} {XP : (Str → Option Value) → Heap → Prop} {YP : World → Heap → Prop} {d : DefRec} {K : Params → PySem.W.Frag} {CX : World → CXT} {sp : World → Sp} {x : Str}
   (hn : l.most = some n) (hn2 : n ≤ sizeLine) (hdf : d.params.defaults = []) (hr : Room true k callerA)
   (hY : ∀ (w : World) (h : Heap), YP w h → (K w.params).In h)
   (F : ∀ (w : World) (mg : Str → Option Value) (fa : Addr) (h : Heap), (K w.params).In h → h.Ns mainGlobals mg → mg d.name = some (.ref fa) →
     ∃ fd : FuncData, (∀ (s : Shared) (u : Value), BindsTo s fd ⟨[u], []⟩ [(x, u)]) ∧
       ∀ base : Heap, (K w.params).In base → base.Ns mainGlobals mg → FnOk l.prog w (K w.params) mg base (CX w) true k fa fd [x] (sp w))
   (hsp : ∀ (w : World) (H : Hp) (a : Addr) (ns : List Int), ns.length ≤ n → (∀ w ∈ ns, Builtin.Int.intBits w ≤ 2 ^ 20) → Only H → SqL (K w.params) H a (ns.map V.int) → sp w [.ref a] H (fun v _ => v = .bl true) fun _ _ _ => False)
   (hCX : ∀ (w : World) (H : Hp) (s : Shared) (e : Value) (s' : Shared), CX w [] H s (fun _ _ _ => False) e s' → False) :
   PySem.W.WalkO q loose XP YP l.row.toRowW d [] (fun f vs => PySem.call f vs) := by
 refine attach_callB hn hdf fun w s₀ s₁ mg mb fa o pm cd doc a vs ns G Y ho hd hcd hmg hobj hints hlen hb2 hg => ?_
 have KX := hY w _ Y
 obtain ⟨fd, hb, hF⟩ := F w mg fa _ KX G.T.g hmg
 exact law_call KX G.T.g G.T.b G.T.builtins G.T.nolimit hg hobj hints (Nat.le_trans hlen hn2) hr hF hb (fun H hO hS => hsp w H a ns hlen hb2 hO hS) fun H e s' => hCX w H s₁ e s'
end L2
namespace L2
open PySem PySem.Spec PyProof.Rows L3
theorem pg_nameT {X : Cx} {xs : List Str} {scope : Scope} {cl : List (Str × Addr)} {js : List Nat} {C : Addr} {s2 : Shared} {H2 : Hp} {fp : List Addr} {xe : Value → Shared → Prop} {i : Nat} {x : Str} {px : Pos} (L : LcOkT X xs scope cl js) (hi : (xs ++ js.map (fun j => X.N.getD j ""))[i]? = some x) (hx : x ∈ xs) :
   PG (X.inC scope cl C s2 H2 fp (xs ++ js.map (fun j => X.N.getD j "")) xe) (.Name x px) (gName i) :=
 pg_name (X := X.inC scope cl C s2 H2 fp (xs ++ js.map (fun j => X.N.getD j "")) xe) L.nd hi (Or.inl (lookup_relabel_local (L.loc x hx))) (Or.inr (lookup_relabel_local (L.loc x hx)))
theorem pg_tup2T {X : Cx} {x1 x2 : Str} {p1 p2 pos : Pos} {k : Nat} {scope : Scope} {cl : List (Str × Addr)} {js : List Nat} (hc : X.calm = true) (L : LcOkT X [x1, x2] scope cl js) :
   ∀ (C : Addr) (s2 : Shared) (H2 : Hp) (fp : List Addr) (xe : Value → Shared → Prop), PG (X.inC scope cl C s2 H2 fp ([x1, x2] ++ js.map (fun j => X.N.getD j "")) xe) (.Tuple [.Name x1 p1, .Name x2 p2] k pos) (gTup X.K 2 (gCons (gName 0) (gCons (gName 1) gNil))) := fun C s2 H2 fp xe =>
 pg_tup (X := X.inC scope cl C s2 H2 fp ([x1, x2] ++ js.map (fun j => X.N.getD j "")) xe) hc (pgs_cons (pg_nameT (i := 0) L rfl List.mem_cons_self) (pgs_cons (pg_nameT (i := 1) L rfl (List.mem_cons_of_mem _ List.mem_cons_self)) pgs_nil))
end L2
namespace PySem.W
open PySem PySem.Calls PyProof.Rows PyProof.V PySem.Spec
section
variable {prog : Program} {w : World} {A : Around} {E : Value → Shared → Prop}
variable {K : Type} [DecidableEq K] {knd : KeyKind prog w K}
def storedAll (kvs : List (K × Value)) (ps : List (K × Value)) : List (K × Value) := ps.foldl (fun acc p => stored acc p.1 p.2) kvs
end
end PySem.W
namespace L2
open PySem PySem.Spec PyProof.Rows L3
section
variable {X : Cx}
def putAll (kvs : List (Key × V)) (ps : List (Key × V)) : List (Key × V) := ps.foldl (fun acc p => putK acc p.1 p.2) kvs
theorem KV.putAll : ∀ {ps : List (Key × V)} {qs : List (Key × Value)} {kvs : List (Key × V)} {vs : List (Key × Value)}, KV ps qs → KV kvs vs → KV (putAll kvs ps) (PySem.W.storedAll vs qs) := by
 intro ps qs kvs vs r
 unfold KV at r
 induction r generalizing kvs vs with
 | nil => intro q; exact q
 | @cons p q ps qs h t ih =>
   intro r0
   have e : KV (putK kvs p.1 p.2) (stored vs q.1 q.2) := by
     have := r0.put p.1 h.2
     rw [← h.1]
     exact this
   exact ih e
end
end L2
namespace PySem.W
open PySem PySem.Calls PyProof.Rows PyProof.V PySem.Spec
section
variable {prog : Program} {w : World} {A : Around} {E : Value → Shared → Prop} {s : Shared} {r l : Addr} {items : Array Value}
end
end PySem.W
namespace L2
open PySem PySem.Spec PyProof.Rows L3
section
variable {X : Cx}
end
end L2
namespace L2
open PySem PySem.Spec PyProof.Rows L3
def DefX (K : PySem.W.Frag) (C : Addr) (qual : Str) (st : Stmt) : Prop := ∃ f fd, FunD K "__init__" qual st f fd .none ∧ PySem.W.findIn K (.ref C) "__init__" = some (some (.ref f)) ∧ PySem.W.isFn K (.ref f) = true
def CalX (P : Program) (w : World) (K : PySem.W.Frag) (mg : Str → Option Value) (base : Heap) (cm : Bool) (k : Nat) (C : Addr) (ps : List Str) (sp : Sp) : Prop :=
 ∃ f fd, PySem.W.findIn K (.ref C) "__init__" = some (some (.ref f)) ∧ PySem.W.isFn K (.ref f) = true ∧ FnOk P w K mg base CX0 cm k f fd ps sp ∧ Binds K fd ps []
section
variable {X : Cx}
end
end L2
namespace L2
open PySem PySem.W PyProof.Rows
structure Ord (n : Nat) (lt : Nat → Nat → Bool) : Prop where
 tri : ∀ i j, i < n → j < n → i ≠ j → lt i j = !lt j i
 tr : ∀ i j k, i < n → j < n → k < n → lt i j = true → lt j k = true → lt i k = true
structure PermN (n : Nat) (p : Array Nat) : Prop where
 pm : p.toList.Perm (List.range n)
theorem PermN.size {n : Nat} {p : Array Nat} (h : PermN n p) : p.size = n := by
 have := h.pm.length_eq
 simpa using this
theorem gD {p : Array Nat} {i : Nat} (h : i < p.size) : p.getD i 0 = p[i] := by
 rw [Array.getD_eq_getD_getElem?, Array.getElem?_eq_getElem h]
 rfl
theorem PermN.lt {n : Nat} {p : Array Nat} (h : PermN n p) {i : Nat} (hi : i < n) : p.getD i 0 < n := by
 rw [gD (by rw [h.size]; exact hi)]
 have : p[i]'(by rw [h.size]; exact hi) ∈ p.toList := by simp
 exact List.mem_range.mp (h.pm.mem_iff.mp this)
theorem PermN.inj {n : Nat} {p : Array Nat} (h : PermN n p) {i j : Nat} (hi : i < n) (hj : j < n) (hne : i ≠ j) : p.getD i 0 ≠ p.getD j 0 := by
 have hi' : i < p.toList.length := by rw [Array.length_toList, h.size]; exact hi
 have hj' : j < p.toList.length := by rw [Array.length_toList, h.size]; exact hj
 have nd : p.toList.Nodup := h.pm.nodup_iff.mpr List.nodup_range
 rw [gD (by rw [h.size]; exact hi), gD (by rw [h.size]; exact hj)]
 intro e
 exact hne ((List.getElem_inj (h₀ := hi') (h₁ := hj') nd).mp (by simpa using e))
def Up (lt : Nat → Nat → Bool) (p : Array Nat) (m : Nat) : Prop := ∀ i j, i < j → j < m → lt (p.getD i 0) (p.getD j 0) = true
def Dn (lt : Nat → Nat → Bool) (p : Array Nat) (m : Nat) : Prop := ∀ i j, i < j → j < m → lt (p.getD j 0) (p.getD i 0) = true
section
variable {n : Nat} {lt : Nat → Nat → Bool} {cmp : Nat → Nat → (Bool → Shared → Prop) → Shared → Prop} {s : Shared}
theorem Up.next (O : Ord n lt) {p : Array Nat} (P : PermN n p) {m : Nat} (h1 : 1 ≤ m) (hm : m < n) (u : Up lt p m) (h : lt (p.getD (m - 1) 0) (p.getD m 0) = true) : Up lt p (m + 1) := by
 intro i j hij hj
 by_cases e : j = m
 · subst e
   by_cases e2 : i = j - 1
   · subst e2; exact h
   · exact O.tr _ _ _ (P.lt (by omega)) (P.lt (by omega)) (P.lt hm) (u i (j - 1) (by omega) (by omega)) h
 · exact u i j hij (by omega)
theorem Dn.next (O : Ord n lt) {p : Array Nat} (P : PermN n p) {m : Nat} (h1 : 1 ≤ m) (hm : m < n) (u : Dn lt p m) (h : lt (p.getD m 0) (p.getD (m - 1) 0) = true) : Dn lt p (m + 1) := by
 intro i j hij hj
 by_cases e : j = m
 · subst e
   by_cases e2 : i = j - 1
   · subst e2; exact h
   · exact O.tr _ _ _ (P.lt hm) (P.lt (by omega)) (P.lt (by omega)) h (u i (j - 1) (by omega) (by omega))
 · exact u i j hij (by omega)
end
end L2
namespace L2
open PySem PySem.W PySem.Spec PyProof.Rows L3
section
variable {prog : Program} {w : World} {s : Shared} {A : Around} {E : Value → Shared → Prop}
theorem RawD.stay {h h' : Heap} {d : Addr} {es : Array DictEntry} {ep : Nat} (x : RawD h d es ep) (k : ∀ o, h.get? d = some o → h'.get? d = some o) : RawD h' d es ep := by
 obtain ⟨o, ho, r⟩ := x
 exact ⟨o, k o ho, r⟩
theorem RawD.lt {h : Heap} {d : Addr} {es : Array DictEntry} {ep : Nat} (x : RawD h d es ep) : d < h.objs.size := by
 obtain ⟨o, ho, _⟩ := x
 exact Heap.lt_size ho
end
end L2
namespace L2
open PySem PySem.W PySem.Spec PyProof.Rows L3
section
variable {prog : Program} {w : World} {s : Shared} {A : Around} {E : Value → Shared → Prop}
end
end L2
namespace L2
open PySem PySem.W PySem.Spec PyProof.Rows L3
section
variable {prog : Program} {w : World} {s : Shared} {A : Around} {E : Value → Shared → Prop}
end
end L2
namespace L2
open PySem PySem.W PySem.Spec PyProof.Rows L3
section
variable {prog : Program} {w : World} {s : Shared} {A : Around} {E : Value → Shared → Prop}
def TwoAt (h : Heap) (a : Addr) (k : Str × Str) : Prop := ∃ o n t u, h.get? a = some o ∧ o.cls = .type "tuple" ∧ o.data = .seq #[.str k.1 t, .str k.2 u] n
inductive TwosAt (h : Heap) : List Addr → List (Str × Str) → Prop where
 | nil : TwosAt h [] []
 | cons {a : Addr} {k : Str × Str} {as : List Addr} {ks : List (Str × Str)} (x : TwoAt h a k) (r : TwosAt h as ks) : TwosAt h (a :: as) (k :: ks)
theorem TwosAt.keep {h h' : Heap} (kp : ∀ b o, h.get? b = some o → h'.get? b = some o) : ∀ {as : List Addr} {ks : List (Str × Str)}, TwosAt h as ks → TwosAt h' as ks
 | _, _, .nil => .nil
 | _, _, .cons ⟨o, n, t, u, e, r⟩ x => .cons ⟨o, n, t, u, kp _ _ e, r⟩ (x.keep kp)
theorem TwosAt.len {h : Heap} : ∀ {as : List Addr} {ks : List (Str × Str)}, TwosAt h as ks → as.length = ks.length
 | _, _, .nil => rfl
 | _, _, .cons _ r => congrArg (· + 1) r.len
theorem TwosAt.at {h : Heap} : ∀ {as : List Addr} {ks : List (Str × Str)} (i : Nat), TwosAt h as ks → i < as.length → ∃ a, (as.map Value.ref).getD i Value.none = .ref a ∧ TwoAt h a (ks.getD i ("", ""))
 | _, _, i, .nil, hi => absurd hi (Nat.not_lt_zero _)
 | _, _, 0, .cons x _, _ => ⟨_, rfl, x⟩
 | _, _, i + 1, .cons _ r, hi => by
   obtain ⟨a, e, x⟩ := r.at i (by simpa using hi)
   exact ⟨a, by simpa [List.getD] using e, by simpa [List.getD] using x⟩
theorem TwosAt.kats {h : Heap} : ∀ {as : List Addr} {ks : List (Str × Str)}, TwosAt h as ks → ∃ fs : List Value, fs.length = ks.length ∧ (∀ v ∈ fs, ∃ x t, v = .str x t) ∧ KatTups h (as.map Value.ref) fs
 | _, _, .nil => ⟨[], rfl, (fun v hv => nomatch hv), KatTups.nil⟩
 | _, _, .cons ⟨o, n, t, u, e, c, d⟩ r => by
   obtain ⟨fs, h1, h2, h3⟩ := r.kats
   refine ⟨_ :: fs, congrArg (· + 1) h1, fun v hv => ?_, KatTups.cons e c d rfl h3⟩
   rcases List.mem_cons.mp hv with z | z
   · exact ⟨_, _, z⟩
   · exact h2 v z
end
end L2
namespace L2
open PySem PySem.W PySem.Spec PyProof.Rows L3
section
variable {X : Cx}
theorem two_of {pins : List (Addr × Obj)} {σ : St} {H : Hp} {s : Shared} (I : Inv X pins σ H s) {a : Addr} {k : Str × Str} (h : H a = some (.tup [.str k.1, .str k.2])) : TwoAt s.heap a k := by
 obtain ⟨its, r, ⟨o, e, c, n, d⟩, _⟩ := I.tuple (SqT.of h)
 cases r with
 | cons r1 rr =>
   cases rr with
   | cons r2 r3 =>
     cases r3
     obtain ⟨t, rfl⟩ := r1
     obtain ⟨u, rfl⟩ := r2
     exact ⟨o, n, t, u, e, c, d⟩
end
end L2
namespace L2
open PySem PySem.Spec PyProof.Rows L3
section
variable {X : Cx}
end
end L2
namespace L2
open PySem PySem.Spec PyProof.Rows L3
end L2
namespace L2
open PySem PySem.Spec PyProof.Rows L3
section
variable {X : Cx}
theorem ps_setLCT {i : Nat} {t : Str} {elt iter tg : Expr} {g : TG} {xs : List Str} {pos cpos pos' : Pos} {scope : Scope} {cl : List (Str × Addr)} {wi : TI} {te : TE} (js : List Nat) (hN : X.N.Nodup) (hi' : X.N[i]? = some t) (hx : Loc X.env.scope t) (hc : X.calm = true) (L : LcOkT X xs scope cl js) (hi : PI X tg iter wi)
   (hg : ∀ C s2 H2 fp xe, PG (X.inC scope cl C s2 H2 fp (xs ++ js.map (fun j => X.N.getD j "")) xe) tg g)
   (he : ∀ C s2 H2 fp xe, PE (X.inC scope cl C s2 H2 fp (xs ++ js.map (fun j => X.N.getD j "")) xe) elt te)
   (hs : ∀ z, foldedSetIterable iter X.env z = pure z := by intro _; rfl) (hsw : swapsWith (.ListComp elt [⟨tg, iter, [], 0⟩] scope cpos) (some (.Name t pos')) pos.line X.env = pure true := by rfl)
   (hf : X.fn t = true ∨ X.env.scope.names.lookup t = some .local := by first | exact .inl rfl | exact .inr rfl | assumption) :
   PS X (.Assign [.Name t pos'] (.ListComp elt [⟨tg, iter, [], 0⟩] scope cpos) pos) (tAsg (tLCT wi g te xs.length js) (gName i)) := by
 intro pins s σ H D I h
 rw [exec_Assign_Name_used _ _ _ _ hsw]
 refine wpAny_bind (wpAny_standAt (wpAny_bind ?_))
 show wpAny _ X.A (do let _ ← comprehension (.ListComp elt [⟨tg, iter, [], 0⟩] scope cpos) scope X.env _ (newList []) false (eval iter X.env) (some (assign (.Name t pos') X.env))) _ _ s
 refine wpAny_bind (wpAny_mono (lcT_core (use := some (assign (.Name t pos') X.env)) (Qc := fun _ s' => SP X pins D .next s') hc L hi hg he hs I h fun Dl C H4 s4 m hn fC I4 q => ?_) (fun _ s' hq => wpAny_pure (wpAny_pure hq)) fun _ _ e => e)
 show wpAny (model X.prog X.w) X.A (assign (.Name t pos') X.env (.ref Dl)) _ X.xe s4
 obtain ⟨oC, es, ep, hoC, hdC, rC⟩ := id hn
 have I4' : Inv X (pins ++ pinsAt [C] s4.heap) σ H4 s4 := (I4 s4.heap (.refl ..)).pinned (fun b hb => by rw [List.mem_singleton.mp hb]; exact fC) fun b hb => by
   rw [List.mem_singleton.mp hb]
   exact ⟨oC, hoC, fun v z => by rw [hdC] at z; cases z⟩
 refine thn (pg_name hN hi' hx hf _ s4 σ H4 (.ref Dl) (.ref Dl) D.nx I4' rfl q) fun _ s5 ⟨σ5, H5, I5, q5⟩ => ?_
 obtain ⟨e5, n5, _⟩ := I5.pin (C, oC) (List.mem_append_right _ (List.mem_append_right _ (mem_pinsAt (List.mem_singleton.mpr rfl) hoC)))
 refine ⟨m, ⟨oC, es, ep, e5, hdC, rC⟩, fun h' sb => ⟨σ5, H5, ?_, q5⟩⟩
 obtain ⟨_, f1, _, f3, f4, f5⟩ := fC
 exact I5.unpinned.turned (t' := s5.toks) (it := C) (fun b o hb e => (sb.2 b hb).trans e) n5 f1 f3 f4 f5
end
end L2
namespace L2
open PySem PySem.Spec PyProof.Rows L3
section
variable {X : Cx}
end
end L2
namespace L2
open PySem PySem.Spec PyProof.Rows L3
def ItE (K : PySem.W.Frag) (a : Addr) : It :=
 ⟨fun i H => ∃ xs x, SqL K H a xs ∧ xs[i]? = some x, fun i H x H' => ∃ t y, x = .ref t ∧ H t = none ∧ H' = upd H t (.tup [.int (i : Int), y]) ∧ ∀ xs, SqL K H a xs → xs[i]? = some y, fun i H => ∃ xs, SqL K H a xs ∧ xs.length ≤ i⟩
theorem turn_enum {P : Program} {w : World} {K : PySem.W.Frag} {elts : List Expr} {x1} {pos : Pos} (a e it : Addr) (hne : e ≠ it) : Turn P w K (.Tuple elts x1 pos) (ItE K a) [e, it] e (fun i h => ∃ old, IsEnum h e it (i : Int) old ∧ h.IsListIter it a i) where
 mem := by simp
 obj := fun i h st b hb => by
   obtain ⟨old, he, o, ho, hc, hd⟩ := st
   rcases List.mem_cons.mp hb with z | z
   · subst z
     exact ⟨_, he, fun v z => by
       have z' : Data.fields _ = Data.cell v := z
       cases z'⟩
   · rw [List.mem_singleton.mp z]
     exact ⟨o, ho, fun v z => by rw [hd] at z; cases z⟩
 keep := fun i h h' st k => by
   obtain ⟨old, he, hi⟩ := st
   exact ⟨old, k e (by simp) _ he, hi.at fun o q => k it (by simp) o q⟩
 item := by
   intro X hP hw hK hc i pins s σ H E I hf st hg
   subst hP hw hK
   obtain ⟨xs, x, hq, hx⟩ := hg
   obtain ⟨its, rv, p, hz⟩ := I.list hq
   obtain ⟨u, hu, ru⟩ := rv.get hx
   obtain ⟨old, he, hi⟩ := st
   obtain ⟨f0, f1, f2, f3, f4, f5⟩ := hf it (by simp)
   obtain ⟨g0, g1, g2, g3, g4, g5⟩ := hf e (by simp)
   refine wpAny_pyNext_enum_item he hi p.isList (x := u) (by simpa using hu) hne fun h1 heo hit1 ht1 hz1 hk1 => ?_
   refine ⟨_, rfl, wpAny_letOwnedTupleGo_enum heo fun h2 he2 hs2 => ?_⟩
   replace hs2 : Heap.SameBut e h1 h2 := hs2
   have hit2 : h2.IsListIter it a (i + 1) := hit1.at fun o q => (hs2.2 it (Ne.symm hne)).trans q
   obtain ⟨oi, hoi, _, _⟩ := id hi
   obtain ⟨oi2, hoi2, hic2, hid2⟩ := id hit2
   have le : e < s.heap.objs.size := Heap.lt_size he
   have li : it < s.heap.objs.size := Heap.lt_size hoi
   have gA : (s.heap.update it (fun _ => oi2)).get? it = some oi2 := Heap.get?_update_self (fun _ => oi2) hoi (Obj.isFreed_of_fields hid2)
   have oA : ∀ b, b ≠ it → (s.heap.update it (fun _ => oi2)).get? b = s.heap.get? b := fun b hb => Heap.get?_update_other _ _ (Ne.symm hb)
   have IA : Inv X pins σ H { s with heap := s.heap.update it (fun _ => oi2), toks := s.toks } := I.turned (t' := s.toks) (it := it) (fun b o hb q => (oA b hb).trans q) f0 f1 f3 f4 f5
   generalize hA : s.heap.update it (fun _ => oi2) = HA at gA oA IA
   have zA : HA.objs.size = s.heap.objs.size := by rw [← hA]; exact Heap.size_after_update ..
   obtain ⟨oe2, hoe2⟩ : ∃ o, h2.get? e = some o := ⟨_, he2⟩
   have hfe : oe2.isFreed = false := by
     have : oe2 = _ := Option.some.inj (hoe2.symm.trans he2)
     rw [this]
     exact Obj.isFreed_of_fields rfl
   have gB : (HA.update e (fun _ => oe2)).get? e = some oe2 := Heap.get?_update_self (fun _ => oe2) ((oA e hne).trans he) hfe
   have oB : ∀ b, b ≠ e → (HA.update e (fun _ => oe2)).get? b = HA.get? b := fun b hb => Heap.get?_update_other _ _ (Ne.symm hb)
   have IB := IA.turned (t' := s.toks) (it := e) (h' := HA.update e (fun _ => oe2)) (fun b o hb q => (oB b hb).trans q) g0 g1 g3 g4 g5
   have zB : (HA.update e (fun _ => oe2)).objs.size = s.heap.objs.size := by rw [← zA]; exact Heap.size_after_update ..
   generalize HA.update e (fun _ => oe2) = HB at gB oB IB zB
   have kB : ∀ b o, HB.get? b = some o → h2.get? b = some o := fun b o q => by
     by_cases be : b = e
     · subst be
       rw [gB] at q
       cases q
       exact hoe2
     · rw [oB b be] at q
       by_cases bi : b = it
       · subst bi
         rw [gA] at q
         cases q
         exact hoi2
       · rw [oA b bi] at q
         exact (hs2.2 b be).trans (hk1 b o be bi q)
   have hT : h2.get? s.heap.objs.size = some { cls := .type "tuple", data := .seq #[.int i s.toks, u] } := (hs2.2 _ (Nat.ne_of_gt le)).trans ht1
   have IC := IB.laid (a := s.heap.objs.size) (o := .tup [.int (i : Int), x]) (t' := s.toks + 1) (h' := h2) kB (Nat.le_of_eq zB) ⟨(by show 2 ≤ sizeLine; decide), [.int i s.toks, u], .cons ⟨s.toks, rfl⟩ (.cons ru .nil), ⟨_, hT, rfl, _, rfl⟩⟩
   refine ⟨.ref s.heap.objs.size, _, IC, rfl, ⟨_, x, rfl, I.hok.fresh (Nat.le_refl _), rfl, fun ys hy => by rw [I.list_inj hy hq]; exact hx⟩, ⟨_, he2, hit2⟩, fun b hb => ?_⟩
   have bl : b < s.heap.objs.size := by
     rcases List.mem_cons.mp hb with z | z
     · rw [z]; exact le
     · rw [List.mem_singleton.mp z]; exact li
   rw [upd_ne (Nat.ne_of_lt bl)]
   exact (hf b hb).1
 done := by
   intro X hP hw hK hc i pins s σ H E I hf st hg
   subst hP hw hK
   obtain ⟨xs, hq, hx⟩ := hg
   obtain ⟨its, rv, p, hz⟩ := I.list hq
   obtain ⟨old, he, hi⟩ := st
   obtain ⟨f0, f1, f2, f3, f4, f5⟩ := hf it (by simp)
   have hl := rv.length
   exact wpAny_pyNext_enum_end (I.ok.hd hc) he hi p.isList (by simp; omega) fun h' eb => ⟨rfl, I.turned (t' := s.toks) (fun b o hb e => eb b o hb e) f0 f1 f3 f4 f5⟩
 self := fun _ _ _ _ _ st h => by
   obtain ⟨old, he, hi⟩ := st
   exact wpAny_pyIter_enum he h
section
variable {X : Cx}
def iEnum (K : PySem.W.Frag) (ta : TA) : TI := fun σ H R => ta σ H fun vs H1 => ∃ a, vs = [.ref a] ∧ (∃ xs, SqL K H1 a xs) ∧ R (ItE K a) H1
theorem pi_enum {l : Expr} {elts : List Expr} {x1} {tp : Pos} {ta : TA} {p pos : Pos} (hg : Gl X "enumerate") (hm : X.mg "enumerate" = none) (ha : PA X [l] ta) (hs : starEach [l] X.env = [(false, eval l X.env)] := by rfl) :
   PI X (.Tuple elts x1 tp) (.Call (.Name "enumerate" p) [l] [] pos) (iEnum X.K ta) := by
 intro pins s σ H R I h
 refine Call_ (ld_blt I hg hm boot_enumerate (PyProof.Rows.callWith_type1 (thn (ha pos pins s σ H _ I h) fun us s1 ⟨vs, H1, I1, r1, q1⟩ => ?_) hs rfl))
 obtain ⟨a, e, ⟨xs, hq⟩, q⟩ := q1
 subst e
 cases r1 with
 | cons r rr =>
   cases rr
   cases r
   obtain ⟨its, rv, p, hz⟩ := I1.list hq
   refine call_enumerate_list p.isList fun h' he hit hsz hk => ?_
   refine wpAny_pyIter_enum he ?_
   refine ⟨s1.heap.objs.size + 1, [s1.heap.objs.size + 1, s1.heap.objs.size], _, _, H1, rfl, I1.kept (t' := s1.toks) hk, turn_enum a _ _ (Nat.succ_ne_self _), ⟨.none, he, hit⟩, fun b hb => ?_, q⟩
   rcases List.mem_cons.mp hb with z | z
   · rw [z]
     exact I1.fpOk (Nat.le_succ _) (I1.hok.fresh (Nat.le_succ _))
   · rw [List.mem_singleton.mp z]
     exact I1.fpOk (Nat.le_refl _) (I1.hok.fresh (Nat.le_refl _))
theorem for_enum {K : PySem.W.Frag} {a : Addr} {xs : List V} {g : TG} {tb : TS} {D : Ends} {σ : St} {H : Hp} (Pv : Nat → St → Hp → Prop) (h0 : Pv 0 σ H) (hl : ∀ i σ H, i ≤ xs.length → Pv i σ H → SqL K H a xs)
   (hs : ∀ i x σ H t, xs[i]? = some x → Pv i σ H → H t = none → g (.ref t) σ (upd H t (.tup [.int (i : Int), x])) fun σ2 H2 => tb { D with nx := Pv (i + 1), ct := Pv (i + 1), bk := D.nx } σ2 H2) (hd : ∀ σ H, Pv xs.length σ H → D.nx σ H) :
   ∃ W : Nat → Nat → St → Hp → Prop, (∃ m, W 0 m σ H) ∧ ∀ i m σ H, W i m σ H →
     ((ItE K a).stop i H ∧ D.nx σ H) ∨ ((ItE K a).go i H ∧ ∃ N : St → Hp → Prop, (∀ σ' H', N σ' H' → ∃ m', m' < m ∧ W (i + 1) m' σ' H') ∧ ∀ x H', (ItE K a).yld i H x H' → g x σ H' fun σ2 H2 => tb { D with nx := N, ct := N, bk := D.nx } σ2 H2) := by
 refine ⟨fun i m σ H => m = xs.length - i ∧ i ≤ xs.length ∧ Pv i σ H, ⟨xs.length, by simp, Nat.zero_le _, h0⟩, ?_⟩
 rintro i m σ H ⟨rfl, hi, p⟩
 have q := hl i σ H hi p
 by_cases hlt : i < xs.length
 · refine .inr ⟨⟨xs, xs[i], q, by simp [hlt]⟩, Pv (i + 1), fun σ' H' p' => ⟨xs.length - (i + 1), by omega, rfl, hlt, p'⟩, fun x H' y => ?_⟩
   obtain ⟨t, y, rfl, ht, rfl, hy⟩ := y
   exact hs i y σ H t (hy xs q) p ht
 · have e : i = xs.length := by omega
   subst e
   exact .inl ⟨⟨xs, q, Nat.le_refl _⟩, hd σ H p⟩
def eqP (K : PySem.W.Frag) (H : Hp) (x y : V) : Prop := ∃ a b xs, x = .ref a ∧ y = .ref b ∧ SqL K H a xs ∧ SqL K H b xs ∧ ∀ z ∈ xs, eqPl z = true
theorem Inv.eqP {pins : List (Addr × Obj)} {σ : St} {H : Hp} {s : Shared} {x y : V} {v u : Value} {A : Around} (I : Inv X pins σ H s) (hu : A.units < cLine) (e : eqP X.K H x y) (rx : RelV x v) (ry : RelV y u) : SeqAt.EqAt A s v u true := by
 obtain ⟨a, b, xs, rfl, rfl, ha, hb, hp⟩ := e
 cases rx
 cases ry
 by_cases hab : a = b
 · subst hab
   exact SeqAt.EqAt.same _
 obtain ⟨its, r, pl, hz⟩ := I.list ha
 obtain ⟨its2, r2, pl2, hz2⟩ := I.list hb
 have l1 := r.length
 have l2 := r2.length
 have h := SeqAt.RcAt.lists (A := A) (e := fun _ => true) pl.isList pl2.isList (by simp only [List.size_toArray]; omega) hu (fun j h1 h2 => by
   simp only [List.size_toArray] at h1 h2
   obtain ⟨x, e, rx⟩ := vals_at r j h1
   obtain ⟨x2, e2, rx2⟩ := vals_at r2 j h2
   rw [e] at e2
   cases e2
   simp only [List.getElem_toArray]
   exact eqAt_self (hp x (List.mem_of_getElem? e)) rx rx2)
 rw [show ((List.range its.toArray.size).all fun _ => true) = true by simp] at h
 exact SeqAt.EqAt.of_refs hab h
theorem op_neP {cm : Bool} {k : Nat} (hr : Room cm k X.A) : OpR X (compareOp .NotEq) (fun x y H Q => ∃ a b xs ys, x = .ref a ∧ y = .ref b ∧ SqL X.K H a xs ∧ SqL X.K H b ys ∧ xs.length = ys.length ∧ (∀ (j : Nat) x y, xs[j]? = some x → ys[j]? = some y → eqP X.K H x y) ∧ Q (.bl false) H) := by
 intro pins s σ H x y v u Q I rx ry h
 obtain ⟨a, b, xs, ys, rfl, rfl, ha, hb, hl, he, q⟩ := h
 cases rx
 cases ry
 obtain ⟨its, r, pl, hz⟩ := I.list ha
 obtain ⟨its2, r2, pl2, hz2⟩ := I.list hb
 have l1 := r.length
 have l2 := r2.length
 have hu : X.A.units < cLine := by have := hr.un; omega
 have hu1 : X.A.in1.units < cLine := by have := hr.un; show X.A.units + 1 < cLine; omega
 refine SeqAt.RcNeAt.lists (e := fun _ => true) pl.isList pl2.isList (by simp only [List.size_toArray]; omega) hu (fun j h1 h2 => ?_) _ _ _ _ ?_
 · simp only [List.size_toArray] at h1 h2
   obtain ⟨x, e, rx⟩ := vals_at r j h1
   obtain ⟨x2, e2, rx2⟩ := vals_at r2 j h2
   simp only [List.getElem_toArray]
   exact I.eqP hu1 (he j x x2 e e2) rx rx2
 · rw [show ((List.range its.toArray.size).all fun _ => true) = true by simp]
   exact ⟨.bl false, H, I, rfl, q⟩
end
end L2
namespace PySem.W
open PySem
section
variable {prog : Program} {w : World} {A : Around} {E : Value → Shared → Prop} {s : Shared}
end
end PySem.W
namespace L2
open PySem PySem.W PySem.Spec PyProof.Rows L3
section
variable {X : Cx}
end
end L2
namespace L2
open PySem PySem.W PySem.Spec PyProof.Rows L3
section
variable {X : Cx} {CX : CXT} {cm : Bool} {k : Nat} {f C : Addr} {fd : FuncData} {ps : List Str} {sp : Sp} {dvs : List V} {ds : List Value} {E : XK} {x m : Str} {p pos apos : Pos} {e : Expr} {es : List Expr} {t : TA} {mc : Value}
end
theorem call_list_ofC {X : Cx} {scope : Scope} {cl : List (Str × Addr)} {C : Addr} {s2 : Shared} {H2 : Hp} {fp : List Addr} {N' : List Str} {xe : Value → Shared → Prop} : CallR (X.inC scope cl C s2 H2 fp N' xe) (.type "list") (fun xs H Q => ∃ p ys, xs = [.ref p] ∧ (SqL X.K H p ys ∨ SqT X.K H p ys) ∧ ∀ l, H l = none → Q (.ref l) (upd H l (.lst ys))) := call_list_of (X := X.inC scope cl C s2 H2 fp N' xe)
end L2
namespace L2
open PySem PySem.W PySem.Spec PyProof.Rows L3
section
variable {X : Cx}
def eqLi (K : PySem.W.Frag) (H : Hp) (x y : V) : Prop := ∃ a b xs ys, x = .ref a ∧ y = .ref b ∧ SqL K H a xs ∧ SqL K H b ys ∧ EqLs K H xs ys
theorem Inv.eqLi {pins : List (Addr × Obj)} {σ : St} {H : Hp} {s : Shared} {x y : V} {v u : Value} {A : Around} (I : Inv X pins σ H s) (hu : A.units < cLine) (hu1 : A.in1.units < cLine) (e : eqLi X.K H x y) (rx : RelV x v) (ry : RelV y u) : SeqAt.EqAt A s v u true := by
 obtain ⟨a, b, xs, ys, rfl, rfl, ha, hb, hl, he⟩ := e
 cases rx
 cases ry
 by_cases hab : a = b
 · subst hab
   exact SeqAt.EqAt.same _
 obtain ⟨its, r, pl, hz⟩ := I.list ha
 obtain ⟨its2, r2, pl2, hz2⟩ := I.list hb
 have l1 := r.length
 have l2 := r2.length
 have h := SeqAt.RcAt.lists (A := A) (e := fun _ => true) pl.isList pl2.isList (by simp only [List.size_toArray]; omega) hu (fun j h1 h2 => by
   simp only [List.size_toArray] at h1 h2
   obtain ⟨x, e, rx⟩ := vals_at r j h1
   obtain ⟨x2, e2, rx2⟩ := vals_at r2 j h2
   simp only [List.getElem_toArray]
   exact I.eqT hu1 (he j x x2 e e2) rx rx2)
 rw [show ((List.range its.toArray.size).all fun _ => true) = true by simp] at h
 exact SeqAt.EqAt.of_refs hab h
end
end L2
namespace L2
open PySem PySem.W PySem.Spec PyProof.Rows L3
section
variable {X : Cx} {CX : CXT} {cm : Bool} {k : Nat} {E : XK} {m : Str} {pos apos : Pos} {o : Expr} {ta : TE}
end
end L2
namespace L2
open PySem PySem.W PySem.Spec PyProof.Rows L3
section
variable {X : Cx}
def eqTu (K : PySem.W.Frag) (H : Hp) (x y : V) : Prop := ∃ a b xs ys, x = .ref a ∧ y = .ref b ∧ SqT K H a xs ∧ SqT K H b ys ∧ xs.length = ys.length ∧ ∀ (j : Nat) x y, xs[j]? = some x → ys[j]? = some y → eqT K H x y ∨ eqLi K H x y
theorem Inv.eqTu {pins : List (Addr × Obj)} {σ : St} {H : Hp} {s : Shared} {x y : V} {v u : Value} {A : Around} (I : Inv X pins σ H s) (w0 : A.units < cLine) (w1 : A.in1.units < cLine) (w2 : A.in1.in1.units < cLine) (t : eqTu X.K H x y) (rx : RelV x v) (ry : RelV y u) : SeqAt.EqAt A s v u true := by
 obtain ⟨a, b, xs, ys, rfl, rfl, ha, hb, hl, he⟩ := t
 cases rx
 cases ry
 by_cases hab : a = b
 · subst hab
   exact SeqAt.EqAt.same _
 obtain ⟨i1, r1, p1, z1⟩ := I.tuple ha
 obtain ⟨i2, r2, p2, z2⟩ := I.tuple hb
 have n1 := r1.length
 have n2 := r2.length
 have h := SeqAt.RcAt.tuples (A := A) (e := fun _ => true) (show s.heap.IsTuple a i1.toArray from p1) (show s.heap.IsTuple b i2.toArray from p2) w0 (fun j h1 h2 => by
   simp only [List.size_toArray] at h1 h2
   obtain ⟨x, e, rx⟩ := vals_at r1 j h1
   obtain ⟨x2, e2, rx2⟩ := vals_at r2 j h2
   simp only [List.getElem_toArray]
   rcases he j x x2 e e2 with w | w
   · exact I.eqT w1 w rx rx2
   · exact I.eqLi w1 w2 w rx rx2)
 rw [show ((List.range (min i1.toArray.size i2.toArray.size)).all (fun _ => true) && i1.toArray.size == i2.toArray.size) = true by
   simp only [List.size_toArray]
   rw [← n1, ← n2, hl]
   simp] at h
 exact SeqAt.EqAt.of_refs hab h
theorem op_neV {cm : Bool} {k : Nat} (hr : Room cm k X.A) : OpR X (compareOp .NotEq) (fun x y H Q => ∃ a b xs ys, x = .ref a ∧ y = .ref b ∧ SqL X.K H a xs ∧ SqL X.K H b ys ∧ xs.length = ys.length ∧ (∀ (j : Nat) x y, xs[j]? = some x → ys[j]? = some y → eqTu X.K H x y) ∧ Q (.bl false) H) := by
 intro pins s σ H x y v u Q I rx ry h
 obtain ⟨a, b, xs, ys, rfl, rfl, ha, hb, hl, he, q⟩ := h
 cases rx
 cases ry
 obtain ⟨i1, r1, p1, z1⟩ := I.list ha
 obtain ⟨i2, r2, p2, z2⟩ := I.list hb
 have n1 := r1.length
 have n2 := r2.length
 have w0 : X.A.units < cLine := by have := hr.un; omega
 have w1 : X.A.in1.units < cLine := by have := hr.un; show X.A.units + 1 < cLine; omega
 have w2 : X.A.in1.in1.units < cLine := by have := hr.un; show X.A.units + 1 + 1 < cLine; omega
 have w3 : X.A.in1.in1.in1.units < cLine := by have := hr.un; show X.A.units + 1 + 1 + 1 < cLine; omega
 refine SeqAt.RcNeAt.lists (e := fun _ => true) p1.isList p2.isList (by simp only [List.size_toArray]; omega) w0 (fun j h1 h2 => ?_) _ _ _ _ ?_
 · simp only [List.size_toArray] at h1 h2
   obtain ⟨x, e, rx⟩ := vals_at r1 j h1
   obtain ⟨x2, e2, rx2⟩ := vals_at r2 j h2
   simp only [List.getElem_toArray]
   exact I.eqTu w1 w2 w3 (he j x x2 e e2) rx rx2
 · rw [show ((List.range i1.toArray.size).all fun _ => true) = true by simp]
   exact ⟨.bl false, H, I, rfl, q⟩
end
end L2
namespace L2
open PySem PySem.W PySem.Spec PyProof.Rows L3
section
variable {X : Cx}
theorem eqV_self {x : V} (h : flatV x = true) : eqV x x = true := by
 cases x <;> simp_all [flatV, eqV]
def tupB (xs ys : List V) : Bool := (List.range (min xs.length ys.length)).all (fun j => match xs[j]?, ys[j]? with | some x, some y => eqV x y | _, _ => true) && xs.length == ys.length
theorem tupB_self {xs : List V} (h : ∀ v ∈ xs, flatV v = true) : tupB xs xs = true := by
 unfold tupB
 rw [Bool.and_eq_true]
 refine ⟨List.all_eq_true.mpr fun j hj => ?_, by simp⟩
 have hj2 : j < xs.length := by simpa using hj
 rw [List.getElem?_eq_getElem hj2]
 exact eqV_self (h _ (List.getElem_mem hj2))
def eqTB (K : PySem.W.Frag) (H : Hp) (x y : V) (b : Bool) : Prop := ∃ a c xs ys, x = .ref a ∧ y = .ref c ∧ SqT K H a xs ∧ SqT K H c ys ∧ (∀ v ∈ xs, flatV v = true) ∧ (∀ v ∈ ys, flatV v = true) ∧ (a = c → xs = ys) ∧ b = tupB xs ys
theorem Inv.eqTB {pins : List (Addr × Obj)} {σ : St} {H : Hp} {s : Shared} {x y : V} {v u : Value} {b : Bool} {A : Around} (I : Inv X pins σ H s) (w0 : A.units < cLine) (t : eqTB X.K H x y b) (rx : RelV x v) (ry : RelV y u) : SeqAt.EqAt A s v u b := by
 obtain ⟨a, c, xs, ys, rfl, rfl, ha, hb, fx, fy, hs, rfl⟩ := t
 cases rx
 cases ry
 by_cases hab : a = c
 · subst hab
   rw [← hs rfl, tupB_self fx]
   exact SeqAt.EqAt.same _
 obtain ⟨i1, r1, p1, z1⟩ := I.tuple ha
 obtain ⟨i2, r2, p2, z2⟩ := I.tuple hb
 have n1 := r1.length
 have n2 := r2.length
 have h := SeqAt.RcAt.tuples (A := A) (e := fun j => match xs[j]?, ys[j]? with | some x, some y => eqV x y | _, _ => true) (show s.heap.IsTuple a i1.toArray from p1) (show s.heap.IsTuple c i2.toArray from p2) w0 (fun j h1 h2 => by
   simp only [List.size_toArray] at h1 h2
   obtain ⟨x, e, rx⟩ := vals_at r1 j h1
   obtain ⟨x2, e2, rx2⟩ := vals_at r2 j h2
   simp only [List.getElem_toArray]
   rw [e, e2]
   exact eqAt_V rx rx2 (fx x (List.mem_of_getElem? e)) (fy x2 (List.mem_of_getElem? e2)))
 rw [show ((List.range (min i1.toArray.size i2.toArray.size)).all (fun j => match xs[j]?, ys[j]? with | some x, some y => eqV x y | _, _ => true) && i1.toArray.size == i2.toArray.size) = tupB xs ys by
   unfold tupB
   simp only [List.size_toArray]
   rw [← n1, ← n2]] at h
 exact SeqAt.EqAt.of_refs hab h
def lstB (xs ys : List V) (e : Nat → Bool) : Bool := xs.length == ys.length && (List.range xs.length).all e
def eqLB (K : PySem.W.Frag) (H : Hp) (x y : V) (b : Bool) : Prop := ∃ a c xs ys e, x = .ref a ∧ y = .ref c ∧ SqL K H a xs ∧ SqL K H c ys ∧ (∀ (j : Nat) x y, xs[j]? = some x → ys[j]? = some y → eqTB K H x y (e j)) ∧ (a = c → lstB xs ys e = true) ∧ b = lstB xs ys e
theorem Inv.eqLB {pins : List (Addr × Obj)} {σ : St} {H : Hp} {s : Shared} {x y : V} {v u : Value} {b : Bool} {A : Around} (I : Inv X pins σ H s) (w0 : A.units < cLine) (w1 : A.in1.units < cLine) (t : eqLB X.K H x y b) (rx : RelV x v) (ry : RelV y u) : SeqAt.EqAt A s v u b := by
 obtain ⟨a, c, xs, ys, e, rfl, rfl, ha, hb, he, hs, rfl⟩ := t
 cases rx
 cases ry
 by_cases hab : a = c
 · subst hab
   rw [hs rfl]
   exact SeqAt.EqAt.same _
 obtain ⟨i1, r1, p1, z1⟩ := I.list ha
 obtain ⟨i2, r2, p2, z2⟩ := I.list hb
 have n1 := r1.length
 have n2 := r2.length
 by_cases hl : xs.length = ys.length
 · have h := SeqAt.RcAt.lists (A := A) (e := e) p1.isList p2.isList (by simp only [List.size_toArray]; omega) w0 (fun j h1 h2 => by
     simp only [List.size_toArray] at h1 h2
     obtain ⟨x, e1, rx⟩ := vals_at r1 j h1
     obtain ⟨x2, e2, rx2⟩ := vals_at r2 j h2
     simp only [List.getElem_toArray]
     exact I.eqTB w1 (he j x x2 e1 e2) rx rx2)
   rw [show (List.range i1.toArray.size).all e = lstB xs ys e by
     unfold lstB
     simp only [List.size_toArray]
     rw [← n1, hl]
     simp] at h
   exact SeqAt.EqAt.of_refs hab h
 · rw [show lstB xs ys e = false by
     unfold lstB
     rw [show (xs.length == ys.length) = false by simpa using hl]
     rfl]
   exact SeqAt.EqAt.of_refs hab (SeqAt.RcAt.lists_lengths (A := A) p1.isList p2.isList (by
     simp only [List.size_toArray]
     rw [← n1, ← n2]
     simpa using hl) w0)
end
end L2
namespace L2
open PySem PySem.W PySem.Spec PyProof.Rows L3
section
variable {X : Cx} {CX : CXT} {cm : Bool} {k : Nat} {E : XK} {m : Str} {pos apos : Pos} {o e : Expr} {es : List Expr} {ta : TE} {t : TA}
end
end L2
namespace L2
open PySem PySem.W PySem.Spec PyProof.Rows L3
section
variable {X : Cx}
end
end L2
namespace L2
open PySem PySem.W PySem.Spec PyProof.Rows L3
section
variable {X : Cx}
end
end L2
namespace L2
open PySem PySem.W PySem.Spec PyProof.Rows L3
section
variable {X : Cx}
end
end L2
namespace L2
open PySem PySem.W PySem.Spec PyProof.Rows L3
section
variable {X : Cx}
end
end L2
namespace L2
open PySem PySem.W PySem.Spec PyProof.Rows L3
section
variable {prog : Program} {w : World} {s : Shared} {A : Around} {E : Value → Shared → Prop} {M : Model}
structure StrS (prog : Program) (w : World) (h : Heap) (a : Addr) (es : Array (Int × Value)) (ep : Nat) (t : SetTable) : Prop where
 ob : ∃ o, h.get? a = some o ∧ o.ExactSet ∧ o.data = .set es ep t
 el : ElemsOf (strKind prog w) es.toList
 ft : t.fits es.size = true
 pl : es.size = 0 ∨ t.plain = false
 ld : t.led = !w.params.followText "set-order"
 sm : es.size < scanBound
theorem StrS.same {h h' : Heap} {a : Addr} {es : Array (Int × Value)} {ep : Nat} {t : SetTable} (x : StrS prog w h a es ep t) (k : ∀ o, h.get? a = some o → h'.get? a = some o) : StrS prog w h' a es ep t := by
 obtain ⟨⟨o, ho, r⟩, q1, q2, q3, q4, q5⟩ := x
 exact ⟨⟨o, k o ho, r⟩, q1, q2, q3, q4, q5⟩
end
end L2
namespace L2
open PySem PySem.W PySem.Spec PyProof.Rows L3
section
variable {prog : Program} {w : World} {A : Around} {R : Result → Shared → Prop} {I : Addr} {fp wr : List Addr} {G : Array GenState → Array GenState → Prop} {n : Nat} {P : Nat → Value → Prop} {St : Nat → Shared → Prop}
end
section
variable {prog : Program} {w : World} {A : Around} {E : Value → Shared → Prop} {s : Shared}
end
end L2
namespace L2
open PySem PySem.W PySem.Spec PyProof.Rows L3
section
variable {prog : Program} {w : World} {A : Around} {E : Value → Shared → Prop} {s : Shared}
theorem StrS.typeIs {a : Addr} {es : Array (Int × Value)} {ep : Nat} {t : SetTable} (X : StrS prog w s.heap a es ep t) : s.TypeIs (.ref a) "set" := by
 obtain ⟨o, ho, hx, hd⟩ := X.ob
 exact ⟨o, ho, hx.1⟩
end
end L2
namespace L2
open PySem PySem.W PySem.Spec PyProof.Rows L3
section
variable {prog : Program} {w : World} {A : Around} {E : Value → Shared → Prop} {s : Shared}
end
end L2
namespace L2
open PySem PySem.W PySem.Spec PyProof.Rows L3
section
variable {prog : Program} {w : World} {A : Around} {E : Value → Shared → Prop} {s : Shared}
end
end L2
namespace L2
open PySem PySem.W PySem.Spec PyProof.Rows L3
section
variable {prog : Program} {w : World} {A : Around} {E : Value → Shared → Prop} {s : Shared}
end
end L2
namespace L2
open PySem PySem.W PySem.Spec PyProof.Rows L3
section
variable {prog : Program} {w : World} {A : Around} {E : Value → Shared → Prop} {s : Shared}
end
section
variable {X : Cx}
theorem Inv.drawn {pins : List (Addr × Obj)} {σ : St} {H : Hp} {s : Shared} (I : Inv X pins σ H s) (d : Drawn) : Inv X pins σ H { s with drawn := d } := ⟨I.ok, I.os, I.bare, I.base, I.loc, I.cell, I.free, I.freeC, I.pin, I.hok, I.len⟩
end
end L2
namespace L2
open PySem PySem.W PySem.Spec PyProof.Rows L3
section
variable {X : Cx}
theorem op_neLen {cm : Bool} {k : Nat} (hr : Room cm k X.A) : OpR X (compareOp .NotEq) (fun x y H Q => ∃ a b xs ys, x = .ref a ∧ y = .ref b ∧ SqL X.K H a xs ∧ SqL X.K H b ys ∧ ((xs.length ≠ ys.length ∧ Q (.bl true) H) ∨ (EqLs X.K H xs ys ∧ Q (.bl false) H))) := by
 intro pins s σ H x y v u Q I rx ry h
 obtain ⟨a, b, xs, ys, rfl, rfl, ha, hb, h⟩ := h
 rcases h with ⟨hne, q⟩ | ⟨he, q⟩
 · cases rx
   cases ry
   obtain ⟨its, r, pl, hz⟩ := I.list ha
   obtain ⟨its2, r2, pl2, hz2⟩ := I.list hb
   have l1 := r.length
   have l2 := r2.length
   have hu : X.A.units < cLine := by have := hr.un; omega
   refine SeqAt.RcNeAt.lists_lengths pl.isList pl2.isList ?_ hu _ _ _ _ ⟨.bl true, H, I, rfl, q⟩
   simp only [List.size_toArray]
   rw [← l1, ← l2]
   simpa using hne
 · exact op_neD hr pins s σ H _ _ v u Q I rx ry ⟨a, b, xs, ys, rfl, rfl, ha, hb, he, q⟩
end
end L2
namespace L2
open PySem PySem.Spec PyProof.Rows L3
section
variable {X : Cx} {pins : List (Addr × Obj)} {σ : St} {H : Hp} {s : Shared}
end
section
variable {X : Cx}
end
end L2
namespace L2
open PySem PySem.W PySem.Spec PyProof.Rows L3
section
variable {X : Cx}
end
end L2
namespace L2
open PySem PySem.Spec PyProof.Rows L3
section
variable {X : Cx}
end
end L2
namespace L2
open PySem PySem.W PySem.Spec PyProof.Rows L3
section
variable {X : Cx}
end
end L2
namespace L2
open PySem PySem.W PySem.Spec PyProof.Rows L3
section
variable {prog : Program} {w : World} {s : Shared} {A : Around} {E : Value → Shared → Prop}
def TwoI (h : Heap) (a : Addr) (k : Int × Int) : Prop := ∃ o n t u, h.get? a = some o ∧ o.cls = .type "tuple" ∧ o.data = .seq #[.int k.1 t, .int k.2 u] n
inductive TwosI (h : Heap) : List Addr → List (Int × Int) → Prop where
 | nil : TwosI h [] []
 | cons {a : Addr} {k : Int × Int} {as : List Addr} {ks : List (Int × Int)} (x : TwoI h a k) (r : TwosI h as ks) : TwosI h (a :: as) (k :: ks)
theorem TwosI.keep {h h' : Heap} (kp : ∀ b o, h.get? b = some o → h'.get? b = some o) : ∀ {as : List Addr} {ks : List (Int × Int)}, TwosI h as ks → TwosI h' as ks
 | _, _, .nil => .nil
 | _, _, .cons ⟨o, n, t, u, e, r⟩ x => .cons ⟨o, n, t, u, kp _ _ e, r⟩ (x.keep kp)
theorem TwosI.len {h : Heap} : ∀ {as : List Addr} {ks : List (Int × Int)}, TwosI h as ks → as.length = ks.length
 | _, _, .nil => rfl
 | _, _, .cons _ r => congrArg (· + 1) r.len
theorem TwosI.at {h : Heap} : ∀ {as : List Addr} {ks : List (Int × Int)} (i : Nat), TwosI h as ks → i < as.length → ∃ a, (as.map Value.ref).getD i Value.none = .ref a ∧ TwoI h a (ks.getD i (0, 0))
 | _, _, i, .nil, hi => absurd hi (Nat.not_lt_zero _)
 | _, _, 0, .cons x _, _ => ⟨_, rfl, x⟩
 | _, _, i + 1, .cons _ r, hi => by
   obtain ⟨a, e, x⟩ := r.at i (by simpa using hi)
   exact ⟨a, by simpa [List.getD] using e, by simpa [List.getD] using x⟩
theorem TwosI.kats {h : Heap} : ∀ {as : List Addr} {ks : List (Int × Int)}, TwosI h as ks → ∃ fs : List Value, fs.length = ks.length ∧ (∀ v ∈ fs, ∃ x t, v = .int x t) ∧ KatTups h (as.map Value.ref) fs
 | _, _, .nil => ⟨[], rfl, (fun v hv => nomatch hv), KatTups.nil⟩
 | _, _, .cons ⟨o, n, t, u, e, c, d⟩ r => by
   obtain ⟨fs, h1, h2, h3⟩ := r.kats
   refine ⟨_ :: fs, congrArg (· + 1) h1, fun v hv => ?_, KatTups.cons e c d rfl h3⟩
   rcases List.mem_cons.mp hv with z | z
   · exact ⟨_, _, z⟩
   · exact h2 v z
end
section
variable {prog : Program} {w : World} {s : Shared} {A : Around} {E : Value → Shared → Prop}
end
section
variable {X : Cx}
abbrev P2 := Addr × Int × Int
end
end L2
namespace L2
open PySem PySem.Spec PyProof.Rows L3
section
variable {X : Cx}
end
theorem LcOkT.free {X : Cx} {xs : List Str} {scope : Scope} {cl : List (Str × Addr)} {js : List Nat} (fns : List Str) (hclos : closureFor scope X.env = pure cl) (hf : cl.map (·.1) = fns) (hsub : ∀ p ∈ cl, X.env.cells.lookup p.1 = some p.2) (hcell : ∀ y ∈ scope.names, y.2 ≠ .cell) (hkind : scope.kind = .function) (hnames : ∀ y ∈ scope.names, y.2 = .local → scope.names.lookup y.1 = some .local)
   (hloc : ∀ x ∈ xs, scope.names.lookup x = some .local) (hcov : ∀ z ∈ scope.names, z.2 = .free → z.1 ∈ fns) (hnd : (xs ++ js.map (fun j => X.N.getD j "")).Nodup)
   (hfr : ∀ j ∈ js, ∃ y, X.N[j]? = some y ∧ X.env.kindOf y = some .cell ∧ (relabel scope X.env).names.lookup y = some .cell ∧ y ∈ fns) : LcOkT X xs scope cl js where
 clos := hclos
 sub := fun y c e => hsub (y, c) (mem_lookup e)
 kind := hkind
 cell := hcell
 names := hnames
 loc := hloc
 has := fun y h => by
   have : ∃ z ∈ scope.names, z.1 = y ∧ z.2 = .free := by
     rcases h with h | h
     · exact lookup_relabel_free (.inl rfl) hcell h
     · exact lookup_relabel_free (.inr rfl) hcell h
   obtain ⟨z, m, rfl, e⟩ := this
   exact lookup_mem (by rw [hf]; exact hcov z m e)
 nd := hnd
 fr := fun j hj => by
   obtain ⟨y, a, b, c, d⟩ := hfr j hj
   exact ⟨y, a, b, c, lookup_mem (by rw [hf]; exact d)⟩
section
variable {X : Cx}
end
end L2
namespace HT
open PySem PySem.Spec PyProof.Rows L2
section
variable {prog : Program} {w : World} {A : Around} {E : Value → Shared → Prop} {s : Shared}
end
end HT
namespace L2
open PySem PySem.W PySem.Spec PyProof.Rows L3
section
variable {X : Cx}
theorem op_eqV {cm : Bool} {k : Nat} (hr : Room cm k X.A) : OpR X (compareOp .Eq) (fun x y H Q => ∃ a b xs ys, x = .ref a ∧ y = .ref b ∧ SqL X.K H a xs ∧ SqL X.K H b ys ∧ xs.length = ys.length ∧ (∀ (j : Nat) x y, xs[j]? = some x → ys[j]? = some y → eqTu X.K H x y) ∧ Q (.bl true) H) := by
 intro pins s σ H x y v u Q I rx ry h
 obtain ⟨a, b, xs, ys, rfl, rfl, ha, hb, hl, he, q⟩ := h
 cases rx
 cases ry
 obtain ⟨i1, r1, p1, z1⟩ := I.list ha
 obtain ⟨i2, r2, p2, z2⟩ := I.list hb
 have n1 := r1.length
 have n2 := r2.length
 have w0 : X.A.units < cLine := by have := hr.un; omega
 have w1 : X.A.in1.units < cLine := by have := hr.un; show X.A.units + 1 < cLine; omega
 have w2 : X.A.in1.in1.units < cLine := by have := hr.un; show X.A.units + 1 + 1 < cLine; omega
 have w3 : X.A.in1.in1.in1.units < cLine := by have := hr.un; show X.A.units + 1 + 1 + 1 < cLine; omega
 refine SeqAt.eq_listAt (e := fun _ => true) p1.isList p2.isList (by simp only [List.size_toArray]; omega) w0 (fun j h1 h2 => ?_) ?_
 · simp only [List.size_toArray] at h1 h2
   obtain ⟨x, e, rx⟩ := vals_at r1 j h1
   obtain ⟨x2, e2, rx2⟩ := vals_at r2 j h2
   simp only [List.getElem_toArray]
   exact I.eqTu w1 w2 w3 (he j x x2 e e2) rx rx2
 · rw [show ((List.range i1.toArray.size).all fun _ => true) = true by simp]
   exact ⟨.bl true, H, I, rfl, q⟩
end
end L2
namespace L2
open PySem PySem.Spec PyProof.Rows L3
def ItZ (K : PySem.W.Frag) (a b : Addr) : It :=
 ⟨fun i H => ∃ xs ys x y, SqL K H a xs ∧ SqL K H b ys ∧ xs[i]? = some x ∧ ys[i]? = some y,
  fun i H v H' => ∃ t x y, v = .ref t ∧ H t = none ∧ H' = upd H t (.tup [x, y]) ∧ (∀ xs, SqL K H a xs → xs[i]? = some x) ∧ ∀ ys, SqL K H b ys → ys[i]? = some y,
  fun i H => ∃ xs ys, SqL K H a xs ∧ SqL K H b ys ∧ (xs.length ≤ i ∨ ys.length ≤ i)⟩
section
variable {X : Cx} {pins : List (Addr × Obj)} {σ : St} {H : Hp} {s : Shared} {h' : Heap}
theorem Inv.turnedT {fp : List Addr} {t : Addr} {o : HO} {t' : Nat} (I : Inv X pins σ H s) (hf : ∀ b ∈ fp, FpOk X pins H b) (k : ∀ b u, b ∉ fp → s.heap.get? b = some u → h'.get? b = some u) (ht : s.heap.objs.size ≤ t)
   (new : ObjOk X.prog X.w (upd H t o) h' t o) : Inv X pins σ (upd H t o) { s with heap := h', toks := t' } := by
 have hn : H t = none := I.hok.fresh ht
 have nf : ∀ b u, H b = some u → b ∉ fp := fun b u e z => by rw [(hf b z).1] at e; cases e
 refine I.call (g' := s.gens) (d' := s.drawn) (ch := fp) ⟨fun b o e n _ hx => k b o hx e, fun b o e n _ hx => ⟨o.slots, k b o hx e⟩, fun b o e n hx => ?_, fun b o e hx => ⟨o, k b o hx e⟩, fun b xs e => ?_, fun b o u e => ?_, fun b ps e => ?_⟩ (fun b u e => ?_) I.bare fun b hb => ?_
 · have hb : b ≠ t := fun z => by
     have := Heap.lt_size e
     rw [z] at this
     exact absurd this (Nat.not_lt.mpr ht)
   rw [upd_ne hb]
   exact n
 · rw [upd_ne (ne_of_none e hn)]
   exact e
 · rw [upd_ne (ne_of_none e hn)]
   exact e
 · exact ⟨#[], by rw [upd_ne (ne_of_none e hn), e]; simp⟩
 · by_cases hb : b = t
   · subst hb
     rw [upd_same] at e
     cases e
     exact new
   · rw [upd_ne hb] at e
     refine (I.hok b u e).stay (fun c v hc' q => k c v ?_ q) (fun c q => by rw [upd_ne (ne_of_none q hn)]; exact q) fun c xs q => by rw [upd_ne (ne_of_none q hn)]; exact q
     rcases hc' with z | z
     · rw [z]; exact nf b u e
     · exact nf c _ z
 · obtain ⟨_, f1, _, f3, f4, f5⟩ := hf b hb
   exact ⟨f3, f1, f4, f5⟩
theorem Inv.turnedF {fp : List Addr} {t' : Nat} (I : Inv X pins σ H s) (hf : ∀ b ∈ fp, FpOk X pins H b) (k : ∀ b u, b ∉ fp → s.heap.get? b = some u → h'.get? b = some u) : Inv X pins σ H { s with heap := h', toks := t' } := by
 have nf : ∀ b u, H b = some u → b ∉ fp := fun b u e z => by rw [(hf b z).1] at e; cases e
 refine I.call (g' := s.gens) (d' := s.drawn) (ch := fp) ⟨fun b o e n _ hx => k b o hx e, fun b o e n _ hx => ⟨o.slots, k b o hx e⟩, fun b o e n hx => n, fun b o e hx => ⟨o, k b o hx e⟩, fun b xs e => e, fun b o u e => e, fun b ps e => ⟨#[], by rw [e]; simp⟩⟩ (fun b u e => ?_) I.bare fun b hb => ?_
 · refine (I.hok b u e).stay (fun c v hc' q => k c v ?_ q) (fun c q => q) fun c xs q => q
   rcases hc' with z | z
   · rw [z]; exact nf b u e
   · exact nf c _ z
 · obtain ⟨_, f1, _, f3, f4, f5⟩ := hf b hb
   exact ⟨f3, f1, f4, f5⟩
end
theorem turn_zip {P : Program} {w : World} {K : PySem.W.Frag} {elts : List Expr} {x1} {pos : Pos} (a b z TI TO i1 i2 : Addr) (D : ZipApart z TI TO i1 i2 a b) :
   Turn P w K (.Tuple elts x1 pos) (ItZ K a b) [z, TI, TO, i1, i2] z (fun i h => IsZip h z TI TO .none ∧ IsPair h TI (.ref i1) (.ref i2) ∧ (∃ c d, IsPair h TO c d) ∧ h.IsListIter i1 a i ∧ h.IsListIter i2 b i) where
 mem := by simp
 obj := fun i h st c hc => by
   obtain ⟨hz, hTI, ⟨u, v, hTO⟩, ⟨o1, ho1, hc1, hd1⟩, ⟨o2, ho2, hc2, hd2⟩⟩ := st
   simp only [List.mem_cons, List.not_mem_nil, or_false] at hc
   rcases hc with rfl | rfl | rfl | rfl | rfl
   · exact ⟨_, hz, fun v z => by have z' : Data.fields _ = Data.cell v := z; cases z'⟩
   · exact ⟨_, hTI, fun v z => by have z' : Data.seq _ _ = Data.cell v := z; cases z'⟩
   · exact ⟨_, hTO, fun v z => by have z' : Data.seq _ _ = Data.cell v := z; cases z'⟩
   · exact ⟨o1, ho1, fun v z => by rw [hd1] at z; cases z⟩
   · exact ⟨o2, ho2, fun v z => by rw [hd2] at z; cases z⟩
 keep := fun i h h' st k => by
   obtain ⟨hz, hTI, ⟨u, v, hTO⟩, h1, h2⟩ := st
   exact ⟨k z (by simp) _ hz, k TI (by simp) _ hTI, ⟨u, v, k TO (by simp) _ hTO⟩, h1.at fun o q => k i1 (by simp) o q, h2.at fun o q => k i2 (by simp) o q⟩
 item := by
   intro X hP hw hK hc i pins s σ H E I hf st hg
   subst hP hw hK
   obtain ⟨xs, ys, x, y, hq, hq2, hx, hy⟩ := hg
   obtain ⟨its, rv, p, hzz⟩ := I.list hq
   obtain ⟨its2, rv2, p2, hzz2⟩ := I.list hq2
   obtain ⟨u, hu, ru⟩ := rv.get hx
   obtain ⟨u2, hu2, ru2⟩ := rv2.get hy
   obtain ⟨hz, hTI, ⟨c, d, hTO⟩, h1, h2⟩ := st
   refine wpAny_pyNext_zip_item D hz hTI hTO h1 h2 p.isList p2.isList (x := u) (y := u2) (by simpa using hu) (by simpa using hu2) fun g hz' hTO' h1' h2' hT' hsz hk => ?_
   refine ⟨_, rfl, wpAny_letOwnedTupleGo_zip hz' fun g2 hz2 hs2 => ?_⟩
   replace hs2 : Heap.SameBut z g g2 := hs2
   have zl : z < s.heap.objs.size := Heap.lt_size hz
   have up : ∀ c o, c ≠ z → g.get? c = some o → g2.get? c = some o := fun c o hcz e => (hs2.2 c hcz).trans e
   have hT2 : g2.get? s.heap.objs.size = some { cls := .type "tuple", data := .seq #[u, u2] } := up _ _ (Nat.ne_of_gt zl) hT'
   have IC := I.turnedT (fp := [z, TI, TO, i1, i2]) (t := s.heap.objs.size) (o := .tup [x, y]) (t' := s.toks) (h' := g2) hf (fun b' o hb e => by
     simp only [List.mem_cons, List.not_mem_nil, or_false, not_or] at hb
     exact up _ _ hb.1 (hk b' o hb.1 hb.2.2.1 hb.2.2.2.1 hb.2.2.2.2 e)) (Nat.le_refl _) ⟨(by show 2 ≤ sizeLine; decide), [u, u2], .cons ru (.cons ru2 .nil), ⟨_, hT2, rfl, _, rfl⟩⟩
   refine ⟨.ref s.heap.objs.size, _, IC, rfl, ⟨_, x, y, rfl, I.hok.fresh (Nat.le_refl _), rfl, (fun zs hzs => by rw [I.list_inj hzs hq]; exact hx), fun zs hzs => by rw [I.list_inj hzs hq2]; exact hy⟩, ⟨hz2, up _ _ D.TIz (hk _ _ D.TIz D.TITO D.TIi1 D.TIi2 hTI), ⟨_, _, up _ _ D.TOz hTO'⟩, h1'.at fun o q => up _ _ D.i1z q, h2'.at fun o q => up _ _ D.i2z q⟩, fun b' hb => ?_⟩
   have bl : b' < s.heap.objs.size := by
     simp only [List.mem_cons, List.not_mem_nil, or_false] at hb
     obtain ⟨o1, ho1, _⟩ := id h1
     obtain ⟨o2, ho2, _⟩ := id h2
     rcases hb with rfl | rfl | rfl | rfl | rfl
     · exact zl
     · exact Heap.lt_size hTI
     · exact Heap.lt_size hTO
     · exact Heap.lt_size ho1
     · exact Heap.lt_size ho2
   rw [upd_ne (Nat.ne_of_lt bl)]
   exact (hf b' hb).1
 done := by
   intro X hP hw hK hc i pins s σ H E I hf st hg
   subst hP hw hK
   obtain ⟨xs, ys, hq, hq2, hx⟩ := hg
   obtain ⟨its, rv, p, hzz⟩ := I.list hq
   obtain ⟨its2, rv2, p2, hzz2⟩ := I.list hq2
   obtain ⟨hz, hTI, ⟨c, d, hTO⟩, h1, h2⟩ := st
   have hl := rv.length
   have hl2 := rv2.length
   refine wpAny_pyNext_zip_end (I.ok.hd hc) D hz hTI hTO h1 h2 p.isList p2.isList (by simp; omega) fun g hk => ⟨rfl, I.turnedF (fp := [z, TI, TO, i1, i2]) (t' := s.toks) hf fun b' o hb e => ?_⟩
   simp only [List.mem_cons, List.not_mem_nil, or_false, not_or] at hb
   exact hk b' o hb.1 hb.2.2.1 hb.2.2.2.1 hb.2.2.2.2 e
 self := fun _ _ _ _ _ st h => wpAny_pyIter_zip st.1 h
section
variable {X : Cx}
def iZip (K : PySem.W.Frag) (ta : TA) : TI := fun σ H R => ta σ H fun vs H1 => ∃ a b, vs = [.ref a, .ref b] ∧ (∃ xs, SqL K H1 a xs) ∧ (∃ ys, SqL K H1 b ys) ∧ R (ItZ K a b) H1
theorem pi_zip {l m : Expr} {elts : List Expr} {x1} {tp : Pos} {ta : TA} {p pos : Pos} (hg : Gl X "zip") (hm : X.mg "zip" = none) (ha : PA X [l, m] ta) (hs : starEach [l, m] X.env = (false, eval l X.env) :: starEach [m] X.env := by rfl) (hs2 : starEach [m] X.env = [(false, eval m X.env)] := by rfl) :
   PI X (.Tuple elts x1 tp) (.Call (.Name "zip" p) [l, m] [] pos) (iZip X.K ta) := by
 intro pins s σ H R I h
 refine Call_ (ld_blt I hg hm boot_zip (PyProof.Rows.callWith_type1 (thn (ha pos pins s σ H _ I h) fun us s1 ⟨vs, H1, I1, r1, q1⟩ => ?_) (by rw [hs, hs2]) (by rw [hs2]; rfl)))
 obtain ⟨a, b, e, ⟨xs, hq⟩, ⟨ys, hq2⟩, q⟩ := q1
 subst e
 cases r1 with
 | cons r rr =>
   cases rr with
   | cons r2 rr =>
     cases rr
     cases r
     cases r2
     obtain ⟨its, rv, p, hz⟩ := I1.list hq
     obtain ⟨its2, rv2, p2, hz2⟩ := I1.list hq2
     refine call_zip_2 p.isList p2.isList fun h' hzi hTI hTO hi1 hi2 hsz hk => ?_
     refine wpAny_pyIter_zip hzi ?_
     have a1 : a < s1.heap.objs.size := by obtain ⟨_, e, _⟩ := p.isList; exact Heap.lt_size e
     have a2 : b < s1.heap.objs.size := by obtain ⟨_, e, _⟩ := p2.isList; exact Heap.lt_size e
     refine ⟨s1.heap.objs.size + 4, [s1.heap.objs.size + 4, s1.heap.objs.size + 2, s1.heap.objs.size + 3, s1.heap.objs.size, s1.heap.objs.size + 1], _, _, H1, rfl, I1.kept (t' := s1.toks) hk, turn_zip a b _ _ _ _ _ (zipApart_new a1 a2), ⟨hzi, hTI, ⟨_, _, hTO⟩, hi1, hi2⟩, fun c hc => ?_, q⟩
     have hge : s1.heap.objs.size ≤ c := by
       simp only [List.mem_cons, List.not_mem_nil, or_false] at hc
       rcases hc with rfl | rfl | rfl | rfl | rfl
       · exact Nat.le_add_right _ 4
       · exact Nat.le_add_right _ 2
       · exact Nat.le_add_right _ 3
       · exact Nat.le_refl _
       · exact Nat.le_add_right _ 1
     exact I1.fpOk hge (I1.hok.fresh hge)
theorem lc_zip {K : PySem.W.Frag} {a b : Addr} {xs ys : List V} {T : V → Hp → VK → Prop} {R : Addr → Hp → List V → Prop} {H : Hp} (Pv : Nat → List V → Hp → Prop) (h0 : Pv 0 [] H) (hxy : xs.length = ys.length) (hn : xs.length ≤ sizeLine) (hl : ∀ i zs H, i ≤ xs.length → Pv i zs H → SqL K H a xs ∧ SqL K H b ys ∧ zs.length = i)
   (hs : ∀ i x y zs H t, xs[i]? = some x → ys[i]? = some y → Pv i zs H → H t = none → T (.ref t) (upd H t (.tup [x, y])) fun y H2 => Pv (i + 1) (zs ++ [y]) H2) (hd : ∀ zs H, Pv xs.length zs H → ∀ l, H l = none → R l H zs) :
   ∃ W : Nat → Nat → List V → Hp → Prop, (∃ m, W 0 m [] H) ∧ ∀ i m zs H, W i m zs H →
     ((ItZ K a b).stop i H ∧ ∀ l, H l = none → R l H zs) ∨ ((ItZ K a b).go i H ∧ zs.length < sizeLine ∧ ∃ N : VK, (∀ y H2, N y H2 → ∃ m', m' < m ∧ W (i + 1) m' (zs ++ [y]) H2) ∧ ∀ x H', (ItZ K a b).yld i H x H' → T x H' N) := by
 refine ⟨fun i m zs H => m = xs.length - i ∧ i ≤ xs.length ∧ Pv i zs H, ⟨xs.length, by simp, Nat.zero_le _, h0⟩, ?_⟩
 rintro i m zs H ⟨rfl, hi, p⟩
 obtain ⟨q, q2, hy⟩ := hl i zs H hi p
 by_cases hlt : i < xs.length
 · have hlt2 : i < ys.length := by omega
   refine .inr ⟨⟨xs, ys, xs[i], ys[i], q, q2, by simp [hlt], by simp [hlt2]⟩, by omega, fun y H2 => Pv (i + 1) (zs ++ [y]) H2, fun y H2 p' => ⟨xs.length - (i + 1), by omega, rfl, hlt, p'⟩, fun x H' hyld => ?_⟩
   obtain ⟨t, x, y, rfl, ht, rfl, h1, h2⟩ := hyld
   exact hs i x y zs _ t (h1 xs q) (h2 ys q2) p ht
 · have e : i = xs.length := by omega
   subst e
   exact .inl ⟨⟨xs, ys, q, q2, .inl (Nat.le_refl _)⟩, hd zs H p⟩
theorem lc_enum {K : PySem.W.Frag} {a : Addr} {xs : List V} {T : V → Hp → VK → Prop} {R : Addr → Hp → List V → Prop} {H : Hp} (Pv : Nat → List V → Hp → Prop) (h0 : Pv 0 [] H) (hn : xs.length ≤ sizeLine) (hl : ∀ i zs H, i ≤ xs.length → Pv i zs H → SqL K H a xs ∧ zs.length = i)
   (hs : ∀ i x zs H t, xs[i]? = some x → Pv i zs H → H t = none → T (.ref t) (upd H t (.tup [.int (i : Int), x])) fun y H2 => Pv (i + 1) (zs ++ [y]) H2) (hd : ∀ zs H, Pv xs.length zs H → ∀ l, H l = none → R l H zs) :
   ∃ W : Nat → Nat → List V → Hp → Prop, (∃ m, W 0 m [] H) ∧ ∀ i m zs H, W i m zs H →
     ((ItE K a).stop i H ∧ ∀ l, H l = none → R l H zs) ∨ ((ItE K a).go i H ∧ zs.length < sizeLine ∧ ∃ N : VK, (∀ y H2, N y H2 → ∃ m', m' < m ∧ W (i + 1) m' (zs ++ [y]) H2) ∧ ∀ x H', (ItE K a).yld i H x H' → T x H' N) := by
 refine ⟨fun i m zs H => m = xs.length - i ∧ i ≤ xs.length ∧ Pv i zs H, ⟨xs.length, by simp, Nat.zero_le _, h0⟩, ?_⟩
 rintro i m zs H ⟨rfl, hi, p⟩
 obtain ⟨q, hy⟩ := hl i zs H hi p
 by_cases hlt : i < xs.length
 · refine .inr ⟨⟨xs, xs[i], q, by simp [hlt]⟩, by omega, fun y H2 => Pv (i + 1) (zs ++ [y]) H2, fun y H2 p' => ⟨xs.length - (i + 1), by omega, rfl, hlt, p'⟩, fun x H' hyld => ?_⟩
   obtain ⟨t, x, rfl, ht, rfl, h1⟩ := hyld
   exact hs i x zs _ t (h1 xs q) p ht
 · have e : i = xs.length := by omega
   subst e
   exact .inl ⟨⟨xs, q, Nat.le_refl _⟩, hd zs H p⟩
theorem mulN {x y : Int} {n m : Nat} (h1 : x.natAbs < 2 ^ n) (h2 : y.natAbs < 2 ^ m) (hn : n ≤ 4000) (hm : m ≤ 4000) : IntMulOk x y :=
 PySem.IntMulOk.of_le (PySem.intBits_le_iff.mpr (Nat.lt_of_lt_of_le h1 (Nat.pow_le_pow_right (by decide) hn))) (PySem.intBits_le_iff.mpr (Nat.lt_of_lt_of_le h2 (Nat.pow_le_pow_right (by decide) hm))) (by decide)
theorem logN {y : Int} {n : Nat} (h0 : y ≠ 0) (h : y.natAbs < 2 ^ n) (hn : n ≤ 4000) : y ≠ 0 ∧ y.natAbs.log2 < 9000 := by
 have n0 : y.natAbs ≠ 0 := by omega
 have := (Nat.log2_lt n0).mpr h
 exact ⟨h0, by omega⟩
end
end L2
namespace L2
open PySem PySem.Spec PyProof.Rows L3
def Cx.inN (X : Cx) (x : Str) (scope : Scope) (cl : List (Str × Addr)) (C : Addr) (s2 : Shared) (H2 : Hp) (fp : List Addr) (N' : List Str) (xe : Value → Shared → Prop) : Cx :=
 { X.inC scope cl C s2 H2 fp N' xe with fn := fun y => decide (y = x) }
theorem lookN {x : Str} {E : Addr} {cl : List (Str × Addr)} : ∀ y c, ((x, E) :: cl).lookup y = some c → (y = x ∧ c = E) ∨ (y ≠ x ∧ cl.lookup y = some c) := fun y c e => by
 rw [List.lookup_cons] at e
 by_cases w : y = x
 · rw [show (y == x) = true by simpa using w] at e
   exact .inl ⟨w, (Option.some.inj e).symm⟩
 · rw [show (y == x) = false by simpa using w] at e
   exact .inr ⟨w, e⟩
theorem newEnvCell {M : Model} {A : Around} {Ex : Value → Shared → Prop} {s : Shared} {scope : Scope} {globals : Addr} {cl : List (Str × Addr)} {qual : Str} {func : Option Addr} {code : Value} {outer : Env} {builtins : Addr} {Q : Env → Shared → Prop} {x : Str}
   (cf : ∀ n acc, cellsFrom n scope.names acc = (x, n) :: acc) (pc : ∀ h, pushCells h scope.names = h.push { cls := .type "cell", data := .cell none }) (hk : scope.kind = .function)
   (hQ : Q { scope, locals := s.heap.objs.size, globals, cells := (x, s.heap.objs.size + 1) :: cl, qual, func, code := outer.code, frame := outer.frame, builtins := outer.builtins } { s with heap := (s.heap.push { cls := .type "dict", data := .dict #[] }).push { cls := .type "cell", data := .cell none } }) :
   wpAny M A (newFunctionEnv scope globals cl [] qual func code (some outer) builtins) Q Ex s := by
 simp only [newFunctionEnv, Option.isSome_some, if_true]
 refine wpAny_bind (wpAny_alloc ?_)
 refine wpAny_bind (wpAny_layCells _ (fun name kind cells => by cases hkc : kind == NameKind.cell <;> simp [hkc]) _ _ _ _ ?_)
 rw [cf, pc, show ({ s with heap := s.heap.push { cls := .type "dict", data := .dict #[] } } : Shared).heap.objs.size = s.heap.objs.size + 1 from Heap.size_push ..]
 rw [List.forIn_nil]
 exact wpAny_bind (wpAny_pure (wpAny_pure hQ))
section
variable {X : Cx}
structure LcOkN (X : Cx) (x : Str) (scope : Scope) (cl : List (Str × Addr)) (js : List Nat) : Prop where
 clos : closureFor scope X.env = pure cl
 sub : ∀ y c, cl.lookup y = some c → X.env.cells.lookup y = some c
 kind : scope.kind = .function
 cf : ∀ n acc, cellsFrom n scope.names acc = (x, n) :: acc
 pc : ∀ h, pushCells h scope.names = h.push { cls := .type "cell", data := .cell none }
 names : ∀ y ∈ scope.names, y.2 = .local → scope.names.lookup y.1 = some .local
 xk : (relabel scope X.env).names.lookup x = some .cell
 has : ∀ y, y ≠ x → (((relabel scope X.env).names.lookup y = some .cell) ∨ ((relabel scope X.env).names.lookup y = some .free)) → ∃ c, cl.lookup y = some c
 nd : (x :: js.map (fun j => X.N.getD j "")).Nodup
 fr : ∀ j ∈ js, ∃ y, X.N[j]? = some y ∧ X.env.kindOf y = some .cell ∧ (relabel scope X.env).names.lookup y = some .cell ∧ ∃ c, cl.lookup y = some c
theorem Inv.inN {x : Str} {scope : Scope} {cl : List (Str × Addr)} {js : List Nat} {pins : List (Addr × Obj)} {σ : St} {H2 : Hp} {s2 : Shared} {fp : List Addr} {C D E : Addr} {h1 : Heap} {xe : Value → Shared → Prop} {oD : Obj} {m0 : Str → Option Value}
   (L : LcOkN X x scope cl js) (I2 : Inv X pins σ H2 s2) (f2 : ∀ b ∈ fp, FpOk X pins H2 b) (fo : ∀ b ∈ fp, ∃ o, s2.heap.get? b = some o) (hC : s2.heap.objs.size ≤ C) (hD : s2.heap.objs.size ≤ D) (hE : s2.heap.objs.size ≤ E) (hDC : D ≠ C) (hDE : D ≠ E)
   (old : ∀ b o, s2.heap.get? b = some o → h1.get? b = some o) (hns : h1.Ns C m0) (hcl : h1.IsCell E none) (hoD : h1.get? D = some oD) (hdD : ∀ v, oD.data ≠ .cell v) {t' : Nat} :
   Inv (X.inN x scope ((x, E) :: cl) C s2 H2 fp (x :: js.map (fun j => X.N.getD j "")) xe) [(D, oD)] (none :: js.map (fun j => σ.getD j none)) H2 { s2 with heap := h1, toks := t' } :=
 have subN : ∀ y c, ((x, E) :: cl).lookup y = some c → (y = x ∧ c = E) ∨ (y ≠ x ∧ cl.lookup y = some c) := lookN
 have lt : ∀ y c, cl.lookup y = some c → c ≠ E := fun y c e w => by
   obtain ⟨v', o', ho', _⟩ := I2.cell y c (L.sub y c e)
   have := Heap.lt_size ho'
   rw [w] at this
   exact absurd this (Nat.not_lt.mpr hE)
 { ok := {
   mod := I2.ok.mod
   kind := L.kind
   glob := I2.ok.glob
   blt := I2.ok.blt
   above := hC
   inj := fun a b c e1 e2 => by
     rcases subN a c e1 with ⟨p1, p2⟩ | ⟨p1, p2⟩ <;> rcases subN b c e2 with ⟨q1, q2⟩ | ⟨q1, q2⟩
     · rw [p1, q1]
     · exact absurd p2 (lt b c q2)
     · exact absurd q2 (lt a c p2)
     · exact I2.ok.inj a b c (L.sub a c p2) (L.sub b c q2)
   has := fun y hy => by
     by_cases w : y = x
     · rw [w]
       exact ⟨E, by show ((x, E) :: cl).lookup x = some E; simp [List.lookup_cons]⟩
     · obtain ⟨c, hc⟩ := L.has y w hy
       refine ⟨c, ?_⟩
       show ((x, E) :: cl).lookup y = some c
       rw [List.lookup_cons, show (y == x) = false by simpa using w]
       exact hc
   cab := fun y c z e => by
     have w : y = x := of_decide_eq_true z
     rcases subN y c e with ⟨_, p2⟩ | ⟨p1, _⟩
     · rw [p2]
       exact hE
     · exact absurd w p1
   hd := I2.ok.hd
   frames := I2.ok.frames
   stk := .inl rfl
   exf := fun b hb => by
     obtain ⟨o, e⟩ := fo b hb
     refine ⟨Nat.ne_of_lt (Nat.lt_of_lt_of_le (Heap.lt_size e) hC), fun y c e' => ?_⟩
     rcases subN y c e' with ⟨_, p2⟩ | ⟨_, p2⟩
     · intro w
       have := Heap.lt_size e
       rw [← w, p2] at this
       exact absurd this (Nat.not_lt.mpr hE)
     · exact (f2 b hb).2.2.2.2.1 y c (L.sub y c p2)
   bs := fun b o e => I2.bs b o e
   bsz := Nat.le_trans I2.ok.bsz I2.sz
   noex := fun b o e hb => by
     rcases (f2 b hb).2.2.2.1 with z | z
     · exact I2.ok.noex b o e z
     · exact absurd (Nat.lt_of_lt_of_le (Heap.lt_size e) (Nat.le_trans I2.ok.bsz z)) (Nat.lt_irrefl _)
   exfs := fun b hb z => by
     rcases List.mem_cons.mp (I2.stkSub b z) with e | e
     · exact (f2 b hb).2.1 e
     · exact (f2 b hb).2.2.1 e
   funs := I2.stack
   frf := I2.stkFree }
   os := rfl
   bare := I2.bare
   base := Un.kept old
   loc := by
     refine ⟨m0, hns, fun i y v e1 e2 e3 => ?_⟩
     cases i with
     | zero => cases e2
     | succ k =>
       have e1' : (js.map (fun j => X.N.getD j ""))[k]? = some y := e1
       have e2' : (js.map (fun j => σ.getD j none))[k]? = some (some v) := e2
       rw [List.getElem?_map] at e1' e2'
       cases hj : js[k]? with
       | none => rw [hj] at e1'; cases e1'
       | some j =>
         rw [hj] at e1' e2'
         obtain ⟨y', n1, n2, n3, c, n4⟩ := L.fr j (List.mem_of_getElem? hj)
         have e1'' : X.N.getD j "" = y := Option.some.inj e1'
         have e2'' : σ.getD j none = some v := Option.some.inj e2'
         have : y' = y := by
           rw [List.getD, n1] at e1''
           exact e1''
         subst this
         have hσ : σ[j]? = some (some v) := by
           rw [List.getD] at e2''
           cases q : σ[j]? with
           | none => rw [q] at e2''; cases e2''
           | some z => rw [q] at e2''; exact congrArg some e2''
         obtain ⟨m, hn, hl⟩ := I2.loc
         obtain ⟨u, r, l⟩ := hl j y' v n1 hσ (.inr (.inl n2))
         refine ⟨u, r, ?_⟩
         rcases l with ⟨k1, _⟩ | ⟨_, c', k2, k3⟩
         · rw [n2] at k1; cases k1
         · have : c' = c := by
             have := L.sub _ _ n4
             rw [k2] at this
             exact Option.some.inj this
           subst this
           obtain ⟨o, ho, hd⟩ := k3
           have hyx : y' ≠ x := fun w => by
             have := L.nd
             rw [List.nodup_cons] at this
             exact this.1 (by rw [← w]; exact List.mem_map.mpr ⟨j, List.mem_of_getElem? hj, by rw [List.getD, n1]; rfl⟩)
           exact .inr ⟨.inl n3, c', (by show ((x, E) :: cl).lookup y' = some c'; rw [List.lookup_cons, show (y' == x) = false by simpa using hyx]; exact n4), o, old _ _ ho, hd⟩
   cell := fun y c e => by
     rcases subN y c e with ⟨_, p2⟩ | ⟨_, p2⟩
     · rw [p2]
       exact ⟨none, hcl⟩
     · obtain ⟨v, o, ho, hd⟩ := I2.cell y c (L.sub y c p2)
       exact ⟨v, o, old _ _ ho, hd⟩
   free := I2.hok.fresh hC
   freeC := fun y c e => by
     rcases subN y c e with ⟨_, p2⟩ | ⟨_, p2⟩
     · rw [p2]
       exact I2.hok.fresh hE
     · exact I2.freeC y c (L.sub y c p2)
   pin := fun p hp => by
     have e : p = (D, oD) := by simpa [Cx.inN, Cx.inC] using hp
     subst e
     refine ⟨hoD, I2.hok.fresh hD, hDC, fun z => ?_, hdD⟩
     rcases List.mem_cons.mp (I2.stkSub D z) with e | e
     · exact absurd I2.lt (by rw [← e]; exact Nat.not_lt.mpr hD)
     · exact I2.nofs hD e
   hok := I2.hok.kept old
   len := by simp [Cx.inN, Cx.inC] }
theorem lcN_core {elt iter : Expr} {x : Str} {px pos cpos : Pos} {scope : Scope} {cl : List (Str × Addr)} {wi : TI} {te : TE} {js : List Nat} {use : Option (Value → Sem Unit)} {Qc : Value → Shared → Prop} {pins : List (Addr × Obj)} {s : Shared} {σ : St} {H : Hp} {Q : VK}
   (hc : X.calm = true) (L : LcOkN X x scope cl js) (hi : PI X (.Name x px) iter wi)
   (he : ∀ C E s2 H2 fp xe, PE (X.inN x scope ((x, E) :: cl) C s2 H2 fp (x :: js.map (fun j => X.N.getD j "")) xe) elt te)
   (hs : ∀ z, foldedSetIterable iter X.env z = pure z) (I : Inv X pins σ H s) (h : tLC wi te js σ H Q)
   (fin : ∀ (D C : Addr) (H4 : Hp) (s4 : Shared) (m : Str → Option Value), s4.heap.Ns C m → FpOk X pins H4 C → (∀ h', Heap.SameBut C s4.heap h' → Inv X pins σ H4 { s4 with heap := h' }) → Q (.ref D) H4 → compPost (model X.prog X.w) X.A X.xe use Qc (.ref D) C (.ok .next) s4) :
   wpAny (model X.prog X.w) X.A (comprehension (.ListComp elt [⟨.Name x px, iter, [], 0⟩] scope pos) scope X.env cpos (newList []) false (eval iter X.env) use) Qc X.xe s := by
 refine wpAny_comprehension_free (cl := cl) (use := use) rfl hs L.clos L.kind L.names ?_
 refine thn (hi pins s σ H _ I h) fun v s1 h1 => thn h1 fun itv s2 h2 => ?_
 obtain ⟨it, fp, tn, J, H2, e, I2, T, st2, f2, W, ⟨k0, w0⟩, turn⟩ := h2
 subst e
 refine wpAny_newObj_type (newEnvCell L.cf L.pc L.kind ?_)
 dsimp only
 generalize hH2 : s2.heap.push { cls := .type "list", dict := none, data := .seq ([] : List Value).toArray } = Hp2
 have hC : Hp2.objs.size = s2.heap.objs.size + 1 := by rw [← hH2, Heap.size_push]
 have hns₀ : (Hp2.push { cls := .type "dict", data := .dict #[] }).Ns Hp2.objs.size (fun _ => none) := Heap.Ns.new ..
 generalize hH3 : Hp2.push { cls := .type "dict", data := .dict #[] } = Hp3 at hns₀
 have hE : Hp3.objs.size = s2.heap.objs.size + 2 := by rw [← hH3, Heap.size_push, hC]
 have hcl₁ : (Hp3.push { cls := .type "cell", data := .cell none }).IsCell Hp3.objs.size none := ⟨_, Heap.get?_push_size _ rfl, rfl⟩
 have hns₁ : (Hp3.push { cls := .type "cell", data := .cell none }).Ns Hp2.objs.size (fun _ => none) := hns₀.keeps fun b o e => Heap.get?_push_of_some _ e
 have kp₁ : ∀ b o, s2.heap.get? b = some o → (Hp3.push { cls := .type "cell", data := .cell none }).get? b = some o := fun b o e => Heap.get?_push_of_some _ (hH3 ▸ Heap.get?_push_of_some _ (hH2 ▸ Heap.get?_push_of_some _ e))
 have hac₁ : (Hp3.push { cls := .type "cell", data := .cell none }).get? s2.heap.objs.size = some { cls := .type "list", data := .seq ([] : List Value).toArray 0 } := Heap.get?_push_of_some _ (hH3 ▸ Heap.get?_push_of_some _ (hH2 ▸ Heap.get?_push_size _ rfl))
 generalize Hp3.push { cls := .type "cell", data := .cell none } = h₁ at hcl₁ hns₁ kp₁ hac₁
 have hD1 : Hp2.objs.size + 1 = Hp3.objs.size := by omega
 rw [hD1]
 generalize hD0 : s2.heap.objs.size = D at hC hE hac₁ ⊢
 generalize hC0 : Hp2.objs.size = C at hC hns₁ hD1 ⊢
 generalize hE0 : Hp3.objs.size = E at hE hcl₁ hD1 ⊢
 have hDC : D ≠ C := by omega
 have hDE : D ≠ E := by omega
 have hCE : C ≠ E := by omega
 have below : ∀ b, b < D → b ≠ C := fun b hb => by omega
 have belowE : ∀ b, b < D → E ≠ b := fun b hb => by omega
 have old : ∀ b o, s2.heap.get? b = some o → h₁.get? b = some o := kp₁
 have hacc : h₁.get? D = some { cls := .type "list", data := .seq ([] : List Value).toArray 0 } := hac₁
 have subN : ∀ y c, ((x, E) :: cl).lookup y = some c → (y = x ∧ c = E) ∨ (y ≠ x ∧ cl.lookup y = some c) := lookN
 have fo : ∀ b ∈ fp, ∃ o, s2.heap.get? b = some o := fun b hb => let ⟨o, e, _⟩ := T.obj _ _ st2 b hb; ⟨o, e⟩
 have flt : ∀ b ∈ fp, b < D := fun b hb => let ⟨o, e⟩ := fo b hb; by rw [← hD0]; exact Heap.lt_size e
 have st1 : tn 0 h₁ := T.keep _ _ _ st2 fun b hb o e => old b o e
 let R := compPost (model X.prog X.w) X.A X.xe use Qc (.ref D) C
 let xe := notedBy (model X.prog X.w) X.A (compEnvC scope ((x, E) :: cl) C X.env) fun e s' => R (.error e) s'
 let X' := X.inN x scope ((x, E) :: cl) C s2 H2 fp (x :: js.map (fun j => X.N.getD j "")) xe
 have I0 : ∀ {t' : Nat}, Inv X' [(D, _)] (none :: js.map (fun j => σ.getD j none)) H2 { s2 with heap := h₁, toks := t' } := fun {t'} =>
   Inv.inN L I2 f2 fo (by omega) (by omega) (by omega) hDC hDE old hns₁ hcl₁ hacc (fun v z => by cases z)
 have fpk : ∀ {pD : List (Addr × Obj)} {H' : Hp}, (∀ p ∈ pD, p.1 = D) → (∀ b ∈ fp, H' b = none) → ∀ b ∈ fp, FpOk X' pD H' b := fun {pD H'} hp hn b hb => by
   refine ⟨hn b hb, below b (flt b hb), fun z => ?_, .inl hb, (fun y c e => by
     rcases subN y c e with ⟨_, z⟩ | ⟨_, z⟩
     · rw [z]
       exact belowE b (flt b hb)
     · exact (f2 b hb).2.2.2.2.1 y c (L.sub y c z)), fun p hp' z => ?_⟩
   · rcases List.mem_cons.mp (I2.stkSub b z) with e | e
     · exact (f2 b hb).2.1 e
     · exact (f2 b hb).2.2.1 e
   · have q := hp p (by simpa [X', Cx.inN, Cx.inC] using hp')
     have := flt b hb
     rw [← z, q] at this
     exact Nat.lt_irrefl _ this
 have loop : ∀ s3 : Shared, (∃ k i ys H' its n σ0, Inv X' [(D, { cls := .type "list", data := .seq (its : List Value).toArray n })] (σ0 :: js.map (fun j => σ.getD j none)) H' s3 ∧ tn i s3.heap ∧ (∀ b ∈ fp, H' b = none) ∧ W i k ys H' ∧ Vals ys its ∧ ys.length ≤ sizeLine) →
     codeAny (model X.prog X.w) X.A (.compLoop (.ListComp elt [⟨.Name x px, iter, [], 0⟩] scope pos) 0 (.ref it) (.ref D) (compEnvC scope ((x, E) :: cl) C X.env)) R s3 := by
   rintro s3 ⟨k, hk⟩
   refine codeAny_loop rfl (fun k s3 => ∃ i ys H' its n σ0, Inv X' [(D, { cls := .type "list", data := .seq (its : List Value).toArray n })] (σ0 :: js.map (fun j => σ.getD j none)) H' s3 ∧ tn i s3.heap ∧ (∀ b ∈ fp, H' b = none) ∧ W i k ys H' ∧ Vals ys its ∧ ys.length ≤ sizeLine) (fun k s3 hI => ?_) k hk
   obtain ⟨i, ys, H3, its, n, σ0, I3, st3, fr3, w3, vy, hz⟩ := hI
   show wpAny _ _ ((compTurn (.ListComp elt [⟨.Name x px, iter, [], 0⟩] scope pos) 0 (.ref it) (.ref D) (compEnvC scope ((x, E) :: cl) C X.env)).onRaise (fun u => do noteFrame u (compEnvC scope ((x, E) :: cl) C X.env); theTreesLotGoes u)) _ _ s3
   refine wpAny_noted ?_
   rw [compTurn_list1]
   have hpD : ∀ {o : Obj}, ∀ p ∈ [(D, o)], p.1 = D := fun p hp => by rw [List.mem_singleton.mp hp]
   refine wpAny_bind (wpAny_standAt (wpAny_bind ?_))
   rcases turn i k ys H3 w3 with ⟨stop, qn⟩ | ⟨go, hlen, N, hN, step⟩
   · refine thn (T.done X' rfl rfl rfl hc i _ s3 _ H3 xe I3 (fpk hpD fr3) st3 stop) fun r s4 ⟨hr, I4⟩ => ?_
     subst hr
     refine wpAny_pure ?_
     obtain ⟨m, hn, _⟩ := I4.loc
     obtain ⟨eD, nD, _⟩ := I4.pin (D, _) (List.mem_append_right _ (List.mem_singleton.mpr rfl))
     have fC : FpOk X pins (upd H3 D (.lst ys)) C := I2.fpOk (by omega) (by
       rw [upd_ne (Ne.symm hDC)]
       exact I4.free)
     refine fin D C (upd H3 D (.lst ys)) s4 m hn fC (fun h' sb => ?_) (qn D nD)
     obtain ⟨hh, g, d, t, os'⟩ := s4
     obtain rfl : os' = s2.os := I4.os
     have kp : ∀ b o, b ≠ C → hh.get? b = some o → h'.get? b = some o := fun b o hb e => (sb.2 b hb).trans e
     have lt2 : ∀ b o, s2.heap.get? b = some o → b ≠ C ∧ b ≠ D := fun b o e => by
       have q : b < D := by rw [← hD0]; exact Heap.lt_size e
       exact ⟨below b q, Nat.ne_of_lt q⟩
     have B : Un (frs X.stack) fp H2 H3 s2.heap hh := I4.base
     have hDn : H3 D = none := nD
     have I5 : Inv X pins σ (upd H3 D (.lst ys)) { s2 with heap := h', gens := g, drawn := d, toks := t } := by
       refine I2.call (h' := h') (g' := g) (d' := d) (t' := t) (ch := fp) ⟨?_, ?_, ?_, ?_, ?_, ?_, ?_⟩ ?_ I4.bare ?_
       · exact fun b o e n hb hx => kp b o (lt2 b o e).1 (B.keep b o e n hb hx)
       · intro b o e n hb hx
         obtain ⟨sl, q⟩ := B.slot b o e n hb hx
         exact ⟨sl, kp b _ (lt2 b o e).1 q⟩
       · intro b o e n hx
         rw [upd_ne (lt2 b o e).2]
         exact B.free b o e n hx
       · intro b o e hx
         obtain ⟨o', q⟩ := B.there b o e hx
         exact ⟨o', kp b o' (lt2 b o e).1 q⟩
       · intro b xs e
         have q := B.tups b xs e
         rw [upd_ne (ne_of_none q hDn)]
         exact q
       · intro b o u e
         have q := B.frzs b o u e
         rw [upd_ne (ne_of_none q hDn)]
         exact q
       · intro b ps e
         obtain ⟨more, q⟩ := B.tbls b ps e
         exact ⟨more, by rw [upd_ne (ne_of_none q hDn)]; exact q⟩
       · intro b u e
         by_cases hb : b = D
         · subst hb
           rw [upd_same] at e
           cases e
           exact ⟨hz, its, n, vy, kp _ _ hDC eD⟩
         · rw [upd_ne hb] at e
           have nC : ∀ c o, H3 c = some o → c ≠ C := fun c o q => ne_of_none q I4.free
           refine (I4.hok b u e).stay (fun c v hc' q => kp c v ?_ q) (fun c q => by rw [upd_ne (ne_of_none q hDn)]; exact q) fun c xs q => by rw [upd_ne (ne_of_none q hDn)]; exact q
           rcases hc' with z | z
           · rw [z]; exact nC b u e
           · exact nC c _ z
       · intro b hb
         obtain ⟨_, f1, _, f3, f4, f5⟩ := f2 b hb
         exact ⟨f3, f1, f4, f5⟩
     exact I5
   · refine thn (T.item X' rfl rfl rfl hc i _ s3 _ H3 xe I3 (fpk hpD fr3) st3 go) fun r s4 ⟨u, hr, h4⟩ => ?_
     subst hr
     refine wpAny_bind (thn h4 fun _ s5 ⟨xv, H5, I5, r5, y5, st5, fr5⟩ => ?_)
     have I5' := I5.pinned (fpk hpD fr5) (T.obj _ _ st5)
     refine wpAny_bind (thn (pg_name (X := X') (i := 0) L.nd rfl (Or.inr L.xk) (Or.inl (decide_eq_true rfl)) _ s5 _ H5 xv u (fun σ6 H6 => σ6 = some xv :: js.map (fun j => σ.getD j none) ∧ H6 = H5) I5' r5 ⟨rfl, rfl⟩) fun _ s6 ⟨σ6, H6, I6, e6, e6'⟩ => ?_)
     subst e6 e6'
     refine wpAny_bind (wpAny_bind (thn (he C E s2 H2 fp xe _ s6 _ _ _ I6 (step xv _ y5)) fun y s7 ⟨yv, H7, I7, ry, n7⟩ => ?_))
     obtain ⟨m', hm, w7⟩ := hN yv H7 n7
     have I7' := I7.unpinned
     obtain ⟨eD, nD, neC, nfs, _⟩ := I7'.pin (D, _) (List.mem_append_right _ (List.mem_singleton.mpr rfl))
     have eD' : s7.heap.get? D = some { cls := .type "list", data := .seq its.toArray n } := eD
     have lv := vy.length
     refine wpAny_bind (call_meets F.slot_list_append ⟨_, eD', rfl⟩ F.entry_list_append (F.args_list_append_2 _ _) (PySem.list_append D its.toArray n y (by rw [List.size_toArray]; omega)) ⟨eD', ?_⟩)
     refine wpAny_pure (wpAny_pure ⟨rfl, m', hm, i + 1, ys ++ [yv], H7, its ++ [y], ?_⟩)
     have q := PySem.IsL.update eD' (fun a : Array Value => a.push y)
     have I8 : Inv X' [] (some xv :: js.map (fun j => σ.getD j none)) H7 { s7 with heap := s7.heap.update D (Obj.mapSeq (fun a : Array Value => a.push y)) } :=
       (I7'.pins_of (pins' := []) (fun p hp => nomatch hp)).turned (t' := s7.toks) (it := D) (fun b o hb e => (Heap.get?_update_other s7.heap _ (Ne.symm hb)).trans e) nD neC (.inr (by show s2.heap.objs.size ≤ D; omega))
         (fun z c e w => by
           rcases subN z c e with ⟨_, q⟩ | ⟨_, q⟩
           · exact hDE (w.symm.trans q)
           · obtain ⟨v', o', ho', _⟩ := I2.cell z c (L.sub z c q)
             have := Heap.lt_size ho'
             rw [w, hD0] at this
             exact Nat.lt_irrefl _ this) (fun p hp => nomatch hp)
     have pinf : ∀ b ∈ fp, ∀ o, s5.heap.get? b = some o → s7.heap.get? b = some o ∧ H7 b = none := fun b hb o e => by
       have z := I7.pin (b, o) (List.mem_append_right _ (List.mem_append_right _ (mem_pinsAt hb e)))
       exact ⟨z.1, z.2.1⟩
     obtain ⟨n', q'⟩ : ∃ n', (s7.heap.update D (Obj.mapSeq (fun a : Array Value => a.push y))).get? D = some { cls := .type "list", data := .seq (its ++ [y]).toArray n' } := by
       rw [show (its ++ [y]).toArray = its.toArray.push y by simp]
       exact ⟨_, q⟩
     refine ⟨n', some xv, I8.pins_of fun p hp => ?_, ?_, fun b hb => ?_, w7, vy.append (.cons ry .nil), by rw [List.length_append, List.length_singleton]; omega⟩
     · rw [List.mem_singleton.mp hp]
       exact ⟨q', nD, neC, nfs, fun v z => by cases z⟩
     · refine T.keep _ _ _ st5 fun b hb o e => ?_
       have hb' : D ≠ b := fun z => by
         have := flt b hb
         rw [← z] at this
         exact Nat.lt_irrefl _ this
       exact (Heap.get?_update_other s7.heap _ hb').trans (pinf b hb o e).1
     · obtain ⟨o, e, _⟩ := T.obj _ _ st5 b hb
       exact (pinf b hb o e).2
 have start : ∀ {t' : Nat}, ∃ k i ys H' its n σ0, Inv X' [(D, { cls := .type "list", data := .seq (its : List Value).toArray n })] (σ0 :: js.map (fun j => σ.getD j none)) H' { s2 with heap := h₁, toks := t' } ∧ tn i h₁ ∧ (∀ b ∈ fp, H' b = none) ∧ W i k ys H' ∧ Vals ys its ∧ ys.length ≤ sizeLine := fun {t'} =>
   ⟨k0, 0, [], H2, [], 0, none, I0, st1, fun b hb => (f2 b hb).1, w0, .nil, Nat.zero_le _⟩
 exact codeAny_compStart_list (loop _ start) (T.self X.A 0 _ _ _ st1 (loop _ start))
theorem pe_lcN {elt iter : Expr} {x : Str} {px pos : Pos} {scope : Scope} {cl : List (Str × Addr)} {wi : TI} {te : TE} (js : List Nat) (hc : X.calm = true) (L : LcOkN X x scope cl js) (hi : PI X (.Name x px) iter wi)
   (he : ∀ C E s2 H2 fp xe, PE (X.inN x scope ((x, E) :: cl) C s2 H2 fp (x :: js.map (fun j => X.N.getD j "")) xe) elt te)
   (hs : ∀ z, foldedSetIterable iter X.env z = pure z := by intro _; rfl) :
   PE X (.ListComp elt [⟨.Name x px, iter, [], 0⟩] scope pos) (tLC wi te js) := by
 intro pins s σ H Q I h
 rw [eval_ListComp]
 exact lcN_core (use := none) hc L hi he hs I h fun D C H4 s4 m hn _ I4 q => ⟨m, hn, fun h' sb => ⟨.ref D, H4, I4 h' sb, rfl, q⟩⟩
theorem LcOkN.free {X : Cx} {x : Str} {scope : Scope} {cl : List (Str × Addr)} {js : List Nat} (fns : List Str) (hclos : closureFor scope X.env = pure cl) (hf : cl.map (·.1) = fns) (hsub : ∀ p ∈ cl, X.env.cells.lookup p.1 = some p.2) (hkind : scope.kind = .function)
   (hcf : ∀ n acc, cellsFrom n scope.names acc = (x, n) :: acc) (hpc : ∀ h, pushCells h scope.names = h.push { cls := .type "cell", data := .cell none }) (hnames : ∀ y ∈ scope.names, y.2 = .local → scope.names.lookup y.1 = some .local)
   (hxk : (relabel scope X.env).names.lookup x = some .cell) (hcov : ∀ z ∈ scope.names, (z.2 = .free ∨ z.2 = .cell) → z.1 = x ∨ z.1 ∈ fns) (hnd : (x :: js.map (fun j => X.N.getD j "")).Nodup)
   (hfr : ∀ j ∈ js, ∃ y, X.N[j]? = some y ∧ X.env.kindOf y = some .cell ∧ (relabel scope X.env).names.lookup y = some .cell ∧ y ∈ fns) : LcOkN X x scope cl js where
 clos := hclos
 sub := fun y c e => hsub (y, c) (mem_lookup e)
 kind := hkind
 cf := hcf
 pc := hpc
 names := hnames
 xk := hxk
 has := fun y hyx h => by
   have h2 : ∃ z ∈ (relabel scope X.env).names, z.1 = y ∧ (z.2 = .cell ∨ z.2 = .free) := by
     rcases h with h | h
     · exact ⟨(y, .cell), mem_of_lookup h, rfl, .inl rfl⟩
     · exact ⟨(y, .free), mem_of_lookup h, rfl, .inr rfl⟩
   obtain ⟨z, hz, rfl, hk⟩ := h2
   obtain ⟨⟨n, k⟩, hz0, rfl⟩ := List.mem_map.mp hz
   have : ∃ k', (n, k') ∈ scope.names ∧ (k' = .free ∨ k' = .cell) ∧ n = (if (k == NameKind.free && X.env.scope.kind == ScopeKind.function && X.env.kindOf n == some NameKind.cell) = true then (n, NameKind.cell) else (n, k)).1 := by
     by_cases c : (k == NameKind.free && X.env.scope.kind == ScopeKind.function && X.env.kindOf n == some NameKind.cell) = true
     · rw [if_pos c]
       simp only [Bool.and_eq_true, beq_iff_eq] at c
       exact ⟨k, hz0, .inl c.1.1, rfl⟩
     · rw [if_neg c]
       dsimp only at hk
       rw [if_neg c] at hk
       exact ⟨k, hz0, hk.symm, rfl⟩
   obtain ⟨k', hm, hk', en⟩ := this
   dsimp only at en hyx ⊢
   rw [← en] at hyx ⊢
   rcases hcov (n, k') hm hk' with c | c
   · exact absurd c hyx
   · exact lookup_mem (by rw [hf]; exact c)
 nd := hnd
 fr := fun j hj => by
   obtain ⟨y, h1, h2, h3, h4⟩ := hfr j hj
   exact ⟨y, h1, h2, h3, lookup_mem (by rw [hf]; exact h4)⟩
end
section
variable {X : Cx} {x : Str} {scope : Scope} {cl : List (Str × Addr)} {C : Addr} {s2 : Shared} {H2 : Hp} {fp : List Addr} {N' : List Str} {xe : Value → Shared → Prop}
theorem ix_seqNC {scope2 : Scope} {cl2 : List (Str × Addr)} {C2 : Addr} {s3 : Shared} {H3 : Hp} {fp2 : List Addr} {N2 : List Str} {xe2 : Value → Shared → Prop} : IxR ((X.inN x scope cl C s2 H2 fp N' xe).inC scope2 cl2 C2 s3 H3 fp2 N2 xe2) (rIx X.K) := ix_seq (X := (X.inN x scope cl C s2 H2 fp N' xe).inC scope2 cl2 C2 s3 H3 fp2 N2 xe2)
theorem call_lenN : CallR (X.inN x scope cl C s2 H2 fp N' xe) (.builtin "len") (fun xs H Q => ∃ p ys, xs = [.ref p] ∧ (SqL X.K H p ys ∨ SqT X.K H p ys) ∧ Q (.int ys.length) H) := call_len_seq (X := X.inN x scope cl C s2 H2 fp N' xe)
theorem call_sumN {k : Nat} (hr : Room true k X.A) : CallR (X.inN x scope cl C s2 H2 fp N' xe) (.builtin "sum") (fun xs H Q => ∃ (p : Addr) (ns : List Int), xs = [.ref p] ∧ SqL X.K H p (ns.map V.int) ∧ Q (.int ns.sum) H) := call_sum (X := X.inN x scope cl C s2 H2 fp N' xe) hr
end
end L2
namespace L2
open PySem PySem.Spec PyProof.Rows L3
section
variable {X : Cx}
end
section
variable {X : Cx} {x : Addr} {o e : Expr} {es : List Expr} {to : TE} {t : TA} {name : Str} {apos cpos : Pos} {T id : String} {r : V → List V → Hp → VK → Prop}
end
end L2
namespace PySem.F
theorem plain_unchain : plainId "proto.unchain" = true := by decide +kernel
theorem entry_unchain : entryFor table "proto.unchain" = some Builtin.«proto.unchain» := entryFor_of_fast (by kernel_rfl)
end PySem.F
namespace L2
open PySem PySem.Spec PyProof.Rows
section
variable {prog : Program} {w : World} {A : Around} {E : Value → Shared → Prop} {s : Shared}
theorem raise_on {α : Type} {e x : Addr} {oe ox : Obj} {es xs : Array Value} {Q : α → Shared → Prop} (hh : A.handled = some (.ref x)) (hne : x ≠ e) (he : s.heap.get? e = some oe) (hed : oe.data = .fields es) (hsz : 2 < es.size)
   (hx : s.heap.get? x = some ox) (hxd : ox.data = .fields xs) (hx2 : xs[2]? = some .none) (h : ∀ h', Heap.SameBut e s.heap h' → h'.get? e = some (oe.mapFields (·.setIfInBounds 2 (.ref x))) → E (.ref e) { s with heap := h' }) :
   wpAny (model prog w) A (raiseNew (α := α) (.ref e)) Q E s := by
 simp only [raiseNew]
 refine wpAny_bind (wpAny_handled ?_)
 rw [hh]
 show wpAny _ _ (if (Value.ref x != Value.ref e) = true then _ else _) _ _ s
 rw [if_pos (by simpa using hne)]
 refine wpAny_bind (wpAny_holding (wpAny_runValue (codeAny_builtin F.entry_unchain ?_)))
 rw [Around.under_plainId F.plain_unchain _]
 show wpAny _ A.in1 (field (.ref x) 2 >>= _) _ _ s
 refine wpAny_bind (wpAny_field hx hxd hx2 ?_)
 show wpAny _ A.in1 (if (Value.none == Value.none) = true then _ else _) _ _ s
 rw [if_pos (show (Value.none == Value.none) = true from by simp)]
 refine wpAny_pure ?_
 show wpAny _ A (updateField e 2 (.ref x) >>= _) _ _ s
 refine wpAny_bind ?_
 unfold updateField
 refine wpAny_bind (wpAny_load he ?_)
 rw [hed]
 show wpAny _ _ (if 2 < es.size then _ else _) _ _ s
 rw [if_pos hsz]
 refine wpAny_update he ?_
 exact wpAny_throw (h _ (Heap.SameBut.update ..) (Heap.get?_update_self _ he (Obj.isFreed_of_fields (Obj.data_mapFields hed _))))
theorem stop_on {it x : Addr} {h0 : Heap} {ox : Obj} {xs : Array Value} {Q : Option Value → Shared → Prop} {α : Type} (hh : A.handled = some (.ref x)) (hx : s.heap.get? x = some ox) (hxd : ox.data = .fields xs) (hx2 : xs[2]? = some .none)
   {P : α → Shared → Prop} (h : ∀ h' e, (∀ b o, s.heap.get? b = some o → h'.get? b = some o) → (∃ o, h'.get? e = some o ∧ o.cls = .type "StopIteration") → E (.ref e) { s with heap := h' }) :
   wpAny (model prog w) A (newExc (.type "StopIteration") [] >>= raiseNew (α := α)) P E s := by
 refine wpAny_bind ?_
 simp only [newExc, newTuple]
 refine wpAny_bind (wpAny_newObj_type ?_ (by size_fits))
 refine wpAny_bind (m := firstArgMember _ _) (wpAny_of_eq (a := Value.none) (by first | rfl | (simp only [firstArgMember]; rfl)) ?_)
 refine wpAny_newObj_type ?_ (by size_fits)
 have lt := Heap.lt_size hx
 refine raise_on hh (Nat.ne_of_lt (Nat.lt_of_lt_of_le lt (by show _ ≤ (s.heap.push _).objs.size; rw [Heap.size_push]; exact Nat.le_succ _))) (Heap.get?_push_size _ rfl) rfl (by simp; omega) (Heap.get?_push_of_some _ (Heap.get?_push_of_some _ hx)) hxd hx2 fun h' sb he => ?_
 refine h h' _ (fun b o e => ?_) ⟨_, he, ?_⟩
 · have e2 := Heap.get?_push_of_some { cls := .type "tuple", data := .seq ([] : List Value).toArray } e
   exact sb.extBut b o (Nat.ne_of_lt (Heap.lt_size e2)) (Heap.get?_push_of_some _ e2)
 · rw [Obj.cls_mapFields]
theorem next_list_endQ {it l x : Addr} {i : Nat} {items : Array Value} {ox : Obj} {xs : Array Value} {Q : Option Value → Shared → Prop} (hh : A.handled = some (.ref x)) (hx : s.heap.get? x = some ox) (hxd : ox.data = .fields xs) (hx2 : xs[2]? = some .none) (hxi : x ≠ it)
   (hit : s.heap.IsListIter it l i) (hl : s.heap.IsList l items) (hend : items[i]? = none)
   (hQ : ∀ h', Heap.ExtBut it s.heap h' → Q none { s with heap := h' }) : wpAny (model prog w) A (pyNext (.ref it)) Q E s := by
 obtain ⟨o, ho, hc, hd⟩ := id hit
 obtain ⟨ol, hol, _, nl, hdl⟩ := hl
 unfold pyNext
 refine wpAny_bind (wpAny_attempt (wpAny_callSpecial?_slot (name := Str.ofString "__next__") hit.typeIs slot_listiter_next
   (wpAny_call_entry slot_listiter_next hit.typeIs entry_listiter_next ?_ (args_listiter_next _))))
 show wpAny _ _ (field (.ref it) 0 >>= _) _ _ s
 refine wpAny_bind (wpAny_field ho hd (x := .ref l) rfl ?_)
 show wpAny _ _ (if (Value.ref l == Value.none) = true then _ else _) _ _ s
 rw [if_neg (show ¬ ((Value.ref l == Value.none) = true) from Bool.false_ne_true)]
 show wpAny _ _ (field (.ref it) 1 >>= _) _ _ s
 refine wpAny_bind (wpAny_field ho hd (x := .int i 0) rfl ?_)
 show wpAny _ _ (seqItems? (.ref l) >>= _) _ _ s
 refine wpAny_bind (wpAny_seqItems hol hdl ?_)
 simp only [Int.toNat_natCast, hend]
 refine wpAny_bind (wpAny_rule (wpAny_bind (wpAny_setField ho hd (by simp) ?_)))
 refine stop_on (it := it) (h0 := s.heap) (Q := Q) (A := A.in1) hh (by show (s.heap.update it _).get? x = some ox; rw [Heap.get?_update_other _ _ (Ne.symm hxi)]; exact hx) hxd hx2 fun h' e keep hcl => ?_
 obtain ⟨oe, hoe, hce⟩ := hcl
 refine wpAny_bind (wpAny_isInstance (T := "StopIteration") (b := true) ⟨oe, hoe, hce⟩ isSubtype_stop ?_)
 refine wpAny_pure (hQ _ fun b ob hb eb => keep b ob ?_)
 show (s.heap.update it _).get? b = some ob
 rw [Heap.get?_update_other _ _ (Ne.symm hb)]
 exact eb
theorem next_range_endQ {it x : Addr} {v left step : Int} {ox : Obj} {xs : Array Value} {Q : Option Value → Shared → Prop} (hh : A.handled = some (.ref x)) (hx : s.heap.get? x = some ox) (hxd : ox.data = .fields xs) (hx2 : xs[2]? = some .none)
   (hit : IsRangeIter s.heap it v left step) (hleft : left ≤ 0)
   (hQ : ∀ h', Heap.ExtBut it s.heap h' → Q none { s with heap := h' }) : wpAny (model prog w) A (pyNext (.ref it)) Q E s := by
 have hT : s.TypeIs (.ref it) "range_iterator" := ⟨_, hit, rfl⟩
 unfold pyNext
 refine wpAny_bind (wpAny_attempt (wpAny_callSpecial?_slot (name := Str.ofString "__next__") hT F.slot_range_iterator_next
   (wpAny_call_entry F.slot_range_iterator_next hT F.entry_range_iterator_next ?_ (F.args_range_iterator_next_1 _))))
 show wpAny _ _ (field (.ref it) 0 >>= _) _ _ s
 refine wpAny_bind (wpAny_field hit rfl (x := rawInt v) rfl ?_)
 show wpAny _ _ (field (.ref it) 1 >>= _) _ _ s
 refine wpAny_bind (wpAny_field hit rfl (x := rawInt left) rfl ?_)
 show wpAny _ _ (field (.ref it) 2 >>= _) _ _ s
 refine wpAny_bind (wpAny_field hit rfl (x := rawInt step) rfl ?_)
 show wpAny _ _ (if left ≤ 0 then _ else _) _ _ s
 rw [if_pos hleft]
 refine wpAny_bind (wpAny_rule ?_)
 refine wpAny_bind ?_
 refine stop_on (it := it) (h0 := s.heap) (Q := Q) (A := A.in1) hh hx hxd hx2 fun h' e keep hcl => ?_
 obtain ⟨oe, hoe, hce⟩ := hcl
 refine wpAny_bind (wpAny_isInstance (T := "StopIteration") (b := true) ⟨oe, hoe, hce⟩ isSubtype_stop ?_)
 exact wpAny_pure (hQ _ fun b ob hb eb => keep b ob eb)
end
end L2
namespace L2
open PySem PySem.Spec PyProof.Rows L3
def ItlQ (x0 : Addr) (K : PySem.W.Frag) (a : Addr) : It := ⟨(Itl K a).go, (Itl K a).yld, fun i H => (Itl K a).stop i H ∧ ∃ C dx, H x0 = some (excO x0 C dx)⟩
def ItrQ (x0 : Addr) (lo : Int) (n : Nat) : It := ⟨(Itr lo n).go, (Itr lo n).yld, fun i H => (Itr lo n).stop i H ∧ ∃ C dx, H x0 = some (excO x0 C dx)⟩
structure TurnQ (x0 : Addr) (P : Program) (w : World) (K : PySem.W.Frag) (tg : Expr) (J : It) (fp : List Addr) (it : Addr) (tn : Nat → Heap → Prop) : Prop where
 mem : it ∈ fp
 obj : ∀ i h, tn i h → ∀ b ∈ fp, ∃ o, h.get? b = some o ∧ ∀ v, o.data ≠ .cell v
 keep : ∀ i h h', tn i h → (∀ b ∈ fp, ∀ o, h.get? b = some o → h'.get? b = some o) → tn i h'
 item : ∀ (X : Cx), X.prog = P → X.w = w → X.K = K → X.A.handled = some (.ref x0) → ∀ (i : Nat) (pins : List (Addr × Obj)) (s : Shared) (σ : St) (H : Hp) (E : Value → Shared → Prop), Inv X pins σ H s → (∀ b ∈ fp, FpOk X pins H b) → tn i s.heap → J.go i H →
   wpAny (model P w) X.A (pyNext (.ref it)) (fun r s1 => ∃ u, r = some u ∧
     wpAny (model P w) X.A (letOwnedTupleGo tg (.ref it) u) (fun _ s2 => ∃ x H', Inv X pins σ H' s2 ∧ RelV x u ∧ J.yld i H x H' ∧ tn (i + 1) s2.heap ∧ ∀ b ∈ fp, H' b = none) E s1) E s
 done : ∀ (X : Cx), X.prog = P → X.w = w → X.K = K → X.A.handled = some (.ref x0) → ∀ (i : Nat) (pins : List (Addr × Obj)) (s : Shared) (σ : St) (H : Hp) (E : Value → Shared → Prop), Inv X pins σ H s → (∀ b ∈ fp, FpOk X pins H b) → tn i s.heap → J.stop i H →
   wpAny (model P w) X.A (pyNext (.ref it)) (fun r s1 => r = none ∧ Inv X pins σ H s1) E s
 self : ∀ (A : Around) (i : Nat) (s : Shared) (Q : Value → Shared → Prop) (E : Value → Shared → Prop), tn i s.heap → Q (.ref it) s → wpAny (model P w) A (pyIter (.ref it)) Q E s
def PIEQ (x0 : Addr) (X : Cx) (pins : List (Addr × Obj)) (σ : St) (tg : Expr) (R : It → Hp → Prop) (itv : Value) (s2 : Shared) : Prop :=
 ∃ (it : Addr) (fp : List Addr) (tn : Nat → Heap → Prop) (J : It) (H' : Hp), itv = .ref it ∧ Inv X pins σ H' s2 ∧ TurnQ x0 X.prog X.w X.K tg J fp it tn ∧ tn 0 s2.heap ∧ (∀ b ∈ fp, FpOk X pins H' b) ∧ R J H'
def PIQ (x0 : Addr) (X : Cx) (tg iter : Expr) (wi : TI) : Prop :=
 ∀ (pins : List (Addr × Obj)) (s : Shared) (σ : St) (H : Hp) (R : It → Hp → Prop), Inv X pins σ H s → wi σ H R →
   wpAny (model X.prog X.w) X.A (eval iter X.env) (fun v s1 => wpAny (model X.prog X.w) X.A (pyIter v) (PIEQ x0 X pins σ tg R) X.xe s1) X.xe s
theorem range_itemQ {prog : Program} {w : World} {A : Around} (it : Addr) (lo : Int) (n : Nat) (i : Nat) (s : Shared) (Q : Option Value → Shared → Prop) (E : Value → Shared → Prop) (hi : i < n) (st : IsRangeIter s.heap it (lo + (i : Nat) * 1) ((n : Int) - (i : Nat)) 1)
   (hQ : ∀ v h' tk, (∃ t, v = .int (lo + (i : Nat) * 1) t) → IsRangeIter h' it (lo + ((i + 1 : Nat) : Int) * 1) ((n : Int) - ((i + 1 : Nat) : Int)) 1 → (∀ b o, b ∉ [it] → s.heap.get? b = some o → h'.get? b = some o) → Q (some v) { s with heap := h', toks := tk }) : wpAny (model prog w) A (pyNext (.ref it)) Q E s := by
 refine wpAny_pyNext_range_item st (by omega) fun h' hit' hs' => ?_
 refine hQ _ h' _ ⟨_, rfl⟩ ?_ fun b o hb e => hs'.extBut b o (fun h => hb (by simp [h])) e
 have e1 : lo + ((i + 1 : Nat) : Int) * 1 = lo + (i : Int) * 1 + 1 := by omega
 have e2 : (n : Int) - ((i + 1 : Nat) : Int) = (n : Int) - (i : Int) - 1 := by omega
 rw [e1, e2]; exact hit'
theorem turn_listQ (x0 : Addr) {P : Program} {w : World} {K : PySem.W.Frag} {tg : Expr} (a it : Addr) : TurnQ x0 P w K tg (ItlQ x0 K a) [it] it (fun i h => h.IsListIter it a i) where
 mem := by simp
 obj := fun i h st b hb => by
   have e : b = it := by simpa using hb
   subst e
   obtain ⟨o, e, c, d⟩ := st
   exact ⟨o, e, fun v z => by rw [d] at z; cases z⟩
 keep := fun i h h' st k => st.at fun o e => k it (by simp) o e
 item := by
   intro X hP hw hK hc i pins s σ H E I hf st hg
   subst hP hw hK
   obtain ⟨xs, x, hq, hx⟩ := hg
   obtain ⟨its, rv, p, hz⟩ := I.list hq
   obtain ⟨u, hu, ru⟩ := rv.get hx
   obtain ⟨f0, f1, f2, f3, f4, f5⟩ := hf it (by simp)
   refine wpAny_pyNext_list_item st p.isList (x := u) (by simpa using hu) fun h' st' sb => ?_
   have I1 : Inv X pins σ H { s with heap := h' } := I.turned (t' := s.toks) (fun b o hb e => (sb.2 b hb).trans e) f0 f1 f3 f4 f5
   obtain ⟨o, e, c, d⟩ := id st'
   exact ⟨u, rfl, go_of (s := { s with heap := h' }) e c d (by decide) ⟨x, H, I1, ru, ⟨rfl, fun ys hy => by rw [I.list_inj hy hq]; exact hx⟩, st', fun b hb => (hf b hb).1⟩⟩
 done := by
   intro X hP hw hK hc i pins s σ H E I hf st hg
   subst hP hw hK
   obtain ⟨⟨xs, hq, hx⟩, C, dx, he⟩ := hg
   obtain ⟨its, rv, p, hz⟩ := I.list hq
   obtain ⟨f0, f1, f2, f3, f4, f5⟩ := hf it (by simp)
   have hl := rv.length
   obtain ⟨ox, vx, g1, _, _, g2, g3⟩ := excO_get I.hok he
   exact next_list_endQ hc g1 g2 g3 (ne_of_none he f0) st p.isList (by simp; omega) fun h' eb => ⟨rfl, I.turned (t' := s.toks) (fun b o hb e => eb b o hb e) f0 f1 f3 f4 f5⟩
 self := fun _ _ _ _ _ st h => wpAny_pyIter_listiter st h
theorem turn_rangeQ (x0 : Addr) {P : Program} {w : World} {K : PySem.W.Frag} {tg : Expr} (it : Addr) (lo : Int) (n : Nat) : TurnQ x0 P w K tg (ItrQ x0 lo n) [it] it (fun i h => IsRangeIter h it (lo + (i : Nat) * 1) ((n : Int) - (i : Nat)) 1) where
 mem := by simp
 obj := fun i h st b hb => by
   have e : b = it := by simpa using hb
   subst e
   exact ⟨_, st, fun v z => by
     have z' : Data.fields _ = Data.cell v := z
     cases z'⟩
 keep := fun i h h' st k => k it (by simp) _ st
 item := by
   intro X hP hw hK hc i pins s σ H E I hf st hg
   subst hP hw hK
   obtain ⟨f0, f1, f2, f3, f4, f5⟩ := hf it (by simp)
   refine range_itemQ it lo n i s _ _ hg st fun v h' tk hv st' kk => ?_
   obtain ⟨t, rfl⟩ := hv
   have I1 : Inv X pins σ H { s with heap := h', toks := tk } := I.turned (fun b o hb e => kk b o (by simpa using hb) e) f0 f1 f3 f4 f5
   refine ⟨_, rfl, go_of (s := { s with heap := h', toks := tk }) (n := "range_iterator") st' rfl rfl (by decide) ⟨.int (lo + i), H, I1, ⟨t, ?_⟩, ⟨rfl, rfl⟩, st', fun b hb => (hf b hb).1⟩⟩
   rw [Int.mul_one]
 done := by
   intro X hP hw hK hc i pins s σ H E I hf st hg
   subst hP hw hK
   obtain ⟨f0, f1, f2, f3, f4, f5⟩ := hf it (by simp)
   obtain ⟨hg, C, dx, he⟩ := hg
   obtain ⟨ox, vx, g1, _, _, g2, g3⟩ := excO_get I.hok he
   exact next_range_endQ hc g1 g2 g3 st (by have : n ≤ i := hg; omega) fun h' eb => ⟨rfl, I.turned (t' := s.toks) (fun b o hb e => eb b o hb e) f0 f1 f3 f4 f5⟩
 self := fun _ _ _ _ _ st h => wpAny_pyIter_rangeiter st h
section
variable {X : Cx} {tg : Expr}
def iListQ (x0 : Addr) (K : PySem.W.Frag) (tl : TE) : TI := fun σ H R => tl σ H fun x H1 => ∃ a, x = .ref a ∧ (∃ xs, SqL K H1 a xs) ∧ R (ItlQ x0 K a) H1
def iRng1Q (x0 : Addr) (ta : TA) : TI := fun σ H R => ta σ H fun vs H1 => ∃ j : Int, vs = [.int j] ∧ -(2 ^ 62) ≤ j ∧ j < 2 ^ 62 ∧ R (ItrQ x0 0 j.toNat) H1
theorem pi_listQ (x0 : Addr) {l : Expr} {tl : TE} (hl : PE X l tl) : PIQ x0 X tg l (iListQ x0 X.K tl) := by
 intro pins s σ H R I h
 refine thn (hl pins s σ H _ I h) fun v s1 ⟨x, H1, I1, r1, q1⟩ => ?_
 obtain ⟨a, e, ⟨xs, hq⟩, q⟩ := q1
 subst e
 cases r1
 obtain ⟨its, rv, p, hz⟩ := I1.list hq
 refine wpAny_pyIter_list p.isList ?_
 refine ⟨s1.heap.objs.size, [s1.heap.objs.size], _, _, H1, rfl, I1.kept (t' := s1.toks) fun b o e => Heap.get?_push_of_some _ e, turn_listQ x0 a _, ⟨_, Heap.get?_push_size _ rfl, rfl, rfl⟩, fun b hb => ?_, q⟩
 have e : b = s1.heap.objs.size := by simpa using hb
 subst e
 exact I1.fpOk (Nat.le_refl _) (I1.hok.fresh (Nat.le_refl _))
theorem range_itQ (x0 : Addr) {pins : List (Addr × Obj)} {σ : St} {H : Hp} {s : Shared} {R : It → Hp → Prop} {E : Value → Shared → Prop} {lo hi : Int} {t u v : Tok} {tk : Nat} (I : Inv X pins σ H s) (h1 : -(2 ^ 62) ≤ lo) (h2 : lo < 2 ^ 62) (h3 : -(2 ^ 62) ≤ hi) (h4 : hi < 2 ^ 62)
   (q : R (ItrQ x0 lo (hi - lo).toNat) H) : wpAny (model X.prog X.w) X.A (pyIter (.ref s.heap.objs.size)) (PIEQ x0 X pins σ tg R) E { s with heap := s.heap.push { cls := .type "range", data := .fields #[.int lo t, .int hi u, .int 1 v] }, toks := tk } := by
 refine wpAny_pyIter_range (IsRange.new ..) (small_one h1 h2 h3 h4) ?_
 have I1 : Inv X pins σ H { s with heap := s.heap.push { cls := .type "range", data := .fields #[.int lo t, .int hi u, .int 1 v] }, toks := tk } := I.kept fun b o e => Heap.get?_push_of_some _ e
 refine ⟨(s.heap.push { cls := .type "range", data := .fields #[.int lo t, .int hi u, .int 1 v] }).objs.size, [(s.heap.push { cls := .type "range", data := .fields #[.int lo t, .int hi u, .int 1 v] }).objs.size], _, _, H, rfl,
   I1.kept (t' := tk) fun b o e => Heap.get?_push_of_some _ e, turn_rangeQ x0 _ lo (hi - lo).toNat, ?_, fun b hb => ?_, q⟩
 · have e1 : lo + ((0 : Nat) : Int) * 1 = lo := by simp
   have e2 : (((hi - lo).toNat : Nat) : Int) - ((0 : Nat) : Int) = Builtin.Range.rangeSize lo hi 1 := by rw [rangeSize_one]; split <;> omega
   show IsRangeIter _ _ (lo + ((0 : Nat) : Int) * 1) ((((hi - lo).toNat : Nat) : Int) - ((0 : Nat) : Int)) 1
   rw [e1, e2]
   exact Heap.get?_push_size _ rfl
 · have e : b = (s.heap.push { cls := .type "range", data := .fields #[.int lo t, .int hi u, .int 1 v] }).objs.size := by simpa using hb
   subst e
   exact I1.fpOk (Nat.le_refl _) (I1.hok.fresh (Nat.le_refl _))
theorem pi_range1Q (x0 : Addr) {a : Expr} {ta : TA} {p pos : Pos} (hg : Gl X "range") (hm : X.mg "range" = none) (ha : PA X [a] ta) (hs : starEach [a] X.env = [(false, eval a X.env)] := by rfl) : PIQ x0 X tg (.Call (.Name "range" p) [a] [] pos) (iRng1Q x0 ta) := by
 intro pins s σ H R I h
 refine Call_ (ld_blt I hg hm boot_range (PyProof.Rows.callWith_type1 (thn (ha pos pins s σ H _ I h) fun us s1 ⟨vs, H1, I1, r1, q1⟩ => ?_) hs rfl))
 obtain ⟨j, e, q1, q2, q⟩ := q1
 subst e
 cases r1 with
 | cons r rr =>
   cases rr
   obtain ⟨t, rfl⟩ := r
   exact call_range_1 (range_itQ x0 I1 (by omega) (by omega) q1 q2 (by simpa using q))
theorem ps_forQ (x0 : Addr) {iter : Expr} {body : List Stmt} {wi : TI} {g : TG} {tb : TS} {pos : Pos} (hp : PassesOwn (model X.prog X.w) X.A X.env X.xe) (hc : X.A.handled = some (.ref x0)) (hi : PIQ x0 X tg iter wi) (hg : PG X tg g) (hb : PSs X body tb)
   (hs : ∀ x, foldedSetIterable iter X.env x = pure x := by intro _; rfl) : PS X (.For tg iter body [] pos) (tFor wi g tb) := by
 intro pins s σ H D I h
 refine wpAny_For (thn (hi pins s σ H _ I h) fun v s1 h1 => thn h1 fun itv s2 h2 => ?_) hs
 obtain ⟨it, fp, tn, J, H2, e, I2, T, st2, f2, W, ⟨m0, w0⟩, turn⟩ := h2
 subst e
 -- what stays true of the iterator's objects through the loop
 have stat : ∀ {H' : Hp}, (∀ b ∈ fp, H' b = none) → ∀ b ∈ fp, FpOk X pins H' b := fun hn b hb => ⟨hn b hb, (f2 b hb).2⟩
 refine codeAny_forLoop_any (fun n s' => ∃ i σ' H', Inv X pins σ' H' s' ∧ tn i s'.heap ∧ (∀ b ∈ fp, H' b = none) ∧ W i n σ' H') ?_ m0 ⟨0, σ, H2, I2, st2, fun b hb => (f2 b hb).1, w0⟩
 rintro n s3 ⟨i, σ3, H3, I3, st3, fr3, w3⟩
 rcases turn i n σ3 H3 w3 with ⟨stop, qn⟩ | ⟨go, N, hN, step⟩
 · refine wpAny_passesOwn hp (thn (T.done X rfl rfl rfl hc i pins s3 σ3 H3 X.xe I3 (stat fr3) st3 stop) fun r s4 ⟨hr, I4⟩ => ?_)
   subst hr
   exact wpAny_execs_nil ⟨σ3, H3, I4, qn⟩
 · refine wpAny_passesOwn hp (thn (T.item X rfl rfl rfl hc i pins s3 σ3 H3 X.xe I3 (stat fr3) st3 go) fun r s4 ⟨u, hr, h4⟩ => ?_)
   subst hr
   refine wpAny_passesOwn hp (thn h4 fun _ s5 ⟨x, H5, I5, r5, y5, st5, fr5⟩ => ?_)
   have I5' := I5.pinned (stat fr5) (T.obj _ _ st5)
   refine wpAny_passesOwn hp (thn (hg _ s5 σ3 H5 x u _ I5' r5 (step x H5 y5)) fun _ s6 ⟨σ6, H6, I6, q6⟩ => ?_)
   refine wpAny_passesOwn hp (thn (hb _ s6 σ6 H6 _ I6 q6) fun f s7 q7 => ?_)
   have again : ∀ {σ7 : St} {H7 : Hp}, Inv X (pins ++ pinsAt fp s5.heap) σ7 H7 s7 → N σ7 H7 → ∃ m, m < n ∧ ∃ i σ' H', Inv X pins σ' H' s7 ∧ tn i s7.heap ∧ (∀ b ∈ fp, H' b = none) ∧ W i m σ' H' := fun {σ7 H7} I7 n7 => by
     obtain ⟨m', hm, w7⟩ := hN σ7 H7 n7
     refine ⟨m', hm, i + 1, σ7, H7, I7.unpinned, T.keep _ _ _ st5 fun b hb o e => (I7.pin (b, o) (List.mem_append_right _ (List.mem_append_right _ (mem_pinsAt hb e)))).1, fun b hb => ?_, w7⟩
     obtain ⟨o, e, d⟩ := T.obj _ _ st5 b hb
     exact (I7.pin (b, o) (List.mem_append_right _ (List.mem_append_right _ (mem_pinsAt hb e)))).2.1
   cases f with
   | next => obtain ⟨σ7, H7, I7, n7⟩ := q7; exact again I7 n7
   | cont => obtain ⟨σ7, H7, I7, n7⟩ := q7; exact again I7 n7
   | brk => obtain ⟨σ7, H7, I7, q7⟩ := q7; exact ⟨σ7, H7, I7.unpinned, q7⟩
   | ret v => obtain ⟨x7, σ7, H7, I7, r7, q7⟩ := q7; exact ⟨x7, σ7, H7, I7.unpinned, r7, q7⟩
theorem for_listQ {x0 : Addr} {K : PySem.W.Frag} {a : Addr} {xs : List V} {g : TG} {tb : TS} {D : Ends} {σ : St} {H : Hp} (Pv : Nat → St → Hp → Prop) (h0 : Pv 0 σ H) (hl : ∀ i σ H, i ≤ xs.length → Pv i σ H → SqL K H a xs) (hx : ∀ i σ H, Pv i σ H → ∃ C dx, H x0 = some (excO x0 C dx))
   (hs : ∀ i x σ H, xs[i]? = some x → Pv i σ H → g x σ H fun σ2 H2 => tb { D with nx := Pv (i + 1), ct := Pv (i + 1), bk := D.nx } σ2 H2) (hd : ∀ σ H, Pv xs.length σ H → D.nx σ H) :
   ∃ W : Nat → Nat → St → Hp → Prop, (∃ m, W 0 m σ H) ∧ ∀ i m σ H, W i m σ H →
     ((ItlQ x0 K a).stop i H ∧ D.nx σ H) ∨ ((ItlQ x0 K a).go i H ∧ ∃ N : St → Hp → Prop, (∀ σ' H', N σ' H' → ∃ m', m' < m ∧ W (i + 1) m' σ' H') ∧ ∀ x H', (ItlQ x0 K a).yld i H x H' → g x σ H' fun σ2 H2 => tb { D with nx := N, ct := N, bk := D.nx } σ2 H2) := by
 refine ⟨fun i m σ H => m = xs.length - i ∧ i ≤ xs.length ∧ Pv i σ H, ⟨xs.length, by simp, Nat.zero_le _, h0⟩, ?_⟩
 rintro i m σ H ⟨rfl, hi, p⟩
 have q := hl i σ H hi p
 by_cases hlt : i < xs.length
 · refine .inr ⟨⟨xs, xs[i], q, by simp [hlt]⟩, Pv (i + 1), fun σ' H' p' => ⟨xs.length - (i + 1), by omega, rfl, hlt, p'⟩, fun x H' y => ?_⟩
   obtain ⟨e, y⟩ := y
   subst e
   exact hs i x σ _ (y xs q) p
 · have e : i = xs.length := by omega
   subst e
   exact .inl ⟨⟨⟨xs, q, Nat.le_refl _⟩, hx _ _ _ p⟩, hd σ H p⟩
theorem lc_listQ {x0 : Addr} {K : PySem.W.Frag} {a : Addr} {xs : List V} {T : V → Hp → VK → Prop} {R : Addr → Hp → List V → Prop} {H : Hp} (Pv : Nat → List V → Hp → Prop) (h0 : Pv 0 [] H) (hn : xs.length ≤ sizeLine) (hl : ∀ i ys H, i ≤ xs.length → Pv i ys H → SqL K H a xs ∧ ys.length = i) (hx : ∀ i ys H, Pv i ys H → ∃ C dx, H x0 = some (excO x0 C dx))
   (hs : ∀ i x ys H, xs[i]? = some x → Pv i ys H → T x H fun y H2 => Pv (i + 1) (ys ++ [y]) H2) (hd : ∀ ys H, Pv xs.length ys H → ∀ l, H l = none → R l H ys) :
   ∃ W : Nat → Nat → List V → Hp → Prop, (∃ m, W 0 m [] H) ∧ ∀ i m ys H, W i m ys H →
     ((ItlQ x0 K a).stop i H ∧ ∀ l, H l = none → R l H ys) ∨ ((ItlQ x0 K a).go i H ∧ ys.length < sizeLine ∧ ∃ N : VK, (∀ y H2, N y H2 → ∃ m', m' < m ∧ W (i + 1) m' (ys ++ [y]) H2) ∧ ∀ x H', (ItlQ x0 K a).yld i H x H' → T x H' N) := by
 refine ⟨fun i m ys H => m = xs.length - i ∧ i ≤ xs.length ∧ Pv i ys H, ⟨xs.length, by simp, Nat.zero_le _, h0⟩, ?_⟩
 rintro i m ys H ⟨rfl, hi, p⟩
 obtain ⟨q, hy⟩ := hl i ys H hi p
 by_cases hlt : i < xs.length
 · refine .inr ⟨⟨xs, xs[i], q, by simp [hlt]⟩, by omega, fun y H2 => Pv (i + 1) (ys ++ [y]) H2, fun y H2 p' => ⟨xs.length - (i + 1), by omega, rfl, hlt, p'⟩, fun x H' ⟨e, y⟩ => ?_⟩
   subst e
   exact hs i x ys _ (y xs q) p
 · have e : i = xs.length := by omega
   subst e
   exact .inl ⟨⟨⟨xs, q, Nat.le_refl _⟩, hx _ _ _ p⟩, hd ys H p⟩
theorem lc_rangeQ {x0 : Addr} {lo : Int} {n : Nat} {T : V → Hp → VK → Prop} {R : Addr → Hp → List V → Prop} {H : Hp} (Pv : Nat → List V → Hp → Prop) (h0 : Pv 0 [] H) (hn : n ≤ sizeLine) (hl : ∀ i ys H, i ≤ n → Pv i ys H → ys.length = i) (hx : ∀ i ys H, Pv i ys H → ∃ C dx, H x0 = some (excO x0 C dx))
   (hs : ∀ i ys H, i < n → Pv i ys H → T (.int (lo + i)) H fun y H2 => Pv (i + 1) (ys ++ [y]) H2) (hd : ∀ ys H, Pv n ys H → ∀ l, H l = none → R l H ys) :
   ∃ W : Nat → Nat → List V → Hp → Prop, (∃ m, W 0 m [] H) ∧ ∀ i m ys H, W i m ys H →
     ((ItrQ x0 lo n).stop i H ∧ ∀ l, H l = none → R l H ys) ∨ ((ItrQ x0 lo n).go i H ∧ ys.length < sizeLine ∧ ∃ N : VK, (∀ y H2, N y H2 → ∃ m', m' < m ∧ W (i + 1) m' (ys ++ [y]) H2) ∧ ∀ x H', (ItrQ x0 lo n).yld i H x H' → T x H' N) := by
 refine ⟨fun i m ys H => m = n - i ∧ i ≤ n ∧ Pv i ys H, ⟨n, by simp, Nat.zero_le _, h0⟩, ?_⟩
 rintro i m ys H ⟨rfl, hi, p⟩
 have hy := hl i ys H hi p
 by_cases hlt : i < n
 · refine .inr ⟨hlt, by omega, fun y H2 => Pv (i + 1) (ys ++ [y]) H2, fun y H2 p' => ⟨n - (i + 1), by omega, rfl, hlt, p'⟩, fun x H' ⟨e, y⟩ => ?_⟩
   subst e y
   exact hs i ys _ hlt p
 · have e : i = n := by omega
   subst e
   exact .inl ⟨⟨Nat.le_refl _, hx _ _ _ p⟩, hd ys H p⟩
end
section
variable {X : Cx}
theorem lc_coreQ (x0 : Addr) {elt iter : Expr} {x : Str} {px pos cpos : Pos} {scope : Scope} {cl : List (Str × Addr)} {wi : TI} {te : TE} {js : List Nat} {use : Option (Value → Sem Unit)} {Qc : Value → Shared → Prop} {pins : List (Addr × Obj)} {s : Shared} {σ : St} {H : Hp} {Q : VK}
   (hc : X.A.handled = some (.ref x0)) (L : LcOk X x scope cl js) (hi : PIQ x0 X (.Name x px) iter wi) (G : Cx → Prop)
   (he : ∀ C s2 H2 fp xe, G (X.inC scope cl C s2 H2 fp (x :: js.map (fun j => X.N.getD j "")) xe) → PE (X.inC scope cl C s2 H2 fp (x :: js.map (fun j => X.N.getD j "")) xe) elt te)
   (hG : ∀ (C D : Addr) (s2 : Shared) (H2 : Hp) (fp : List Addr), Inv X pins σ H2 s2 → (∀ b ∈ fp, FpOk X pins H2 b) → (∀ b ∈ fp, ∃ o, s2.heap.get? b = some o) → s2.heap.objs.size < C →
     G (X.inC scope cl C s2 H2 fp (x :: js.map (fun j => X.N.getD j "")) (notedBy (model X.prog X.w) X.A (compEnvC scope cl C X.env) fun e s' => compPost (model X.prog X.w) X.A X.xe use Qc (.ref D) C (.error e) s')))
   (hs : ∀ z, foldedSetIterable iter X.env z = pure z) (I : Inv X pins σ H s) (h : tLC wi te js σ H Q)
   (fin : ∀ (D C : Addr) (H4 : Hp) (s4 : Shared) (m : Str → Option Value), s4.heap.Ns C m → FpOk X pins H4 C → (∀ h', Heap.SameBut C s4.heap h' → Inv X pins σ H4 { s4 with heap := h' }) → Q (.ref D) H4 → compPost (model X.prog X.w) X.A X.xe use Qc (.ref D) C (.ok .next) s4) :
   wpAny (model X.prog X.w) X.A (comprehension (.ListComp elt [⟨.Name x px, iter, [], 0⟩] scope pos) scope X.env cpos (newList []) false (eval iter X.env) use) Qc X.xe s := by
 refine wpAny_comprehension_free (cl := cl) (use := use) rfl hs L.clos L.kind L.names ?_
 refine thn (hi pins s σ H _ I h) fun v s1 h1 => thn h1 fun itv s2 h2 => ?_
 obtain ⟨it, fp, tn, J, H2, e, I2, T, st2, f2, W, ⟨k0, w0⟩, turn⟩ := h2
 subst e
 refine wpAny_newObj_type (wpAny_newFunctionEnv L.cell (by intro y hy; simp at hy) (fun h₁ hns₁ hsb₁ => ?_) L.kind)
 dsimp only at hns₁ hsb₁ ⊢
 generalize hH2 : s2.heap.push { cls := .type "list", dict := none, data := .seq ([] : List Value).toArray } = Hp2 at hns₁ hsb₁ ⊢
 have hC : Hp2.objs.size = s2.heap.objs.size + 1 := by rw [← hH2, Heap.size_push]
 generalize hD0 : s2.heap.objs.size = D at hC ⊢
 generalize hC0 : Hp2.objs.size = C at hC hns₁ hsb₁ ⊢
 have hDC : D ≠ C := by omega
 have below : ∀ b, b < D → b ≠ C := fun b hb => by omega
 have old : ∀ b o, s2.heap.get? b = some o → h₁.get? b = some o := fun b o e =>
   hsb₁.extBut b o (below b (by rw [← hD0]; exact Heap.lt_size e)) (Heap.get?_push_of_some _ (hH2 ▸ Heap.get?_push_of_some _ e))
 have hacc : h₁.get? D = some { cls := .type "list", data := .seq ([] : List Value).toArray 0 } := by
   subst hD0
   exact hsb₁.extBut _ _ hDC (Heap.get?_push_of_some _ (hH2 ▸ Heap.get?_push_size _ rfl))
 have fo : ∀ b ∈ fp, ∃ o, s2.heap.get? b = some o := fun b hb => let ⟨o, e, _⟩ := T.obj _ _ st2 b hb; ⟨o, e⟩
 have flt : ∀ b ∈ fp, b < D := fun b hb => let ⟨o, e⟩ := fo b hb; by rw [← hD0]; exact Heap.lt_size e
 have st1 : tn 0 h₁ := T.keep _ _ _ st2 fun b hb o e => old b o e
 have gx := hG C D s2 H2 fp I2 f2 fo (by omega)
 let R := compPost (model X.prog X.w) X.A X.xe use Qc (.ref D) C
 let xe := notedBy (model X.prog X.w) X.A (compEnvC scope cl C X.env) fun e s' => R (.error e) s'
 let X' := X.inC scope cl C s2 H2 fp (x :: js.map (fun j => X.N.getD j "")) xe
 have I0 : ∀ {t' : Nat}, Inv X' [(D, _)] (none :: js.map (fun j => σ.getD j none)) H2 { s2 with heap := h₁, toks := t' } := fun {t'} =>
   Inv.inC L I2 f2 fo (by omega) (by omega) hDC old hns₁ hacc (fun v z => by cases z)
 have fpk : ∀ {pD : List (Addr × Obj)} {H' : Hp}, (∀ p ∈ pD, p.1 = D) → (∀ b ∈ fp, H' b = none) → ∀ b ∈ fp, FpOk X' pD H' b := fun {pD H'} hp hn b hb => by
   refine ⟨hn b hb, below b (flt b hb), fun z => ?_, .inl hb, fun y c e => (f2 b hb).2.2.2.2.1 y c (L.sub y c e), fun p hp' z => ?_⟩
   · rcases List.mem_cons.mp (I2.stkSub b z) with e | e
     · exact (f2 b hb).2.1 e
     · exact (f2 b hb).2.2.1 e
   · have q := hp p (by simpa [X', Cx.inC] using hp')
     have := flt b hb
     rw [← z, q] at this
     exact Nat.lt_irrefl _ this
 have loop : ∀ s3 : Shared, (∃ k i ys H' its n σ0, Inv X' [(D, { cls := .type "list", data := .seq (its : List Value).toArray n })] (σ0 :: js.map (fun j => σ.getD j none)) H' s3 ∧ tn i s3.heap ∧ (∀ b ∈ fp, H' b = none) ∧ W i k ys H' ∧ Vals ys its ∧ ys.length ≤ sizeLine) →
     codeAny (model X.prog X.w) X.A (.compLoop (.ListComp elt [⟨.Name x px, iter, [], 0⟩] scope pos) 0 (.ref it) (.ref D) (compEnvC scope cl C X.env)) R s3 := by
   rintro s3 ⟨k, hk⟩
   refine codeAny_loop rfl (fun k s3 => ∃ i ys H' its n σ0, Inv X' [(D, { cls := .type "list", data := .seq (its : List Value).toArray n })] (σ0 :: js.map (fun j => σ.getD j none)) H' s3 ∧ tn i s3.heap ∧ (∀ b ∈ fp, H' b = none) ∧ W i k ys H' ∧ Vals ys its ∧ ys.length ≤ sizeLine) (fun k s3 hI => ?_) k hk
   obtain ⟨i, ys, H3, its, n, σ0, I3, st3, fr3, w3, vy, hz⟩ := hI
   show wpAny _ _ ((compTurn (.ListComp elt [⟨.Name x px, iter, [], 0⟩] scope pos) 0 (.ref it) (.ref D) (compEnvC scope cl C X.env)).onRaise (fun x => do noteFrame x (compEnvC scope cl C X.env); theTreesLotGoes x)) _ _ s3
   refine wpAny_noted ?_
   rw [compTurn_list1]
   have hpD : ∀ {o : Obj}, ∀ p ∈ [(D, o)], p.1 = D := fun p hp => by rw [List.mem_singleton.mp hp]
   refine wpAny_bind (wpAny_standAt (wpAny_bind ?_))
   rcases turn i k ys H3 w3 with ⟨stop, qn⟩ | ⟨go, hlen, N, hN, step⟩
   · refine thn (T.done X' rfl rfl rfl hc i _ s3 _ H3 xe I3 (fpk hpD fr3) st3 stop) fun r s4 ⟨hr, I4⟩ => ?_
     subst hr
     refine wpAny_pure ?_
     obtain ⟨m, hn, _⟩ := I4.loc
     obtain ⟨eD, nD, _⟩ := I4.pin (D, _) (List.mem_append_right _ (List.mem_singleton.mpr rfl))
     have fC : FpOk X pins (upd H3 D (.lst ys)) C := I2.fpOk (by omega) (by
       rw [upd_ne (Ne.symm hDC)]
       exact I4.free)
     refine fin D C (upd H3 D (.lst ys)) s4 m hn fC (fun h' sb => ?_) (qn D nD)
     obtain ⟨hh, g, d, t, os'⟩ := s4
     obtain rfl : os' = s2.os := I4.os
     have kp : ∀ b o, b ≠ C → hh.get? b = some o → h'.get? b = some o := fun b o hb e => (sb.2 b hb).trans e
     have lt2 : ∀ b o, s2.heap.get? b = some o → b ≠ C ∧ b ≠ D := fun b o e => by
       have q : b < D := by rw [← hD0]; exact Heap.lt_size e
       exact ⟨below b q, Nat.ne_of_lt q⟩
     have B : Un (frs X.stack) fp H2 H3 s2.heap hh := I4.base
     have hDn : H3 D = none := nD
     have I5 : Inv X pins σ (upd H3 D (.lst ys)) { s2 with heap := h', gens := g, drawn := d, toks := t } := by
       refine I2.call (h' := h') (g' := g) (d' := d) (t' := t) (ch := fp) ⟨?_, ?_, ?_, ?_, ?_, ?_, ?_⟩ ?_ I4.bare ?_
       · exact fun b o e n hb hx => kp b o (lt2 b o e).1 (B.keep b o e n hb hx)
       · intro b o e n hb hx
         obtain ⟨sl, q⟩ := B.slot b o e n hb hx
         exact ⟨sl, kp b _ (lt2 b o e).1 q⟩
       · intro b o e n hx
         rw [upd_ne (lt2 b o e).2]
         exact B.free b o e n hx
       · intro b o e hx
         obtain ⟨o', q⟩ := B.there b o e hx
         exact ⟨o', kp b o' (lt2 b o e).1 q⟩
       · intro b xs e
         have q := B.tups b xs e
         rw [upd_ne (ne_of_none q hDn)]
         exact q
       · intro b o u e
         have q := B.frzs b o u e
         rw [upd_ne (ne_of_none q hDn)]
         exact q
       · intro b ps e
         obtain ⟨more, q⟩ := B.tbls b ps e
         exact ⟨more, by rw [upd_ne (ne_of_none q hDn)]; exact q⟩
       · intro b u e
         by_cases hb : b = D
         · subst hb
           rw [upd_same] at e
           cases e
           exact ⟨hz, its, n, vy, kp _ _ hDC eD⟩
         · rw [upd_ne hb] at e
           have nC : ∀ c o, H3 c = some o → c ≠ C := fun c o q => ne_of_none q I4.free
           refine (I4.hok b u e).stay (fun c v hc' q => kp c v ?_ q) (fun c q => by rw [upd_ne (ne_of_none q hDn)]; exact q) fun c xs q => by rw [upd_ne (ne_of_none q hDn)]; exact q
           rcases hc' with z | z
           · rw [z]; exact nC b u e
           · exact nC c _ z
       · intro b hb
         obtain ⟨_, f1, _, f3, f4, f5⟩ := f2 b hb
         exact ⟨f3, f1, f4, f5⟩
     exact I5
   · refine thn (T.item X' rfl rfl rfl hc i _ s3 _ H3 xe I3 (fpk hpD fr3) st3 go) fun r s4 ⟨u, hr, h4⟩ => ?_
     subst hr
     refine wpAny_bind (thn h4 fun _ s5 ⟨xv, H5, I5, r5, y5, st5, fr5⟩ => ?_)
     have I5' := I5.pinned (fpk hpD fr5) (T.obj _ _ st5)
     refine wpAny_bind (thn (pg_name (X := X') (i := 0) L.nd rfl (Or.inl (lookup_relabel_local L.loc)) (Or.inr (lookup_relabel_local L.loc)) _ s5 _ H5 xv u (fun σ6 H6 => σ6 = some xv :: js.map (fun j => σ.getD j none) ∧ H6 = H5) I5' r5 ⟨rfl, rfl⟩) fun _ s6 ⟨σ6, H6, I6, e6, e6'⟩ => ?_)
     subst e6 e6'
     refine wpAny_bind (wpAny_bind (thn (he C s2 H2 fp xe gx _ s6 _ _ _ I6 (step xv _ y5)) fun y s7 ⟨yv, H7, I7, ry, n7⟩ => ?_))
     obtain ⟨m', hm, w7⟩ := hN yv H7 n7
     have I7' := I7.unpinned
     obtain ⟨eD, nD, neC, nfs, _⟩ := I7'.pin (D, _) (List.mem_append_right _ (List.mem_singleton.mpr rfl))
     have eD' : s7.heap.get? D = some { cls := .type "list", data := .seq its.toArray n } := eD
     have lv := vy.length
     refine wpAny_bind (call_meets F.slot_list_append ⟨_, eD', rfl⟩ F.entry_list_append (F.args_list_append_2 _ _) (PySem.list_append D its.toArray n y (by rw [List.size_toArray]; omega)) ⟨eD', ?_⟩)
     refine wpAny_pure (wpAny_pure ⟨rfl, m', hm, i + 1, ys ++ [yv], H7, its ++ [y], ?_⟩)
     have q := PySem.IsL.update eD' (fun a : Array Value => a.push y)
     have I8 : Inv X' [] (some xv :: js.map (fun j => σ.getD j none)) H7 { s7 with heap := s7.heap.update D (Obj.mapSeq (fun a : Array Value => a.push y)) } :=
       (I7'.pins_of (pins' := []) (fun p hp => nomatch hp)).turned (t' := s7.toks) (it := D) (fun b o hb e => (Heap.get?_update_other s7.heap _ (Ne.symm hb)).trans e) nD neC (.inr (by show s2.heap.objs.size ≤ D; omega))
         (fun z c e w => by
           obtain ⟨v', o', ho', _⟩ := I2.cell z c (L.sub z c e)
           have := Heap.lt_size ho'
           rw [w, hD0] at this
           exact Nat.lt_irrefl _ this) (fun p hp => nomatch hp)
     have pinf : ∀ b ∈ fp, ∀ o, s5.heap.get? b = some o → s7.heap.get? b = some o ∧ H7 b = none := fun b hb o e => by
       have z := I7.pin (b, o) (List.mem_append_right _ (List.mem_append_right _ (mem_pinsAt hb e)))
       exact ⟨z.1, z.2.1⟩
     obtain ⟨n', q'⟩ : ∃ n', (s7.heap.update D (Obj.mapSeq (fun a : Array Value => a.push y))).get? D = some { cls := .type "list", data := .seq (its ++ [y]).toArray n' } := by
       rw [show (its ++ [y]).toArray = its.toArray.push y by simp]
       exact ⟨_, q⟩
     refine ⟨n', some xv, I8.pins_of fun p hp => ?_, ?_, fun b hb => ?_, w7, vy.append (.cons ry .nil), by rw [List.length_append, List.length_singleton]; omega⟩
     · rw [List.mem_singleton.mp hp]
       exact ⟨q', nD, neC, nfs, fun v z => by cases z⟩
     · refine T.keep _ _ _ st5 fun b hb o e => ?_
       have hb' : D ≠ b := fun z => by
         have := flt b hb
         rw [← z] at this
         exact Nat.lt_irrefl _ this
       exact (Heap.get?_update_other s7.heap _ hb').trans (pinf b hb o e).1
     · obtain ⟨o, e, _⟩ := T.obj _ _ st5 b hb
       exact (pinf b hb o e).2
 have start : ∀ {t' : Nat}, ∃ k i ys H' its n σ0, Inv X' [(D, { cls := .type "list", data := .seq (its : List Value).toArray n })] (σ0 :: js.map (fun j => σ.getD j none)) H' { s2 with heap := h₁, toks := t' } ∧ tn i h₁ ∧ (∀ b ∈ fp, H' b = none) ∧ W i k ys H' ∧ Vals ys its ∧ ys.length ≤ sizeLine := fun {t'} =>
   ⟨k0, 0, [], H2, [], 0, none, I0, st1, fun b hb => (f2 b hb).1, w0, .nil, Nat.zero_le _⟩
 exact codeAny_compStart_list (loop _ start) (T.self X.A 0 _ _ _ st1 (loop _ start))
theorem pe_lcQ (x0 : Addr) {elt iter : Expr} {x : Str} {px pos : Pos} {scope : Scope} {cl : List (Str × Addr)} {wi : TI} {te : TE} (js : List Nat) (hc : X.A.handled = some (.ref x0)) (L : LcOk X x scope cl js) (hi : PIQ x0 X (.Name x px) iter wi)
   (he : ∀ C s2 H2 fp xe, PE (X.inC scope cl C s2 H2 fp (x :: js.map (fun j => X.N.getD j "")) xe) elt te)
   (hs : ∀ z, foldedSetIterable iter X.env z = pure z := by intro _; rfl) :
   PE X (.ListComp elt [⟨.Name x px, iter, [], 0⟩] scope pos) (tLC wi te js) := by
 intro pins s σ H Q I h
 rw [eval_ListComp]
 exact lc_coreQ x0 (use := none) hc L hi (fun _ => True) (fun C s2 H2 fp xe _ => he C s2 H2 fp xe) (fun _ _ _ _ _ _ _ _ _ => trivial) hs I h fun D C H4 s4 m hn _ I4 q => ⟨m, hn, fun h' sb => ⟨.ref D, H4, I4 h' sb, rfl, q⟩⟩
theorem lcN_coreQ (x0 : Addr) {elt iter : Expr} {x : Str} {px pos cpos : Pos} {scope : Scope} {cl : List (Str × Addr)} {wi : TI} {te : TE} {js : List Nat} {use : Option (Value → Sem Unit)} {Qc : Value → Shared → Prop} {pins : List (Addr × Obj)} {s : Shared} {σ : St} {H : Hp} {Q : VK}
   (hc : X.A.handled = some (.ref x0)) (L : LcOkN X x scope cl js) (hi : PIQ x0 X (.Name x px) iter wi)
   (he : ∀ C E s2 H2 fp xe, PE (X.inN x scope ((x, E) :: cl) C s2 H2 fp (x :: js.map (fun j => X.N.getD j "")) xe) elt te)
   (hs : ∀ z, foldedSetIterable iter X.env z = pure z) (I : Inv X pins σ H s) (h : tLC wi te js σ H Q)
   (fin : ∀ (D C : Addr) (H4 : Hp) (s4 : Shared) (m : Str → Option Value), s4.heap.Ns C m → FpOk X pins H4 C → (∀ h', Heap.SameBut C s4.heap h' → Inv X pins σ H4 { s4 with heap := h' }) → Q (.ref D) H4 → compPost (model X.prog X.w) X.A X.xe use Qc (.ref D) C (.ok .next) s4) :
   wpAny (model X.prog X.w) X.A (comprehension (.ListComp elt [⟨.Name x px, iter, [], 0⟩] scope pos) scope X.env cpos (newList []) false (eval iter X.env) use) Qc X.xe s := by
 refine wpAny_comprehension_free (cl := cl) (use := use) rfl hs L.clos L.kind L.names ?_
 refine thn (hi pins s σ H _ I h) fun v s1 h1 => thn h1 fun itv s2 h2 => ?_
 obtain ⟨it, fp, tn, J, H2, e, I2, T, st2, f2, W, ⟨k0, w0⟩, turn⟩ := h2
 subst e
 refine wpAny_newObj_type (newEnvCell L.cf L.pc L.kind ?_)
 dsimp only
 generalize hH2 : s2.heap.push { cls := .type "list", dict := none, data := .seq ([] : List Value).toArray } = Hp2
 have hC : Hp2.objs.size = s2.heap.objs.size + 1 := by rw [← hH2, Heap.size_push]
 have hns₀ : (Hp2.push { cls := .type "dict", data := .dict #[] }).Ns Hp2.objs.size (fun _ => none) := Heap.Ns.new ..
 generalize hH3 : Hp2.push { cls := .type "dict", data := .dict #[] } = Hp3 at hns₀
 have hE : Hp3.objs.size = s2.heap.objs.size + 2 := by rw [← hH3, Heap.size_push, hC]
 have hcl₁ : (Hp3.push { cls := .type "cell", data := .cell none }).IsCell Hp3.objs.size none := ⟨_, Heap.get?_push_size _ rfl, rfl⟩
 have hns₁ : (Hp3.push { cls := .type "cell", data := .cell none }).Ns Hp2.objs.size (fun _ => none) := hns₀.keeps fun b o e => Heap.get?_push_of_some _ e
 have kp₁ : ∀ b o, s2.heap.get? b = some o → (Hp3.push { cls := .type "cell", data := .cell none }).get? b = some o := fun b o e => Heap.get?_push_of_some _ (hH3 ▸ Heap.get?_push_of_some _ (hH2 ▸ Heap.get?_push_of_some _ e))
 have hac₁ : (Hp3.push { cls := .type "cell", data := .cell none }).get? s2.heap.objs.size = some { cls := .type "list", data := .seq ([] : List Value).toArray 0 } := Heap.get?_push_of_some _ (hH3 ▸ Heap.get?_push_of_some _ (hH2 ▸ Heap.get?_push_size _ rfl))
 generalize Hp3.push { cls := .type "cell", data := .cell none } = h₁ at hcl₁ hns₁ kp₁ hac₁
 have hD1 : Hp2.objs.size + 1 = Hp3.objs.size := by omega
 rw [hD1]
 generalize hD0 : s2.heap.objs.size = D at hC hE hac₁ ⊢
 generalize hC0 : Hp2.objs.size = C at hC hns₁ hD1 ⊢
 generalize hE0 : Hp3.objs.size = E at hE hcl₁ hD1 ⊢
 have hDC : D ≠ C := by omega
 have hDE : D ≠ E := by omega
 have hCE : C ≠ E := by omega
 have below : ∀ b, b < D → b ≠ C := fun b hb => by omega
 have belowE : ∀ b, b < D → E ≠ b := fun b hb => by omega
 have old : ∀ b o, s2.heap.get? b = some o → h₁.get? b = some o := kp₁
 have hacc : h₁.get? D = some { cls := .type "list", data := .seq ([] : List Value).toArray 0 } := hac₁
 have subN : ∀ y c, ((x, E) :: cl).lookup y = some c → (y = x ∧ c = E) ∨ (y ≠ x ∧ cl.lookup y = some c) := lookN
 have fo : ∀ b ∈ fp, ∃ o, s2.heap.get? b = some o := fun b hb => let ⟨o, e, _⟩ := T.obj _ _ st2 b hb; ⟨o, e⟩
 have flt : ∀ b ∈ fp, b < D := fun b hb => let ⟨o, e⟩ := fo b hb; by rw [← hD0]; exact Heap.lt_size e
 have st1 : tn 0 h₁ := T.keep _ _ _ st2 fun b hb o e => old b o e
 let R := compPost (model X.prog X.w) X.A X.xe use Qc (.ref D) C
 let xe := notedBy (model X.prog X.w) X.A (compEnvC scope ((x, E) :: cl) C X.env) fun e s' => R (.error e) s'
 let X' := X.inN x scope ((x, E) :: cl) C s2 H2 fp (x :: js.map (fun j => X.N.getD j "")) xe
 have I0 : ∀ {t' : Nat}, Inv X' [(D, _)] (none :: js.map (fun j => σ.getD j none)) H2 { s2 with heap := h₁, toks := t' } := fun {t'} =>
   Inv.inN L I2 f2 fo (by omega) (by omega) (by omega) hDC hDE old hns₁ hcl₁ hacc (fun v z => by cases z)
 have fpk : ∀ {pD : List (Addr × Obj)} {H' : Hp}, (∀ p ∈ pD, p.1 = D) → (∀ b ∈ fp, H' b = none) → ∀ b ∈ fp, FpOk X' pD H' b := fun {pD H'} hp hn b hb => by
   refine ⟨hn b hb, below b (flt b hb), fun z => ?_, .inl hb, (fun y c e => by
     rcases subN y c e with ⟨_, z⟩ | ⟨_, z⟩
     · rw [z]
       exact belowE b (flt b hb)
     · exact (f2 b hb).2.2.2.2.1 y c (L.sub y c z)), fun p hp' z => ?_⟩
   · rcases List.mem_cons.mp (I2.stkSub b z) with e | e
     · exact (f2 b hb).2.1 e
     · exact (f2 b hb).2.2.1 e
   · have q := hp p (by simpa [X', Cx.inN, Cx.inC] using hp')
     have := flt b hb
     rw [← z, q] at this
     exact Nat.lt_irrefl _ this
 have loop : ∀ s3 : Shared, (∃ k i ys H' its n σ0, Inv X' [(D, { cls := .type "list", data := .seq (its : List Value).toArray n })] (σ0 :: js.map (fun j => σ.getD j none)) H' s3 ∧ tn i s3.heap ∧ (∀ b ∈ fp, H' b = none) ∧ W i k ys H' ∧ Vals ys its ∧ ys.length ≤ sizeLine) →
     codeAny (model X.prog X.w) X.A (.compLoop (.ListComp elt [⟨.Name x px, iter, [], 0⟩] scope pos) 0 (.ref it) (.ref D) (compEnvC scope ((x, E) :: cl) C X.env)) R s3 := by
   rintro s3 ⟨k, hk⟩
   refine codeAny_loop rfl (fun k s3 => ∃ i ys H' its n σ0, Inv X' [(D, { cls := .type "list", data := .seq (its : List Value).toArray n })] (σ0 :: js.map (fun j => σ.getD j none)) H' s3 ∧ tn i s3.heap ∧ (∀ b ∈ fp, H' b = none) ∧ W i k ys H' ∧ Vals ys its ∧ ys.length ≤ sizeLine) (fun k s3 hI => ?_) k hk
   obtain ⟨i, ys, H3, its, n, σ0, I3, st3, fr3, w3, vy, hz⟩ := hI
   show wpAny _ _ ((compTurn (.ListComp elt [⟨.Name x px, iter, [], 0⟩] scope pos) 0 (.ref it) (.ref D) (compEnvC scope ((x, E) :: cl) C X.env)).onRaise (fun u => do noteFrame u (compEnvC scope ((x, E) :: cl) C X.env); theTreesLotGoes u)) _ _ s3
   refine wpAny_noted ?_
   rw [compTurn_list1]
   have hpD : ∀ {o : Obj}, ∀ p ∈ [(D, o)], p.1 = D := fun p hp => by rw [List.mem_singleton.mp hp]
   refine wpAny_bind (wpAny_standAt (wpAny_bind ?_))
   rcases turn i k ys H3 w3 with ⟨stop, qn⟩ | ⟨go, hlen, N, hN, step⟩
   · refine thn (T.done X' rfl rfl rfl hc i _ s3 _ H3 xe I3 (fpk hpD fr3) st3 stop) fun r s4 ⟨hr, I4⟩ => ?_
     subst hr
     refine wpAny_pure ?_
     obtain ⟨m, hn, _⟩ := I4.loc
     obtain ⟨eD, nD, _⟩ := I4.pin (D, _) (List.mem_append_right _ (List.mem_singleton.mpr rfl))
     have fC : FpOk X pins (upd H3 D (.lst ys)) C := I2.fpOk (by omega) (by
       rw [upd_ne (Ne.symm hDC)]
       exact I4.free)
     refine fin D C (upd H3 D (.lst ys)) s4 m hn fC (fun h' sb => ?_) (qn D nD)
     obtain ⟨hh, g, d, t, os'⟩ := s4
     obtain rfl : os' = s2.os := I4.os
     have kp : ∀ b o, b ≠ C → hh.get? b = some o → h'.get? b = some o := fun b o hb e => (sb.2 b hb).trans e
     have lt2 : ∀ b o, s2.heap.get? b = some o → b ≠ C ∧ b ≠ D := fun b o e => by
       have q : b < D := by rw [← hD0]; exact Heap.lt_size e
       exact ⟨below b q, Nat.ne_of_lt q⟩
     have B : Un (frs X.stack) fp H2 H3 s2.heap hh := I4.base
     have hDn : H3 D = none := nD
     have I5 : Inv X pins σ (upd H3 D (.lst ys)) { s2 with heap := h', gens := g, drawn := d, toks := t } := by
       refine I2.call (h' := h') (g' := g) (d' := d) (t' := t) (ch := fp) ⟨?_, ?_, ?_, ?_, ?_, ?_, ?_⟩ ?_ I4.bare ?_
       · exact fun b o e n hb hx => kp b o (lt2 b o e).1 (B.keep b o e n hb hx)
       · intro b o e n hb hx
         obtain ⟨sl, q⟩ := B.slot b o e n hb hx
         exact ⟨sl, kp b _ (lt2 b o e).1 q⟩
       · intro b o e n hx
         rw [upd_ne (lt2 b o e).2]
         exact B.free b o e n hx
       · intro b o e hx
         obtain ⟨o', q⟩ := B.there b o e hx
         exact ⟨o', kp b o' (lt2 b o e).1 q⟩
       · intro b xs e
         have q := B.tups b xs e
         rw [upd_ne (ne_of_none q hDn)]
         exact q
       · intro b o u e
         have q := B.frzs b o u e
         rw [upd_ne (ne_of_none q hDn)]
         exact q
       · intro b ps e
         obtain ⟨more, q⟩ := B.tbls b ps e
         exact ⟨more, by rw [upd_ne (ne_of_none q hDn)]; exact q⟩
       · intro b u e
         by_cases hb : b = D
         · subst hb
           rw [upd_same] at e
           cases e
           exact ⟨hz, its, n, vy, kp _ _ hDC eD⟩
         · rw [upd_ne hb] at e
           have nC : ∀ c o, H3 c = some o → c ≠ C := fun c o q => ne_of_none q I4.free
           refine (I4.hok b u e).stay (fun c v hc' q => kp c v ?_ q) (fun c q => by rw [upd_ne (ne_of_none q hDn)]; exact q) fun c xs q => by rw [upd_ne (ne_of_none q hDn)]; exact q
           rcases hc' with z | z
           · rw [z]; exact nC b u e
           · exact nC c _ z
       · intro b hb
         obtain ⟨_, f1, _, f3, f4, f5⟩ := f2 b hb
         exact ⟨f3, f1, f4, f5⟩
     exact I5
   · refine thn (T.item X' rfl rfl rfl hc i _ s3 _ H3 xe I3 (fpk hpD fr3) st3 go) fun r s4 ⟨u, hr, h4⟩ => ?_
     subst hr
     refine wpAny_bind (thn h4 fun _ s5 ⟨xv, H5, I5, r5, y5, st5, fr5⟩ => ?_)
     have I5' := I5.pinned (fpk hpD fr5) (T.obj _ _ st5)
     refine wpAny_bind (thn (pg_name (X := X') (i := 0) L.nd rfl (Or.inr L.xk) (Or.inl (decide_eq_true rfl)) _ s5 _ H5 xv u (fun σ6 H6 => σ6 = some xv :: js.map (fun j => σ.getD j none) ∧ H6 = H5) I5' r5 ⟨rfl, rfl⟩) fun _ s6 ⟨σ6, H6, I6, e6, e6'⟩ => ?_)
     subst e6 e6'
     refine wpAny_bind (wpAny_bind (thn (he C E s2 H2 fp xe _ s6 _ _ _ I6 (step xv _ y5)) fun y s7 ⟨yv, H7, I7, ry, n7⟩ => ?_))
     obtain ⟨m', hm, w7⟩ := hN yv H7 n7
     have I7' := I7.unpinned
     obtain ⟨eD, nD, neC, nfs, _⟩ := I7'.pin (D, _) (List.mem_append_right _ (List.mem_singleton.mpr rfl))
     have eD' : s7.heap.get? D = some { cls := .type "list", data := .seq its.toArray n } := eD
     have lv := vy.length
     refine wpAny_bind (call_meets F.slot_list_append ⟨_, eD', rfl⟩ F.entry_list_append (F.args_list_append_2 _ _) (PySem.list_append D its.toArray n y (by rw [List.size_toArray]; omega)) ⟨eD', ?_⟩)
     refine wpAny_pure (wpAny_pure ⟨rfl, m', hm, i + 1, ys ++ [yv], H7, its ++ [y], ?_⟩)
     have q := PySem.IsL.update eD' (fun a : Array Value => a.push y)
     have I8 : Inv X' [] (some xv :: js.map (fun j => σ.getD j none)) H7 { s7 with heap := s7.heap.update D (Obj.mapSeq (fun a : Array Value => a.push y)) } :=
       (I7'.pins_of (pins' := []) (fun p hp => nomatch hp)).turned (t' := s7.toks) (it := D) (fun b o hb e => (Heap.get?_update_other s7.heap _ (Ne.symm hb)).trans e) nD neC (.inr (by show s2.heap.objs.size ≤ D; omega))
         (fun z c e w => by
           rcases subN z c e with ⟨_, q⟩ | ⟨_, q⟩
           · exact hDE (w.symm.trans q)
           · obtain ⟨v', o', ho', _⟩ := I2.cell z c (L.sub z c q)
             have := Heap.lt_size ho'
             rw [w, hD0] at this
             exact Nat.lt_irrefl _ this) (fun p hp => nomatch hp)
     have pinf : ∀ b ∈ fp, ∀ o, s5.heap.get? b = some o → s7.heap.get? b = some o ∧ H7 b = none := fun b hb o e => by
       have z := I7.pin (b, o) (List.mem_append_right _ (List.mem_append_right _ (mem_pinsAt hb e)))
       exact ⟨z.1, z.2.1⟩
     obtain ⟨n', q'⟩ : ∃ n', (s7.heap.update D (Obj.mapSeq (fun a : Array Value => a.push y))).get? D = some { cls := .type "list", data := .seq (its ++ [y]).toArray n' } := by
       rw [show (its ++ [y]).toArray = its.toArray.push y by simp]
       exact ⟨_, q⟩
     refine ⟨n', some xv, I8.pins_of fun p hp => ?_, ?_, fun b hb => ?_, w7, vy.append (.cons ry .nil), by rw [List.length_append, List.length_singleton]; omega⟩
     · rw [List.mem_singleton.mp hp]
       exact ⟨q', nD, neC, nfs, fun v z => by cases z⟩
     · refine T.keep _ _ _ st5 fun b hb o e => ?_
       have hb' : D ≠ b := fun z => by
         have := flt b hb
         rw [← z] at this
         exact Nat.lt_irrefl _ this
       exact (Heap.get?_update_other s7.heap _ hb').trans (pinf b hb o e).1
     · obtain ⟨o, e, _⟩ := T.obj _ _ st5 b hb
       exact (pinf b hb o e).2
 have start : ∀ {t' : Nat}, ∃ k i ys H' its n σ0, Inv X' [(D, { cls := .type "list", data := .seq (its : List Value).toArray n })] (σ0 :: js.map (fun j => σ.getD j none)) H' { s2 with heap := h₁, toks := t' } ∧ tn i h₁ ∧ (∀ b ∈ fp, H' b = none) ∧ W i k ys H' ∧ Vals ys its ∧ ys.length ≤ sizeLine := fun {t'} =>
   ⟨k0, 0, [], H2, [], 0, none, I0, st1, fun b hb => (f2 b hb).1, w0, .nil, Nat.zero_le _⟩
 exact codeAny_compStart_list (loop _ start) (T.self X.A 0 _ _ _ st1 (loop _ start))
theorem pe_lcNQ (x0 : Addr) {elt iter : Expr} {x : Str} {px pos : Pos} {scope : Scope} {cl : List (Str × Addr)} {wi : TI} {te : TE} (js : List Nat) (hc : X.A.handled = some (.ref x0)) (L : LcOkN X x scope cl js) (hi : PIQ x0 X (.Name x px) iter wi)
   (he : ∀ C E s2 H2 fp xe, PE (X.inN x scope ((x, E) :: cl) C s2 H2 fp (x :: js.map (fun j => X.N.getD j "")) xe) elt te)
   (hs : ∀ z, foldedSetIterable iter X.env z = pure z := by intro _; rfl) :
   PE X (.ListComp elt [⟨.Name x px, iter, [], 0⟩] scope pos) (tLC wi te js) := by
 intro pins s σ H Q I h
 rw [eval_ListComp]
 exact lcN_coreQ x0 (use := none) hc L hi he hs I h fun D C H4 s4 m hn _ I4 q => ⟨m, hn, fun h' sb => ⟨.ref D, H4, I4 h' sb, rfl, q⟩⟩
end
theorem walksListQ {prog : Program} {w : World} {A : Around} {x0 : Addr} {ox : Obj} {vx : Array Value} (hh : A.handled = some (.ref x0)) (hxd : ox.data = .fields vx) (hx2 : vx[2]? = some .none) (I ax : Addr) (hne : ax ≠ I) (hxi : x0 ≠ I) (items : Array Value) :
   Walks prog w A I [I, ax, x0] [I] items.size (fun i v => items[i]? = some v) (fun i h => (h.IsListIter I ax i ∧ h.IsList ax items) ∧ h.get? x0 = some ox) where
 sub := fun b hb => by simp at hb; simp [hb]
 frame := fun _ _ _ st hk => ⟨⟨st.1.1.at fun o e => hk I (by simp) o e, st.1.2.at fun o e => hk ax (by simp) o e⟩, hk x0 (by simp) _ st.2⟩
 item := fun i s Q E hi st hQ => by
   refine wpAny_pyNext_list_item st.1.1 st.1.2 (x := items[i]) (by simp [hi]) fun h' hit' hs' => ?_
   exact hQ _ h' s.toks (by simp [hi]) ⟨⟨hit', st.1.2.extBut hs'.extBut hne⟩, hs'.extBut x0 _ hxi st.2⟩ fun b o hb e => hs'.extBut b o (fun h => hb (by simp [h])) e
 done := fun s Q E st hQ => next_list_endQ hh st.2 hxd hx2 hxi st.1.1 st.1.2 (by simp) fun h' he' => hQ h' s.toks fun b o hb e => he' b o (fun h => hb (by simp [h])) e
 self := fun _ _ _ _ st hQ => wpAny_pyIter_listiter st.1.1 hQ
section
variable {X : Cx}
theorem call_sumQ {x0 : Addr} (hh : X.A.handled = some (.ref x0)) : CallR X (.builtin "sum") (fun xs H Q => ∃ (p : Addr) (ns : List Int), xs = [.ref p] ∧ SqL X.K H p (ns.map V.int) ∧ (∃ C dx, H x0 = some (excO x0 C dx)) ∧ Q (.int ns.sum) H) := by
 intro pins s σ H xs us Q I r h
 obtain ⟨p, ns, rfl, hq, ⟨C, dx, he⟩, q⟩ := h
 obtain ⟨u, rfl, rx⟩ := vals1 r
 cases rx
 obtain ⟨its, r', pl, hz⟩ := I.list hq
 have hi := ints_of r'
 obtain ⟨xs, hx⟩ := hi.allInts.items
 have hl' : s.heap.IsList p (intItems xs) := hx ▸ pl.isList
 obtain ⟨ox, vx, g1, _, _, g2, g3⟩ := excO_get I.hok he
 have lx := Heap.lt_size g1
 refine call_sum_walkG (iter_intList hl' fun s₂ e st hfp hlI => ?_)
 subst e
 refine ⟨_, _, _, _, _, _, numAt xs, rfl, walksListQ (A := X.A.in1) hh g2 g3 _ p hlI (Nat.ne_of_lt lx) (intItems xs), ⟨st, Heap.get?_push_of_some _ g1⟩, (fun b hb => ?_), (fun _ _ => intItems_at), fun h' tk t' hk => ?_⟩
 · simp only [List.mem_cons, List.not_mem_nil, or_false] at hb
   rcases hb with rfl | rfl | rfl
   · exact hfp _ (by simp)
   · exact hfp _ (by simp)
   · show _ < (s.heap.push _).objs.size
     rw [Heap.size_push]
     exact Nat.lt_succ_of_lt lx
 have e1 : ns = xs.toList.map (·.1) := by
   rw [← nums_intItems, ← hx]
   exact (show numsOf its.toArray.toList = ns from hi.numsOf).symm
 have e2 : preSum (numAt xs) xs.size = ns.sum := by
   rw [preSum_eq, List.take_of_length_le (by simp), e1]
 have e3 : preSum (numAt xs) (intItems xs).size = ns.sum := by rw [← e2]; simp [intItems]
 rw [e3]
 exact ⟨.int ns.sum, H, I.kept (old_kept hk), ⟨t', rfl⟩, q⟩
theorem call_anyQ {x0 : Addr} (hh : X.A.handled = some (.ref x0)) : CallR X (.builtin "any") (fun xs H Q => ∃ (p : Addr) (bs : List Bool), xs = [.ref p] ∧ SqL X.K H p (bs.map V.bl) ∧ (∃ C dx, H x0 = some (excO x0 C dx)) ∧ Q (.bl (bs.any id)) H) := by
 intro pins s σ H xs us Q I r h
 obtain ⟨p, bs, rfl, hq, ⟨C, dx, he⟩, q⟩ := h
 obtain ⟨u, rfl, rx⟩ := vals1 r
 cases rx
 obtain ⟨its, r', pl, hz⟩ := I.list hq
 have hb := bools_of r'
 have hl := pl.isList
 have hlt : p < s.heap.objs.size := by obtain ⟨_, e, _⟩ := hl; exact Heap.lt_size e
 obtain ⟨ox, vx, g1, _, _, g2, g3⟩ := excO_get I.hok he
 refine call_any_walk (wpAny_pyIter_list hl ?_)
 refine ⟨s.heap.objs.size, [s.heap.objs.size, p, x0], [s.heap.objs.size], its.toArray.size, _, _, fun i => (bs[i]?).getD false, rfl, walksListQ (A := X.A.in1) hh g2 g3 _ p (Nat.ne_of_lt hlt) (Nat.ne_of_lt (Heap.lt_size g1)) its.toArray,
   ⟨⟨⟨_, Heap.get?_push_size _ rfl, rfl, rfl⟩, hl.push _⟩, Heap.get?_push_of_some _ g1⟩, fun i v s' Q' E' hP hQ => ?_, fun h' tk hk => ?_⟩
 · obtain ⟨b, e, rfl⟩ := hb.get i v (by simpa using hP)
   simp only [e, Option.getD_some] at hQ
   exact wpAny_truthy_bool hQ
 · have e : ((List.range its.toArray.size).any fun i => (bs[i]?).getD false) = bs.any id := by
     rw [List.size_toArray, hb.length]; exact LSm.range_any bs
   rw [e]
   exact ⟨.bl (bs.any id), H, I.kept (LSm.kept_iter hk), rfl, q⟩
theorem call_sumNQ {x0 : Addr} {x : Str} {scope : Scope} {cl : List (Str × Addr)} {C : Addr} {s2 : Shared} {H2 : Hp} {fp : List Addr} {N' : List Str} {xe : Value → Shared → Prop} (hh : X.A.handled = some (.ref x0)) : CallR (X.inN x scope cl C s2 H2 fp N' xe) (.builtin "sum") (fun xs H Q => ∃ (p : Addr) (ns : List Int), xs = [.ref p] ∧ SqL X.K H p (ns.map V.int) ∧ (∃ C dx, H x0 = some (excO x0 C dx)) ∧ Q (.int ns.sum) H) := call_sumQ (X := X.inN x scope cl C s2 H2 fp N' xe) hh
def tTryQ (K : PySem.W.Frag) (CB : Addr) (i : Nat) (tb : (St → Prop) → XK → TS) (ts : Addr → TS) : TS := fun D σ H =>
 tb (fun σ' => σ' = σ) (fun C dx H' => PySem.W.exmOne K C (.ref CB) = some true ∧ ∀ x, H' x = none →
   ts x { nx := fun σ2 H2 => D.nx (σ2.set i none) H2, rt := D.rt, bk := fun σ2 H2 => D.bk (σ2.set i none) H2, ct := fun σ2 H2 => D.ct (σ2.set i none) H2 } (σ.set i (some (.ref x))) (upd H' x (excO x C dx))) D σ H
theorem ps_tryQ {body suite : List Stmt} {b0 : Stmt} {y n : Str} {np hpos pos : Pos} {CB : Addr} {i : Nat} {tb : (St → Prop) → XK → TS} {ts : Addr → TS} (hN : X.N.Nodup) (hi : X.N[i]? = some n) (hl : X.env.scope.names.lookup n = some .local)
   (hst : X.stack = X.env :: X.outer) (hfr : X.env.frame = some X.env.locals) (hg : Gl X y) (hm : X.mg y = some (.ref CB))
   (hb : ∀ (pn : List (Addr × Obj)) (E : Value → Shared → Prop) (R : St → Prop) (Ek : XK), PassesOwn (model X.prog X.w) X.A X.env E → XeIs (into X pn E) R Ek → PSs (into X pn E) body (tb R Ek)) (hs : ∀ x, PSs (sup X x) (b0 :: suite) (ts x))
   (hdb : (y == ("__debug__" : Str)) = false := by decide) : PS X (.Try body [.ExceptHandler (some (.Name y np)) (some n) (b0 :: suite) hpos] [] [] pos) (tTryQ X.K CB i tb ts) := by
 intro pins s σ H D I h
 refine wpAny_Try_except ?_
 have hxe : XeIs (into X (X.pn ++ pins) (fun e s1 => wpAny (model X.prog X.w) X.A (noteFrame e X.env) (fun _ s2 => wpAny (model X.prog X.w) X.A (setFlight e none)
     (fun _ s3 => wpAny (model X.prog X.w) X.A (handleBy e X.env [.ExceptHandler (some (.Name y np)) (some n) (b0 :: suite) hpos]) (SP X pins D) X.xe s3) X.xe s2) X.xe s1)) (fun σ' => σ' = σ)
     (fun C dx H' => PySem.W.exmOne X.K C (.ref CB) = some true ∧ ∀ x, H' x = none →
       ts x { nx := fun σ2 H2 => D.nx (σ2.set i none) H2, rt := D.rt, bk := fun σ2 H2 => D.bk (σ2.set i none) H2, ct := fun σ2 H2 => D.ct (σ2.set i none) H2 } (σ.set i (some (.ref x))) (upd H' x (excO x C dx))) := by
   rintro pins' σ' H' s' x C dx I' rfl ex ⟨hmt, hsu⟩
   have I1 : Inv X pins σ' H' s' := inv_outof I'
   have own : FpOk X pins H' x := fp_outof ex.own
   -- behind noteFrame and setFlight
   have fin : ∀ (T : Addr) (s3 : Shared), Inv X pins σ' H' s3 → FpOk X pins H' T → T ≠ x → Rec s3.heap x C dx (.ref T) → Tra s3.heap T .none →
       wpAny (model X.prog X.w) X.A (handleBy (.ref x) X.env [.ExceptHandler (some (.Name y np)) (some n) (b0 :: suite) hpos]) (SP X pins D) X.xe s3 := by
     intro T s3 I3 fT ne r3 t3
     have LT : PySem.W.Looks (model X.prog X.w) s3.heap (typeOf (.ref x)) C := by
       obtain ⟨oe, vs, he, hc, _⟩ := id r3
       exact hc ▸ (PySem.W.Looks.ld he).andThen .now
     refine wpAny_handleBy_cons (codeAny_handlers_test (ld_glob (X := sup X x) (inv_sup I3 x) hg hm ((PySem.W.exm_one I3.kIn LT hmt).here ?_) hdb)) (by intro z; cases z)
     show codeAny _ _ (.handlers (.ref x) [.ExceptHandler none (some n) (b0 :: suite) hpos] X.env) _ s3
     refine codeAny_handlers_suite_as (flight_none r3 ne t3 fun h4 a4 r4 t4 => ?_)
     have I4 : Inv X pins σ' H' { s3 with heap := h4 } := aft I3 (a4.mono (by simp) fun _ z => z) (by intro b hb; have : b = T := by simpa using hb
                                                                                                      subst this; exact fT)
     have I5 := track (o := excO x C dx) I4 own (excO_ok r4)
     refine store_ok (X := sup X x) (inv_sup I5 x) hN hi (.inl hl) (v := .ref x) rfl (fun s6 I6 => ?_) (.inr hl)
     refine wpAny_mono (hs x pins s6 _ _ _ I6 (hsu x own.1)) (fun f s7 q => ?_) fun _ _ z => z.elim
     cases f with
     | next => obtain ⟨σ7, H7, I7, q7⟩ := q; exact unbind_ok (inv_unsup I.ok I7) hN hi hl fun s8 I8 => ⟨_, _, I8, q7⟩
     | brk => obtain ⟨σ7, H7, I7, q7⟩ := q; exact unbind_ok (inv_unsup I.ok I7) hN hi hl fun s8 I8 => ⟨_, _, I8, q7⟩
     | cont => obtain ⟨σ7, H7, I7, q7⟩ := q; exact unbind_ok (inv_unsup I.ok I7) hN hi hl fun s8 I8 => ⟨_, _, I8, q7⟩
     | ret u => obtain ⟨v7, σ7, H7, I7, r7, q7⟩ := q; exact unbind_ok (inv_unsup I.ok I7) hN hi hl fun s8 I8 => ⟨v7, _, _, I8, r7, q7⟩
   have fr : X.A.frames = some (X.env :: X.outer) := by rw [I1.ok.frames, hst]
   have stk : s'.heap.FunFrames X.base (X.env :: X.outer) := by rw [← hst]; exact I1.stack
   have big : ∀ {T : Addr}, s'.heap.objs.size ≤ T → (∃ tb, Rec s'.heap x C dx tb) → T ≠ x := fun sz ⟨_, oe, _, he, _⟩ z => absurd (Nat.lt_of_lt_of_le (Heap.lt_size he) (z ▸ sz)) (Nat.lt_irrefl _)
   rcases ex.tr with r | ⟨T0, fl0, r, ne0, t0, f0⟩
   · refine note_new fr stk hfr r fun h' T a sz r' t' => ?_
     have J1 := aft I1 (by rw [hst]; exact a) (by intro b hb; have : b = x := by simpa using hb
                                                  subst this; exact own)
     have ne := big sz ⟨_, r⟩
     have fT := I1.fpOk (H' := H') sz (I1.hok.fresh sz)
     refine flight_none r' ne t' fun h2 a2 r2 t2 => ?_
     exact fin T _ (aft (h' := h2) J1 (a2.mono (by simp) fun _ z => z) (by intro b hb; have : b = T := by simpa using hb
                                                                           subst this; exact fT)) fT ne r2 t2
   · refine note_any fr stk hfr r ne0 t0 fun h' T fl' a sz r' t' => ?_
     have J1 := aft I1 (by rw [hst]; exact a) (by intro b hb
                                                  rcases (show b = x ∨ b = T0 by simpa using hb) with z | z
                                                  · subst z; exact own
                                                  · subst z; exact fp_outof f0)
     have ne : T ≠ x := by
       rcases sz with z0 | z0
       · rw [z0]; exact ne0
       · exact big z0 ⟨_, r⟩
     have fT : FpOk X pins H' T := by
       rcases sz with z0 | z0
       · rw [z0]; exact fp_outof f0
       · exact I1.fpOk (H' := H') z0 (I1.hok.fresh z0)
     refine flight_none r' ne t' fun h2 a2 r2 t2 => ?_
     exact fin T _ (aft (h' := h2) J1 (a2.mono (by simp) fun _ z => z) (by intro b hb; have : b = T := by simpa using hb
                                                                           subst this; exact fT)) fT ne r2 t2
 refine wpAny_mono (hb (X.pn ++ pins) _ _ _ PassesOwn.looking hxe [] s σ H D (inv_into I _) h) (fun f s1 q => ?_) fun _ _ z => z
 have q' := sp_outof q
 cases f with
 | next => exact wpAny_execs_nil q'
 | brk => exact q'
 | cont => exact q'
 | ret u => exact q'
end
structure FnOkH (P : Program) (w : World) (K : PySem.W.Frag) (mg : Str → Option Value) (base : Heap) (x0 : Addr) (k : Nat) (f : Addr) (fd : FuncData) (ps : List Str) (sp : Sp) : Prop where
 len : ∀ vs H Q E, sp vs H Q E → vs.length = ps.length
 run : ∀ (A : Around) (outer : List Env) (s : Shared) (H : Hp) (args : Args) (us : List Value) (vs : List V) (Q : VK) (E : XK), A.handled = some (.ref x0) → Room false k A → Env0 P w K mg base A outer s H → BindsTo s fd args (ps.zip us) → Vals vs us → sp vs H Q E →
   codeAny (model P w) A (.call (.ref f) args) (CR CX0 outer P w H s Q E) s
theorem FunD.okH {P : Program} {w : World} {K : PySem.W.Frag} {mg : Str → Option Value} {base : Heap} {x0 : Addr} {x qual : Str} {st : Stmt} {f : Addr} {fd : FuncData} {dV : Value} {N ps : List Str} {k : Nat} {sp : Sp} (F : FunD K x qual st f fd dV) (S : FnScope N ps (defScope st)) (len : ∀ vs H Q E, sp vs H Q E → vs.length = ps.length)
   (hbody : ∀ (cdv : Value) (A : Around) (outer : List Env) (s : Shared) (H : Hp) (vs : List V) (Q : VK) (E : XK), A.handled = some (.ref x0) → Room false k (A.deeper (envOfC qual (defScope st) s.heap.objs.size f cdv)) → sp vs H Q E →
     ∃ t, PSs (cxOf CX0 false P w K mg base N qual (defScope st) f cdv A outer s H E).nox (defBody st) t ∧ t { nx := fun _ H' => Q .non H', rt := Q } (start N vs) H) : FnOkH P w K mg base x0 (k + 1) f fd ps sp := by
 obtain ⟨oc, od, kV, doc, pm, an, cdv, ct, osl, rfl, lk, hcd⟩ := F.ex
 refine ⟨len, fun A outer s H args us vs Q E hh hr e0 hb r hsp => ?_⟩
 have hl := len _ _ _ _ hsp
 have KX : K.In s.heap := e0.mod.kin.keeps fun b o e => (e0.bs b o e).1
 have lim : s.heap.NoLimit := e0.mod.nolimit.keeps fun b o e => (e0.bs b o e).1
 have hkind : ∀ y ∈ ps.zip us, (defScope st).names.lookup y.1 = some .local ∨ ((defScope st).names.lookup y.1 = some .cell ∧ ((cellsFrom (s.heap.objs.size + 1) (defScope st).names []).lookup y.1).isSome = true) := fun ⟨n, v⟩ hy => by
   rcases S.par n (List.of_mem_zip hy).1 with q | q
   · exact .inl q
   · exact .inr ⟨q, PySem.W.cellsFrom_some _ _ _ (.inl q)⟩
 refine codeAny_call_function hr.depth (KX _ _ lk) rfl S.co S.gen rfl (PySem.W.codeRec_of KX hcd) (hb _ _ _ _ ?_)
 refine wpAny_newFunctionEnv_cells S.kind hkind fun env he s1 x => ?_
 subst he
 refine ⟨lim.keeps x.toInCall.keep, codeAny_func ?_⟩
 obtain ⟨t, ht, hq⟩ := hbody cdv A outer s H vs Q E hh (hr.deeper _) hsp
 have I : Inv (cxOf CX0 false P w K mg base N qual (defScope st) f cdv A outer s H E) [] (start N vs) H s1 := inv_start S hr.hd e0 hl r x
 refine wpAny_mono (ht.nox [] s1 (start N vs) H _ I hq) (fun fl s' hs => ?_) fun e s' hs => hs
 have fin : ∀ {σ' : St} {H' : Hp} {v : V} {u : Value}, Inv (cxOf CX0 false P w K mg base N qual (defScope st) f cdv A outer s H E) [] σ' H' s' → RelV v u → Q v H' → CE outer P w H s Q u s' :=
   fun {σ' H' v u} J rv q => ⟨v, H', J.os, J.bare, J.base, J.hok, rv, q⟩
 cases fl with
 | ret u =>
   obtain ⟨v, σ', H', J, rv, q⟩ := hs
   exact fin J rv q
 | next =>
   obtain ⟨σ', H', J, q⟩ := hs
   exact fin (v := V.non) (u := Value.none) J rfl q
 | brk =>
   obtain ⟨_, _, _, q⟩ := hs
   exact False.elim q
 | cont =>
   obtain ⟨_, _, _, q⟩ := hs
   exact False.elim q
def CalH (P : Program) (w : World) (K : PySem.W.Frag) (mg : Str → Option Value) (base : Heap) (k : Nat) (x : Str) (ps : List Str) (sp : Addr → Sp) : Prop :=
 ∃ f fd, (∀ x0, FnOkH P w K mg base x0 k f fd ps (sp x0)) ∧ mg x = some (.ref f) ∧ PySem.W.keepIn K (.ref f) = true ∧ Binds K fd ps []
section
variable {X : Cx} {k : Nat} {f : Addr} {fd : FuncData} {ps : List Str} {sp : Sp} {x : Str} {p pos : Pos} {e : Expr} {es : List Expr} {t : TA} {x0 : Addr}
theorem pe_callH (F : FnOkH X.prog X.w X.K X.mg X.base x0 k f fd ps sp) (hh : X.A.handled = some (.ref x0)) (hr : Room false k X.A) (hg : Gl X x) (hm : X.mg x = some (.ref f)) (hk : PySem.W.keepIn X.K (.ref f) = true) (hb : Binds X.K fd ps [])
   (hx : Passes CX0 X E0) (ha : PA X (e :: es) t) (hdb : (x == ("__debug__" : Str)) = false := by decide) (he : starEach (e :: es) X.env = (false, eval e X.env) :: starEach es X.env := by rfl) (hpl : (backTo pos (starEach es X.env)).any (·.1) = false := by rfl) :
   PE X (.Call (.Name x p) (e :: es) [] pos) (tCall sp [] E0 t) := by
 intro pins s σ H Q I h
 refine wpAny_Call_Name_kw (ld_glob I hg hm ?_ hdb)
 refine PySem.W.callWith_K (h₀ := X.base) I.ok.mod.kin hk (thn (ha pos pins s σ H _ I h) fun us s1 ⟨vs, H1, I1, r, q⟩ => ⟨I1.kIn, ?_⟩) he hpl
 have r2 : Vals (vs ++ []) (us ++ []) := r.append .nil
 have hl : (us ++ []).length = ps.length := by rw [← r2.length]; exact F.len _ _ _ _ q
 refine wpAny_call (codeAny_mono (F.run X.A X.stack s1 H1 ⟨us, []⟩ (us ++ []) (vs ++ []) Q E0 hh hr I1.env0 (hb s1 us I1.kIn hl) r2 q) fun r s' hq => ?_)
 cases r with
 | error e => exact hx pins σ H1 s1 e s' I1 hq
 | ok fl =>
   cases fl with
   | ret u => exact I1.after hq
   | next => exact False.elim hq
   | brk => exact False.elim hq
   | cont => exact False.elim hq
end
end L2
namespace N11
def gF (a b : Int) : Int := (Int.gcd a b : Nat)
theorem g_abs (a b : Int) : Int.gcd (a.natAbs : Int) (b.natAbs : Int) = Int.gcd a b := rfl
theorem g_turn {a b : Int} (ha : 0 ≤ a) (hb : 0 < b) : Int.gcd b (a.fmod b) = Int.gcd a b := by
 rw [Int.fmod_eq_emod_of_nonneg a (Int.le_of_lt hb)]
 obtain ⟨m, rfl⟩ := Int.eq_ofNat_of_zero_le ha
 obtain ⟨n, rfl⟩ := Int.eq_ofNat_of_zero_le (Int.le_of_lt hb)
 show Nat.gcd n (((m : Int) % (n : Int)).natAbs) = Nat.gcd m n
 rw [← Int.natCast_emod, Int.natAbs_natCast, Nat.gcd_comm n, ← Nat.gcd_rec, Nat.gcd_comm]
theorem g_out {a : Int} (ha : 0 ≤ a) : (Int.gcd a 0 : Int) = a := by
 rw [Int.gcd_zero_right]
 omega
theorem fm_lt {a b : Int} (hb : 0 < b) : 0 ≤ a.fmod b ∧ a.fmod b < b := ⟨Int.fmod_nonneg_of_pos a hb, Int.fmod_lt_of_pos a hb⟩
end N11
namespace N11
structure GI (o p a b : Int) : Prop where
 is : gF a b = gF o p
theorem start {a b : Int} (ha : 0 ≤ a) (hb : 0 ≤ b) : 0 ≤ a ∧ 0 ≤ b ∧ GI a b a b := ⟨ha, hb, ⟨rfl⟩⟩
theorem turn {o p a b : Int} (h : GI o p a b) (ha : 0 ≤ a) (hb : 0 < b) : 0 ≤ b ∧ 0 ≤ Int.fmod a b ∧ GI o p b (Int.fmod a b) := by
 refine ⟨by omega, (fm_lt hb).1, ⟨?_⟩⟩
 rw [← h.is]
 unfold gF
 rw [g_turn ha hb]
theorem fdiv_le (a b : Int) : (Int.fdiv a b).natAbs ≤ a.natAbs := by
 rcases a with (_ | k) | k <;> rcases b with (_ | j) | j
 all_goals first
   | exact Nat.zero_le _
   | exact Nat.div_le_self _ _
   | exact Nat.succ_le_succ (Nat.div_le_self _ _)
   | (show (Int.fdiv 0 _).natAbs ≤ 0; rw [Int.zero_fdiv]; exact Nat.le_refl _)
end N11
namespace N11
theorem g_turnE {a b : Int} (ha : 0 ≤ a) (hb : 0 < b) : gF b (a % b) = gF a b := by
 have h := g_turn ha hb
 rw [Int.fmod_eq_emod_of_nonneg a (Int.le_of_lt hb)] at h
 unfold gF
 rw [h]
theorem g_start (a b : Int) : gF ((a.natAbs : Nat) : Int) ((b.natAbs : Nat) : Int) = gF a b := by
 unfold gF
 rw [g_abs]
theorem g_end {a b x : Int} (h : gF x 0 = gF a b) (hx : 0 ≤ x) : x = gF a b := by
 rw [← h]
 unfold gF
 rw [g_out hx]
end N11
namespace N45
theorem gF_l (a b : Int) : N11.gF a b ∣ a := Int.gcd_dvd_left ..
theorem gF_r (a b : Int) : N11.gF a b ∣ b := Int.gcd_dvd_right ..
theorem gF_max {a b d : Int} (h1 : d ∣ a) (h2 : d ∣ b) : d ∣ N11.gF a b := Int.dvd_coe_gcd h1 h2
theorem gF_nn (a b : Int) : 0 ≤ N11.gF a b := Int.natCast_nonneg _
def gL (a : Int) (r : List Int) : Int := r.foldl N11.gF a
theorem gL_cons (a x : Int) (r : List Int) : gL a (x :: r) = gL (N11.gF a x) r := rfl
theorem gL_app (a x : Int) (r : List Int) : gL a (r ++ [x]) = N11.gF (gL a r) x := by
 unfold gL
 rw [List.foldl_append]
 rfl
theorem gL_nn : ∀ (r : List Int) (a : Int), 0 ≤ a → 0 ≤ gL a r
 | [], _, h => h
 | x :: r, a, _ => gL_nn r _ (gF_nn a x)
theorem gL_dvd : ∀ (r : List Int) (a : Int), gL a r ∣ a ∧ ∀ x ∈ r, gL a r ∣ x
 | [], a => ⟨Int.dvd_refl a, fun _ h => nomatch h⟩
 | x :: r, a => by
   obtain ⟨h1, h2⟩ := gL_dvd r (N11.gF a x)
   rw [gL_cons]
   refine ⟨Int.dvd_trans h1 (gF_l a x), fun y hy => ?_⟩
   rcases List.mem_cons.mp hy with e | e
   · rw [e]
     exact Int.dvd_trans h1 (gF_r a x)
   · exact h2 y e
theorem gL_max : ∀ (r : List Int) (a d : Int), d ∣ a → (∀ x ∈ r, d ∣ x) → d ∣ gL a r
 | [], _, _, h, _ => h
 | x :: r, a, d, h, hr => gL_max r _ d (gF_max h (hr x List.mem_cons_self)) fun y hy => hr y (List.mem_cons_of_mem _ hy)
def gt (r : List Int) (j : Nat) : Int := r.getD j 0
theorem gt_mem {r : List Int} {j : Nat} (h : j < r.length) : gt r j ∈ r := by
 unfold gt
 rw [List.getD_eq_getElem?_getD, List.getElem?_eq_getElem h]
 exact List.getElem_mem h
theorem gt_some {r : List Int} {j : Nat} (h : j < r.length) : r[j]? = some (gt r j) := by
 unfold gt
 rw [List.getD_eq_getElem?_getD, List.getElem?_eq_getElem h]
 rfl
theorem gt_out {r : List Int} {j : Nat} (h : r.length ≤ j) : gt r j = 0 := by
 unfold gt
 rw [List.getD_eq_getElem?_getD, List.getElem?_eq_none h]
 rfl
theorem mem_gt {r : List Int} {x : Int} (h : x ∈ r) : ∃ j, j < r.length ∧ gt r j = x := by
 obtain ⟨j, hj, e⟩ := List.getElem_of_mem h
 refine ⟨j, hj, ?_⟩
 unfold gt
 rw [List.getD_eq_getElem?_getD, List.getElem?_eq_getElem hj]
 exact e
theorem gt_map (f : Int → Int) {r : List Int} {j : Nat} (h : j < r.length) : gt (r.map f) j = f (gt r j) := by
 unfold gt
 rw [List.getD_eq_getElem?_getD, List.getD_eq_getElem?_getD, List.getElem?_map, List.getElem?_eq_getElem h]
 rfl
theorem gt_app_l {r s : List Int} {j : Nat} (h : j < r.length) : gt (r ++ s) j = gt r j := by
 unfold gt
 rw [List.getD_eq_getElem?_getD, List.getD_eq_getElem?_getD, List.getElem?_append_left h]
theorem gt_app_r (r s : List Int) (j : Nat) : gt (r ++ s) (r.length + j) = gt s j := by
 unfold gt
 rw [List.getD_eq_getElem?_getD, List.getD_eq_getElem?_getD, List.getElem?_append_right (by omega)]
 congr 2
 omega
theorem gt_drop (r : List Int) (m j : Nat) : gt (r.drop m) j = gt r (m + j) := by
 unfold gt
 rw [List.getD_eq_getElem?_getD, List.getD_eq_getElem?_getD, List.getElem?_drop]
def leanF (r : List Int) : List Int := r.map fun x => x.fdiv (gL 0 r)
theorem lean_len (r : List Int) : (leanF r).length = r.length := List.length_map ..
theorem lean_at {r : List Int} (h : gL 0 r ≠ 0) (j : Nat) : gt (leanF r) j * gL 0 r = gt r j := by
 by_cases hj : j < r.length
 · unfold leanF
   rw [gt_map _ hj]
   obtain ⟨c, hc⟩ := (gL_dvd r 0).2 _ (gt_mem hj)
   rw [hc, Int.mul_fdiv_cancel_left c h, Int.mul_comm]
 · rw [gt_out (by rw [lean_len]; omega), gt_out (by omega), Int.zero_mul]
theorem lean_one {r : List Int} (h : gL 0 r ≠ 0) : gL 0 (leanF r) = 1 := by
 have n0 := gL_nn (leanF r) 0 (Int.le_refl _)
 have nr := gL_nn r 0 (Int.le_refl _)
 have d1 : gL 0 (leanF r) * gL 0 r ∣ gL 0 r := by
   refine gL_max r 0 _ (Int.dvd_zero _) fun x hx => ?_
   obtain ⟨j, hj, e⟩ := mem_gt hx
   rw [← e, ← lean_at h j]
   exact Int.mul_dvd_mul_right _ ((gL_dvd (leanF r) 0).2 _ (gt_mem (by rw [lean_len]; exact hj)))
 obtain ⟨c, hc⟩ := d1
 have h1 : gL 0 (leanF r) * c = 1 := by
   have : gL 0 r * (gL 0 (leanF r) * c) = gL 0 r * 1 := by
     rw [Int.mul_one]
     conv => rhs; rw [hc]
     rw [← Int.mul_assoc, Int.mul_comm (gL 0 r)]
   exact Int.eq_of_mul_eq_mul_left h this
 exact Int.eq_one_of_mul_eq_one_right n0 h1
def Bt (n : Nat) (x : Int) : Prop := x.natAbs < 2 ^ n
theorem Bt.mono {n m : Nat} {x : Int} (h : Bt n x) (hm : n ≤ m) : Bt m x := Nat.lt_of_lt_of_le h (Nat.pow_le_pow_right (by decide) hm)
theorem Bt.mul {n m : Nat} {x y : Int} (h : Bt n x) (h2 : Bt m y) : Bt (n + m) (x * y) := by
 unfold Bt
 rw [Int.natAbs_mul, Nat.pow_add]
 exact Nat.mul_lt_mul'' h h2
theorem Bt.sub {n : Nat} {x y : Int} (h : Bt n x) (h2 : Bt n y) : Bt (n + 1) (x - y) := by
 unfold Bt at h h2 ⊢
 rw [Nat.pow_succ]
 omega
theorem lean_bt {n : Nat} {r : List Int} (h : ∀ x ∈ r, Bt n x) : ∀ x ∈ leanF r, Bt n x := fun x hx => by
 obtain ⟨y, hy, rfl⟩ := List.mem_map.mp hx
 exact Nat.lt_of_le_of_lt (N11.fdiv_le y _) (h y hy)
theorem bt_gt {n : Nat} {r : List Int} (h : ∀ x ∈ r, Bt n x) (j : Nat) : Bt n (gt r j) := by
 by_cases hj : j < r.length
 · exact h _ (gt_mem hj)
 · rw [gt_out (by omega)]
   show (0 : Int).natAbs < 2 ^ n
   exact Nat.pow_pos (by decide)
def crude (n b : List Int) (p : Nat) : List Int := (n.zip b).map fun z => z.1 * gt b p - z.2 * gt n p
theorem crude_len {n b : List Int} (p : Nat) (h : n.length = b.length) : (crude n b p).length = n.length := by
 unfold crude
 rw [List.length_map, List.length_zip]
 omega
theorem crude_at {n b : List Int} (p : Nat) (h : n.length = b.length) (j : Nat) : gt (crude n b p) j = gt n j * gt b p - gt b j * gt n p := by
 by_cases hj : j < n.length
 · have h1 : (n.zip b)[j]? = some (gt n j, gt b j) := by
     rw [List.getElem?_zip_eq_some]
     exact ⟨gt_some hj, gt_some (by omega)⟩
   show (crude n b p).getD j 0 = _
   unfold crude
   rw [List.getD_eq_getElem?_getD, List.getElem?_map, h1]
   rfl
 · rw [gt_out (r := crude n b p) (j := j) (by rw [crude_len p h]; omega), gt_out (r := n) (j := j) (by omega), gt_out (r := b) (j := j) (by omega), Int.zero_mul, Int.zero_mul, Int.sub_zero]
theorem crude_bt {n b : List Int} {p e : Nat} (h : n.length = b.length) (h1 : ∀ x ∈ n, Bt e x) (h2 : ∀ x ∈ b, Bt e x) : ∀ x ∈ crude n b p, Bt (2 * e + 1) x := fun x hx => by
 obtain ⟨j, hj, rfl⟩ := mem_gt hx
 rw [crude_at p h]
 rw [Nat.two_mul]
 exact ((bt_gt h1 j).mul (bt_gt h2 p)).sub ((bt_gt h2 j).mul (bt_gt h1 p))
def clr (n b : List Int) (p : Nat) : List Int := leanF (crude n b p)
def sm : Nat → (Nat → Int) → Int
 | 0, _ => 0
 | n + 1, f => sm n f + f n
theorem sm_lin (a b : Int) (f g : Nat → Int) : ∀ n, sm n (fun k => f k * a - g k * b) = sm n f * a - sm n g * b
 | 0 => by simp [sm]
 | n + 1 => by
   show sm n (fun k => f k * a - g k * b) + (f n * a - g n * b) = (sm n f + f n) * a - (sm n g + g n) * b
   rw [sm_lin a b f g n, Int.add_mul, Int.add_mul]
   omega
theorem sm_mul (a : Int) (f g : Nat → Int) : ∀ n, (∀ k < n, f k * a = g k) → sm n f * a = sm n g
 | 0, _ => by simp [sm]
 | n + 1, h => by
   show (sm n f + f n) * a = sm n g + g n
   rw [Int.add_mul, sm_mul a f g n fun k hk => h k (by omega), h n (by omega)]
theorem sm_unit {f : Nat → Int} {i : Nat} : ∀ n, (∀ k < n, k ≠ i → f k = 0) → sm n f = if i < n then f i else 0
 | 0, _ => by simp [sm]
 | n + 1, h => by
   show sm n f + f n = _
   rw [sm_unit n fun k hk => h k (by omega)]
   by_cases hi : i < n
   · rw [if_pos hi, if_pos (by omega), h n (by omega) (by omega)]
     omega
   · rw [if_neg hi]
     by_cases e : i = n
     · subst e
       rw [if_pos (by omega)]
       omega
     · rw [if_neg (by omega), h n (by omega) (by omega)]
       omega
abbrev Sq := List (List Int)
def mx (S : Sq) (c : List Int) (j : Nat) : Int := sm S.length fun k => gt c k * gt (S.getD k []) j
def uni (m k : Nat) (x : Int) : List Int := (List.range m).map fun i => if i = k then x else 0
theorem uni_len (m k : Nat) (x : Int) : (uni m k x).length = m := by simp [uni]
theorem uni_at (m k : Nat) (x : Int) (i : Nat) (h : i < m) : gt (uni m k x) i = if i = k then x else 0 := by
 unfold gt uni
 rw [List.getD_eq_getElem?_getD, List.getElem?_map, List.getElem?_range h]
 rfl
def wid (S : Sq) : Sq := (List.range S.length).map fun k => S.getD k [] ++ uni S.length k 1
abbrev Kr := Nat × List Int
structure Row (S : Sq) (e : Nat) (z : Kr) : Prop where
 len : z.2.length = 2 * S.length
 lin : ∀ j < S.length, gt z.2 j = mx S (z.2.drop S.length) j
 one : gL 0 z.2 = 1
 bt : ∀ x ∈ z.2, Bt e x
 key : gt z.2 z.1 ≠ 0
theorem Row.mono {S : Sq} {e e' : Nat} {z : Kr} (h : Row S e z) (he : e ≤ e') : Row S e' z := ⟨h.len, h.lin, h.one, fun x hx => (h.bt x hx).mono he, h.key⟩
theorem Row.key_lt {S : Sq} {e : Nat} {z : Kr} (h : Row S e z) : z.1 < 2 * S.length := by
 by_cases c : z.1 < 2 * S.length
 · exact c
 · exact absurd (gt_out (by rw [h.len]; omega)) h.key
def Ap (x y : Kr) : Prop := gt x.2 y.1 = 0 ∧ gt y.2 x.1 = 0
theorem clr_at {n b : List Int} {p : Nat} (hl : n.length = b.length) (hg : gL 0 (crude n b p) ≠ 0) (j : Nat) : gt (clr n b p) j * gL 0 (crude n b p) = gt n j * gt b p - gt b j * gt n p := by
 unfold clr
 rw [lean_at hg, crude_at p hl]
theorem clr_len {n b : List Int} {p : Nat} (hl : n.length = b.length) : (clr n b p).length = n.length := by
 unfold clr
 rw [lean_len, crude_len p hl]
theorem crude_ne {z b : Kr} {p : Nat} (hl : z.2.length = b.2.length) (hz : gt z.2 z.1 ≠ 0) (hb : gt b.2 p ≠ 0) (h0 : gt b.2 z.1 = 0) : gL 0 (crude z.2 b.2 p) ≠ 0 := fun h => by
 have h1 := crude_at p hl z.1
 rw [h0, Int.zero_mul, Int.sub_zero] at h1
 have hlt : z.1 < (crude z.2 b.2 p).length := by
   rw [crude_len p hl]
   by_cases c : z.1 < z.2.length
   · exact c
   · exact absurd (gt_out (by omega)) hz
 have d := (gL_dvd (crude z.2 b.2 p) 0).2 _ (gt_mem hlt)
 rw [h] at d
 have := Int.zero_dvd.mp d
 rw [this] at h1
 rcases Int.mul_eq_zero.mp h1.symm with c | c
 · exact hz c
 · exact hb c
theorem mul_z {a b : Int} (h : a * b = 0) (hb : b ≠ 0) : a = 0 := by
 rcases Int.mul_eq_zero.mp h with c | c
 · exact c
 · exact absurd c hb
theorem Row.clr {S : Sq} {e p : Nat} {z b : Kr} (hz : Row S e z) (hb : Row S e b) (hp : gt b.2 p ≠ 0) (h0 : gt b.2 z.1 = 0) : Row S (2 * e + 1) (z.1, clr z.2 b.2 p) := by
 have hl : z.2.length = b.2.length := hz.len.trans hb.len.symm
 have hg := crude_ne hl hz.key hp h0
 have hlc := clr_len (p := p) hl
 refine ⟨hlc.trans hz.len, fun j hj => ?_, lean_one hg, lean_bt (crude_bt hl hz.bt hb.bt), fun h => ?_⟩
 · refine Int.eq_of_mul_eq_mul_right hg ?_
   show gt (N45.clr z.2 b.2 p) j * _ = _
   rw [clr_at hl hg, hz.lin j hj, hb.lin j hj]
   unfold mx
   rw [← sm_lin]
   symm
   refine sm_mul _ _ _ _ fun k hk => ?_
   show gt (List.drop S.length (N45.clr z.2 b.2 p)) k * _ * _ = _
   rw [gt_drop, gt_drop, gt_drop, Int.mul_right_comm, clr_at hl hg, Int.sub_mul]
   congr 1
   · rw [Int.mul_right_comm]
   · rw [Int.mul_right_comm]
 · have h1 := clr_at (p := p) hl hg z.1
   rw [show gt (N45.clr z.2 b.2 p) z.1 = 0 from h, h0, Int.zero_mul, Int.zero_mul, Int.sub_zero] at h1
   rcases Int.mul_eq_zero.mp h1.symm with c | c
   · exact hz.key c
   · exact hp c
def kclr (b : Kr) (p : Nat) (z : Kr) : Kr := (z.1, clr z.2 b.2 p)
structure Tn (S : Sq) (e p : Nat) (LA LB : List Kr) : Prop where
 row : ∀ z ∈ LA ++ LB, Row S e z
 pw : (LA ++ LB).Pairwise Ap
 len : LA.length + LB.length = S.length
 zero : ∀ z ∈ LB, ∀ j < p, gt z.2 j = 0
 le : LA.length ≤ p
 ord : LA.length = p → LA.map (·.1) = List.range p
theorem Tn.skip {S : Sq} {e p : Nat} {LA LB : List Kr} (h : Tn S e p LA LB) (hz : ∀ z ∈ LB, gt z.2 p = 0) : Tn S (2 * e + 1) (p + 1) LA LB := by
 refine ⟨fun z hz => (h.row z hz).mono (by omega), h.pw, h.len, fun z m j hj => ?_, by have := h.le; omega, fun e => by have := h.le; omega⟩
 by_cases c : j = p
 · rw [c]
   exact hz z m
 · exact h.zero z m j (by omega)
theorem Tn.step {S : Sq} {e p : Nat} {LA L1 L2 : List Kr} {b : Kr} (h : Tn S e p LA (L1 ++ b :: L2)) (hp : gt b.2 p ≠ 0) :
   Tn S (2 * e + 1) (p + 1) (LA.map (kclr b p) ++ [(p, b.2)]) ((L1 ++ L2).map (kclr b p)) := by
 have P1 : (LA ++ (L1 ++ b :: L2)).Perm (b :: (LA ++ (L1 ++ L2))) := by
   rw [← List.append_assoc, ← List.append_assoc]
   exact List.perm_middle
 have sy : ∀ {x y : Kr}, Ap x y → Ap y x := fun h => ⟨h.2, h.1⟩
 have pw1 := (P1.pairwise_iff sy).mp h.pw
 obtain ⟨pb, pr⟩ := List.pairwise_cons.mp pw1
 have rowb : Row S e b := h.row b (P1.symm.subset List.mem_cons_self)
 have rows : ∀ z ∈ LA ++ (L1 ++ L2), Row S e z := fun z hz => h.row z (P1.symm.subset (List.mem_cons_of_mem _ hz))
 have rowc : ∀ z ∈ LA ++ (L1 ++ L2), Row S (2 * e + 1) (kclr b p z) := fun z hz => (rows z hz).clr rowb hp (pb z hz).1
 have hlz : ∀ z ∈ LA ++ (L1 ++ L2), z.2.length = b.2.length := fun z hz => (rows z hz).len.trans rowb.len.symm
 have hgz : ∀ z ∈ LA ++ (L1 ++ L2), gL 0 (crude z.2 b.2 p) ≠ 0 := fun z hz => crude_ne (hlz z hz) (rows z hz).key hp (pb z hz).1
 have atp : ∀ z ∈ LA ++ (L1 ++ L2), gt (kclr b p z).2 p = 0 := fun z hz => by
   refine mul_z ?_ (hgz z hz)
   show gt (N45.clr z.2 b.2 p) p * _ = 0
   rw [clr_at (hlz z hz) (hgz z hz), Int.mul_comm, Int.sub_self]
 have rowb' : Row S (2 * e + 1) (p, b.2) := by
   have := rowb.mono (show e ≤ 2 * e + 1 by omega)
   exact ⟨this.len, this.lin, this.one, this.bt, hp⟩
 have P2 : ((LA.map (kclr b p) ++ [(p, b.2)]) ++ (L1 ++ L2).map (kclr b p)).Perm ((p, b.2) :: (LA ++ (L1 ++ L2)).map (kclr b p)) := by
   rw [List.append_assoc, List.map_append (l₁ := LA)]
   exact List.perm_middle
 refine ⟨fun z hz => ?_, (P2.pairwise_iff sy).mpr ?_, ?_, fun z hz j hj => ?_, ?_, fun hl => ?_⟩
 · rcases List.mem_cons.mp (P2.subset hz) with c | c
   · rw [c]
     exact rowb'
   · obtain ⟨y, hy, rfl⟩ := List.mem_map.mp c
     exact rowc y hy
 · refine List.pairwise_cons.mpr ⟨fun z hz => ?_, ?_⟩
   · obtain ⟨y, hy, rfl⟩ := List.mem_map.mp hz
     exact ⟨(pb y hy).1, atp y hy⟩
   · rw [List.pairwise_map]
     refine List.Pairwise.imp_of_mem (fun {y z} hy hz hyz => ?_) pr
     refine ⟨mul_z ?_ (hgz y hy), mul_z ?_ (hgz z hz)⟩
     · show gt (N45.clr y.2 b.2 p) z.1 * _ = 0
       rw [clr_at (hlz y hy) (hgz y hy), hyz.1, (pb z hz).1, Int.zero_mul, Int.zero_mul, Int.sub_zero]
     · show gt (N45.clr z.2 b.2 p) y.1 * _ = 0
       rw [clr_at (hlz z hz) (hgz z hz), hyz.2, (pb y hy).1, Int.zero_mul, Int.zero_mul, Int.sub_zero]
 · have := h.len
   simp only [List.length_append, List.length_map, List.length_cons, List.length_nil] at this ⊢
   omega
 · obtain ⟨y, hy, rfl⟩ := List.mem_map.mp hz
   have hyr : y ∈ LA ++ (L1 ++ L2) := List.mem_append_right _ hy
   have hyB : y ∈ L1 ++ b :: L2 := by
     rcases List.mem_append.mp hy with c | c
     · exact List.mem_append_left _ c
     · exact List.mem_append_right _ (List.mem_cons_of_mem _ c)
   by_cases c : j = p
   · rw [c]
     exact atp y hyr
   · refine mul_z ?_ (hgz y hyr)
     show gt (N45.clr y.2 b.2 p) j * _ = 0
     rw [clr_at (hlz y hyr) (hgz y hyr), h.zero y hyB j (by omega), h.zero b (List.mem_append_right _ List.mem_cons_self) j (by omega), Int.zero_mul, Int.zero_mul, Int.sub_zero]
 · have := h.le
   simp only [List.length_append, List.length_map, List.length_cons, List.length_nil]
   omega
 · have hl' : LA.length = p := by
     simp only [List.length_append, List.length_map, List.length_cons, List.length_nil] at hl
     omega
   rw [List.map_append, List.map_map, List.range_succ, ← h.ord hl']
   rfl
def fw (B : Sq) (p : Nat) : Option Nat := B.findIdx? fun r => decide (gt r p ≠ 0)
def cut (B : Sq) (i : Nat) : Sq := B.take i ++ B.drop (i + 1)
def stp (p : Nat) (AB : Sq × Sq) : Sq × Sq := match fw AB.2 p with
 | none => AB
 | some i => (AB.1.map (fun r => clr r (AB.2.getD i []) p) ++ [AB.2.getD i []], (cut AB.2 i).map fun r => clr r (AB.2.getD i []) p)
def trn (S : Sq) : Nat → Sq × Sq
 | 0 => ([], wid S)
 | p + 1 => stp p (trn S p)
def ex (E : Nat) : Nat → Nat
 | 0 => E
 | p + 1 => 2 * ex E p + 1
theorem ex_mono (E : Nat) : ∀ {p q : Nat}, p ≤ q → ex E p ≤ ex E q := fun {p q} h => by
 induction h with
 | refl => exact Nat.le_refl _
 | step h ih =>
   show _ ≤ 2 * ex E _ + 1
   omega
structure Squ (S : Sq) (E : Nat) : Prop where
 len : ∀ r ∈ S, r.length = S.length
 bt : ∀ r ∈ S, ∀ x ∈ r, Bt E x
 e1 : 1 ≤ E
theorem sgetD {S : Sq} {k : Nat} (h : k < S.length) : S.getD k [] ∈ S := by
 rw [List.getD_eq_getElem?_getD, List.getElem?_eq_getElem h]
 exact List.getElem_mem h
theorem wid_row {S : Sq} {E k : Nat} (h : Squ S E) (hk : k < S.length) : Row S E (S.length + k, S.getD k [] ++ uni S.length k 1) := by
 have hl := h.len _ (sgetD hk)
 have hu := uni_len S.length k 1
 have dr : (S.getD k [] ++ uni S.length k 1).drop S.length = uni S.length k 1 := by
   rw [List.drop_append_of_le_length (by omega), ← hl, List.drop_length, List.nil_append]
 have ky : gt (S.getD k [] ++ uni S.length k 1) (S.length + k) = 1 := by
   have := gt_app_r (S.getD k []) (uni S.length k 1) k
   rw [hl] at this
   rw [this, uni_at _ _ _ _ hk, if_pos rfl]
 have len : (S.getD k [] ++ uni S.length k 1).length = 2 * S.length := by rw [List.length_append, hl, hu]; omega
 refine ⟨len, fun j hj => ?_, ?_, fun x hx => ?_, ?_⟩
 · show gt (S.getD k [] ++ uni S.length k 1) j = mx S ((S.getD k [] ++ uni S.length k 1).drop S.length) j
   rw [dr, gt_app_l (by omega)]
   unfold mx
   rw [sm_unit (i := k) S.length (fun i hi hne => by rw [uni_at _ _ _ _ hi, if_neg hne, Int.zero_mul]), if_pos hk, uni_at _ _ _ _ hk, if_pos rfl, Int.one_mul]
 · have d := (gL_dvd (S.getD k [] ++ uni S.length k 1) 0).2 _ (gt_mem (j := S.length + k) (by omega))
   rw [ky] at d
   have n0 := gL_nn (S.getD k [] ++ uni S.length k 1) 0 (Int.le_refl _)
   exact Int.eq_one_of_dvd_one n0 d
 · rcases List.mem_append.mp hx with c | c
   · exact h.bt _ (sgetD hk) x c
   · unfold uni at c
     obtain ⟨i, _, rfl⟩ := List.mem_map.mp c
     have h2 : 2 ≤ 2 ^ E := by
       have := Nat.pow_le_pow_right (n := 2) (by decide) h.e1
       simpa using this
     show (if i = k then (1 : Int) else 0).natAbs < 2 ^ E
     split
     · show 1 < 2 ^ E
       omega
     · show 0 < 2 ^ E
       omega
 · show gt (S.getD k [] ++ uni S.length k 1) (S.length + k) ≠ 0
   rw [ky]
   decide
theorem tn_start {S : Sq} {E : Nat} (h : Squ S E) : ∃ LB : List Kr, wid S = LB.map (·.2) ∧ Tn S E 0 [] LB := by
 refine ⟨(List.range S.length).map fun k => (S.length + k, S.getD k [] ++ uni S.length k 1), by rw [List.map_map]; rfl, ?_⟩
 refine ⟨fun z hz => ?_, ?_, by simp, fun _ _ j hj => absurd hj (Nat.not_lt_zero _), Nat.le_refl _, fun _ => rfl⟩
 · rw [List.nil_append] at hz
   obtain ⟨k, hk, rfl⟩ := List.mem_map.mp hz
   exact wid_row h (List.mem_range.mp hk)
 · rw [List.nil_append, List.pairwise_map]
   have at_ : ∀ i k, i < S.length → k < S.length → i ≠ k → gt (S.getD i [] ++ uni S.length i 1) (S.length + k) = 0 := fun i k hi hk hne => by
     have := gt_app_r (S.getD i []) (uni S.length i 1) k
     rw [h.len _ (sgetD hi)] at this
     rw [this, uni_at _ _ _ _ hk, if_neg (Ne.symm hne)]
   refine List.Pairwise.imp_of_mem (fun {i k} hi hk hne => ?_) (List.nodup_range (n := S.length))
   exact ⟨at_ i k (List.mem_range.mp hi) (List.mem_range.mp hk) hne, at_ k i (List.mem_range.mp hk) (List.mem_range.mp hi) (Ne.symm hne)⟩
theorem fw_none {B : Sq} {p : Nat} (h : fw B p = none) : ∀ r ∈ B, gt r p = 0 := fun r hr => by
 have := (List.findIdx?_eq_none_iff.mp h) r hr
 simpa using this
theorem fw_some {B : Sq} {p i : Nat} (h : fw B p = some i) : i < B.length ∧ gt (B.getD i []) p ≠ 0 := by
 obtain ⟨h1, h2, _⟩ := List.findIdx?_eq_some_iff_getElem.mp h
 refine ⟨h1, ?_⟩
 rw [List.getD_eq_getElem?_getD, List.getElem?_eq_getElem h1]
 simpa using h2
theorem split_at {α : Type} {l : List α} {i : Nat} {x : α} (h : l[i]? = some x) : l = l.take i ++ x :: l.drop (i + 1) := by
 obtain ⟨hi, e⟩ := List.getElem?_eq_some_iff.mp h
 rw [← e, ← List.drop_eq_getElem_cons hi, List.take_append_drop]
theorem trn_inv {S : Sq} {E : Nat} (h : Squ S E) : ∀ p, p ≤ S.length → ∃ LA LB : List Kr, trn S p = (LA.map (·.2), LB.map (·.2)) ∧ Tn S (ex E p) p LA LB
 | 0, _ => by
   obtain ⟨LB, e, t⟩ := tn_start h
   exact ⟨[], LB, by show ([], wid S) = _; rw [e]; rfl, t⟩
 | p + 1, hp => by
   obtain ⟨LA, LB, e, t⟩ := trn_inv h p (by omega)
   have es : trn S (p + 1) = stp p (LA.map (·.2), LB.map (·.2)) := by rw [← e]; rfl
   cases hf : fw (LB.map (·.2)) p with
   | none =>
     refine ⟨LA, LB, ?_, t.skip fun z hz => fw_none hf _ (List.mem_map.mpr ⟨z, hz, rfl⟩)⟩
     rw [es]
     unfold stp
     rw [hf]
   | some i =>
     obtain ⟨hi, hne⟩ := fw_some hf
     rw [List.length_map] at hi
     have hb : LB[i]? = some LB[i] := List.getElem?_eq_getElem hi
     have hg : (LB.map (·.2)).getD i [] = LB[i].2 := by
       rw [List.getD_eq_getElem?_getD, List.getElem?_map, hb]
       rfl
     rw [hg] at hne
     have sp := split_at hb
     refine ⟨LA.map (kclr LB[i] p) ++ [(p, LB[i].2)], (LB.take i ++ LB.drop (i + 1)).map (kclr LB[i] p), ?_, ?_⟩
     · rw [es]
       unfold stp
       rw [hf]
       dsimp only
       rw [hg]
       refine Prod.ext ?_ ?_
       · show List.map _ (LA.map (·.2)) ++ _ = List.map _ _
         rw [List.map_append, List.map_map, List.map_map]
         rfl
       · show List.map _ (cut (LB.map (·.2)) i) = _
         unfold cut
         rw [← List.map_take, ← List.map_drop, ← List.map_append, List.map_map, List.map_map]
         rfl
     · refine Tn.step (b := LB[i]) ?_ hne
       rw [← sp]
       exact t
theorem trn_len {S : Sq} {E p : Nat} (h : Squ S E) (hp : p ≤ S.length) : (trn S p).1.length + (trn S p).2.length = S.length ∧ (∀ r ∈ (trn S p).1 ++ (trn S p).2, r.length = 2 * S.length ∧ ∀ x ∈ r, Bt (ex E p) x) := by
 obtain ⟨LA, LB, e, t⟩ := trn_inv h p hp
 rw [e]
 refine ⟨by rw [List.length_map, List.length_map]; exact t.len, fun r hr => ?_⟩
 rw [← List.map_append] at hr
 obtain ⟨z, hz, rfl⟩ := List.mem_map.mp hr
 exact ⟨(t.row z hz).len, (t.row z hz).bt⟩
theorem trn_ne {S : Sq} {E p i : Nat} (h : Squ S E) (hp : p ≤ S.length) (hf : fw (trn S p).2 p = some i) : ∀ r ∈ (trn S p).1 ++ cut (trn S p).2 i, gL 0 (crude r ((trn S p).2.getD i []) p) ≠ 0 := by
 obtain ⟨LA, LB, e, t⟩ := trn_inv h p hp
 rw [e] at hf ⊢
 dsimp only at hf ⊢
 obtain ⟨hi, hne⟩ := fw_some hf
 rw [List.length_map] at hi
 have hb : LB[i]? = some LB[i] := List.getElem?_eq_getElem hi
 have hg : (LB.map (·.2)).getD i [] = LB[i].2 := by
   rw [List.getD_eq_getElem?_getD, List.getElem?_map, hb]
   rfl
 rw [hg] at hne ⊢
 have P1 : (LA ++ LB).Perm (LB[i] :: (LA ++ (LB.take i ++ LB.drop (i + 1)))) := by
   conv => lhs; rw [split_at hb]
   rw [← List.append_assoc, ← List.append_assoc]
   exact List.perm_middle
 have sy : ∀ {x y : Kr}, Ap x y → Ap y x := fun h => ⟨h.2, h.1⟩
 obtain ⟨pb, _⟩ := List.pairwise_cons.mp ((P1.pairwise_iff sy).mp t.pw)
 intro r hr
 unfold cut at hr
 rw [← List.map_take, ← List.map_drop, ← List.map_append, ← List.map_append] at hr
 obtain ⟨z, hz, rfl⟩ := List.mem_map.mp hr
 have rz := t.row z (P1.symm.subset (List.mem_cons_of_mem _ hz))
 have rb := t.row LB[i] (P1.symm.subset List.mem_cons_self)
 exact crude_ne (rz.len.trans rb.len.symm) rz.key hne (pb z hz).1
theorem trn_paper {S : Sq} {E : Nat} (h : Squ S E) (hB : (trn S S.length).2 = []) : (trn S S.length).1.length = S.length ∧ ∀ k, k < S.length → ∀ r, (trn S S.length).1[k]? = some r →
   r.length = 2 * S.length ∧ gt r k ≠ 0 ∧ (∀ x ∈ r, Bt (ex E S.length) x) ∧ gL 0 r = 1 ∧ (∀ j < S.length, j ≠ k → gt r j = 0) ∧ ∀ j < S.length, gt r j = mx S (r.drop S.length) j := by
 obtain ⟨LA, LB, e, t⟩ := trn_inv h S.length (Nat.le_refl _)
 rw [e] at hB ⊢
 dsimp only at hB ⊢
 have hLB : LB = [] := List.map_eq_nil_iff.mp hB
 subst hLB
 have hl : LA.length = S.length := by have := t.len; simpa using this
 have ho := t.ord hl
 refine ⟨by rw [List.length_map]; exact hl, fun k hk r hr => ?_⟩
 have hz : LA[k]? = some LA[k] := List.getElem?_eq_getElem (by omega)
 rw [List.getElem?_map, hz] at hr
 have hr : LA[k].2 = r := Option.some.inj hr
 subst hr
 have ky : ∀ j, (hj : j < S.length) → LA[j].1 = j := fun j hj => by
   have := congrArg (fun l => l[j]?) ho
   simp only [List.getElem?_map, List.getElem?_eq_getElem (show j < LA.length by omega), List.getElem?_range hj] at this
   exact Option.some.inj this
 have rz := t.row LA[k] (List.mem_append_left _ (List.getElem_mem _))
 have pw := t.pw
 rw [List.append_nil] at pw
 refine ⟨rz.len, (by have := rz.key; rw [ky k hk] at this; exact this), rz.bt, rz.one, fun j hj hne => ?_, rz.lin⟩
 rcases Nat.lt_or_gt_of_ne hne with c | c
 · have := (List.pairwise_iff_getElem.mp pw j k (by omega) (by omega) c).2
   rw [ky j hj] at this
   exact this
 · have := (List.pairwise_iff_getElem.mp pw k j (by omega) (by omega) c).1
   rw [ky j hj] at this
   exact this
theorem trn_mix {S : Sq} {E : Nat} (h : Squ S E) {r : List Int} {B : Sq} (hB : (trn S S.length).2 = r :: B) : r.length = 2 * S.length ∧ (∀ x ∈ r, Bt (ex E S.length) x) ∧ (∃ j, j < S.length ∧ gt (r.drop S.length) j ≠ 0) ∧ ∀ j < S.length, mx S (r.drop S.length) j = 0 := by
 obtain ⟨LA, LB, e, t⟩ := trn_inv h S.length (Nat.le_refl _)
 rw [e] at hB
 cases LB with
 | nil => cases hB
 | cons z LB =>
   have hr : z.2 = r := (List.cons.inj hB).1
   subst hr
   have rz := t.row z (List.mem_append_right _ List.mem_cons_self)
   have z0 := t.zero z List.mem_cons_self
   refine ⟨rz.len, rz.bt, ⟨z.1 - S.length, ?_, ?_⟩, fun j hj => by rw [← rz.lin j hj]; exact z0 j hj⟩
   · have := rz.key_lt
     have hm : ¬ z.1 < S.length := fun c => rz.key (z0 _ c)
     omega
   · have hm : ¬ z.1 < S.length := fun c => rz.key (z0 _ c)
     rw [gt_drop, show S.length + (z.1 - S.length) = z.1 by omega]
     exact rz.key
end N45
namespace N45
theorem gF_fm {x y : Int} : N11.gF y (x.fmod y) = N11.gF x y := by
 have e : x.fmod y = x - y * x.fdiv y := by have := Int.fmod_def x y; exact this
 refine Int.dvd_antisymm (gF_nn _ _) (gF_nn _ _) (gF_max ?_ (gF_l _ _)) (gF_max (gF_r _ _) ?_)
 · have h1 := gF_l y (x.fmod y)
   have h2 := gF_r y (x.fmod y)
   have : x = x.fmod y + y * x.fdiv y := by rw [e]; omega
   conv => rhs; rw [this]
   exact Int.dvd_add h2 (Int.dvd_mul_of_dvd_left h1)
 · rw [e]
   exact Int.dvd_sub (gF_l _ _) (Int.dvd_mul_of_dvd_left (gF_r _ _))
theorem fm_abs {x y : Int} (hy : y ≠ 0) : (x.fmod y).natAbs < y.natAbs := by
 rcases Int.lt_or_gt_of_ne hy with h | h
 · have e : (-x).fmod (-y) = -(x.fmod y) := Int.neg_fmod_neg ..
   have h1 := Int.fmod_nonneg_of_pos (-x) (show 0 < -y by omega)
   have h2 := Int.fmod_lt_of_pos (-x) (show 0 < -y by omega)
   rw [e] at h1 h2
   omega
 · have h1 := Int.fmod_nonneg_of_pos x h
   have h2 := Int.fmod_lt_of_pos x h
   omega
theorem gF_zero (x : Int) : N11.gF x 0 = (x.natAbs : Nat) := by
 unfold N11.gF
 rw [Int.gcd_zero_right]
theorem sm_sum (f : Nat → Int) : ∀ n, ((List.range n).map f).sum = sm n f
 | 0 => rfl
 | n + 1 => by
   rw [List.range_succ, List.map_append, List.sum_append, sm_sum f n]
   show _ + (f n + 0) = _
   rw [Int.add_zero]
   rfl
theorem mx_mul (S : Sq) (s : Int) (r : List Int) (h : r.length = S.length) (j : Nat) : mx S (r.map fun x => s * x) j = s * mx S r j := by
 unfold mx
 rw [Int.mul_comm]
 symm
 refine sm_mul _ _ _ _ fun k hk => ?_
 rw [gt_map _ (by omega), Int.mul_comm (gt r k * _) s, Int.mul_assoc]
end N45
namespace K45
open PySem L2 L3
def top (i : Nat) : Stmt := PySem.Challenge.pw_groupbooks_k45_whole_paper_or_mix.main.body.getD i (.Pass ⟨0, 0, 0, 0⟩)
abbrev s_divisor : Stmt := top 6
abbrev s_only_at : Stmt := top 8
abbrev s_widened : Stmt := top 9
abbrev s_lean : Stmt := top 10
abbrev s_cleared : Stmt := top 11
abbrev s_first_with : Stmt := top 12
abbrev s_turned : Stmt := top 13
abbrev s_pair_of : Stmt := top 14
abbrev s_paper_of : Stmt := top 15
abbrev s__law_cell_at : Stmt := top 17
abbrev s__law_whole : Stmt := top 18
abbrev s__law_mix : Stmt := top 19
abbrev s__law_divisor : Stmt := top 21
abbrev s__law_mixed : Stmt := top 22
abbrev s__law_entry : Stmt := top 23
abbrev s__law_square : Stmt := top 24
abbrev s__law_paper_told : Stmt := top 25
abbrev s__law_mix_told : Stmt := top 26
abbrev s__law_mix_again : Stmt := top 27
abbrev s__law_by_base : Stmt := top 28
abbrev s_law : Stmt := top 29
section
variable {P : Program} {w : World} {K : PySem.W.Frag} {mg : Str → Option Value} {base : Heap} {cm : Bool}
def spCell (K : PySem.W.Frag) : Sp := fun vs H Q _ => ∃ (a : Addr) (ns : List Int) (k : Nat), vs = [.ref a, .int k] ∧ SqL K H a (ns.map V.int) ∧ Q (.int (ns.getD k 0)) H
def spWhole : Sp := fun vs H Q _ => ∃ i : Int, vs = [.int i] ∧ Q (.bl true) H
def spLaw (K : PySem.W.Frag) : Sp := fun vs H Q _ => ∃ (a : Addr) (ns : List Int), vs = [.ref a] ∧ SqL K H a (ns.map V.int) ∧ ns.length ≤ 63 ∧ (∀ w ∈ ns, PySem.Builtin.Int.intBits w ≤ 2 ^ 20) ∧ ∀ H', Q (.bl true) H'
theorem same_upd {H : Hp} {p : Addr} {o : HO} (h : H p = none) : Same H (upd H p o) := fun b o' hb => by
 rw [upd_ne (ne_of_none hb h)]
 exact hb
theorem same_set {H0 H : Hp} {p : Addr} {o : HO} (e : Same H0 H) (h : H0 p = none) : Same H0 (upd H p o) := fun b o' hb => by
 rw [upd_ne (ne_of_none hb h)]
 exact e _ _ hb
theorem ints_at {ws : List Int} {i : Nat} {x : V} (h : (ws.map V.int)[i]? = some x) : ∃ w, ws[i]? = some w ∧ x = .int w := by
 rw [List.getElem?_map] at h
 cases e : ws[i]? with
 | none => rw [e] at h; cases h
 | some z => rw [e] at h; exact ⟨z, rfl, (Option.some.inj h).symm⟩
theorem ints_pl (ws : List Int) : ∀ z ∈ ws.map V.int, eqPl z = true := by
 intro z hz
 obtain ⟨y, _, rfl⟩ := List.mem_map.mp hz
 rfl
def spMix : Sp := fun vs H Q _ => ∃ c b : Int, vs = [.int c, .int b] ∧ b.natAbs ≤ 2 ^ 62 ∧ ∀ m : Int, 0 ≤ m → m < 2 ^ 31 → Q (.int m) H
def spG : Sp := fun vs H Q _ => ∃ a b : Int, vs = [.int a, .int b] ∧ Q (.int (N11.gF a b)) H
theorem op_catC {X : Cx} {scope : Scope} {cl : List (Str × Addr)} {C : Addr} {s2 : Shared} {H2 : Hp} {fp : List Addr} {N' : List Str} {xe : Value → Shared → Prop} : OpR (X.inC scope cl C s2 H2 fp N' xe) (binaryOp .Add) rCat := op_cat (X := X.inC scope cl C s2 H2 fp N' xe)
theorem cut_drop (xs : List V) (t : Nat) : cutV xs (some (t : Int)) none = xs.drop (min t xs.length) := by
 unfold cutV
 rw [HT.sIx_nat, HT.sIx_none]
 exact List.take_of_length_le (by rw [List.length_drop]; omega)
theorem cut_take (xs : List V) (t : Nat) : cutV xs none (some (t : Int)) = xs.take (min t xs.length) := by
 unfold cutV
 rw [HT.sIx_nat, HT.sIx_none]
 simp
theorem cutD {xs : List V} {t : Nat} (h : t ≤ xs.length) : cutV xs (some (t : Int)) none = xs.drop t := by
 rw [cut_drop, Nat.min_eq_left h]
theorem cutT {xs : List V} {t : Nat} (h : t ≤ xs.length) : cutV xs none (some (t : Int)) = xs.take t := by
 rw [cut_take, Nat.min_eq_left h]
abbrev Lz := Addr × List Int
def rfz (Z : List Lz) : List V := Z.map fun z => .ref z.1
theorem rfz_len (Z : List Lz) : (rfz Z).length = Z.length := List.length_map ..
theorem rfz_app (A B : List Lz) : rfz (A ++ B) = rfz A ++ rfz B := List.map_append ..
theorem rfz_at {Z : List Lz} {i : Nat} {x : V} (h : (rfz Z)[i]? = some x) : ∃ z, Z[i]? = some z ∧ x = .ref z.1 := by
 unfold rfz at h
 rw [List.getElem?_map] at h
 cases e : Z[i]? with
 | none => rw [e] at h; cases h
 | some z => rw [e] at h; exact ⟨z, rfl, (Option.some.inj h).symm⟩
theorem at_rfz {Z : List Lz} {i : Nat} {z : Lz} (h : Z[i]? = some z) : (rfz Z)[i]? = some (.ref z.1) := by
 unfold rfz
 rw [List.getElem?_map, h]
 rfl
def LL (H : Hp) (Z : List Lz) : Prop := ∀ z ∈ Z, H z.1 = some (.lst (z.2.map V.int))
theorem LL.same {H H' : Hp} {Z : List Lz} (h : LL H Z) (e : Same H H') : LL H' Z := fun z hz => e _ _ (h z hz)
theorem LL.app {H : Hp} {A B : List Lz} (h1 : LL H A) (h2 : LL H B) : LL H (A ++ B) := fun z hz => (List.mem_append.mp hz).elim (h1 z) (h2 z)
abbrev rws (Z : List Lz) : List (List Int) := Z.map (·.2)
theorem rws_at {Z : List Lz} {i : Nat} {z : Lz} (h : Z[i]? = some z) : (rws Z).getD i [] = z.2 := by
 rw [List.getD_eq_getElem?_getD, List.getElem?_map, h]
 rfl
theorem rws_app (A B : List Lz) : rws (A ++ B) = rws A ++ rws B := List.map_append ..
theorem take_nz {α : Type} {l : List α} {i : Nat} {x : α} (h : l[i]? = some x) : l.take (i + 1) = l.take i ++ [x] := by
 rw [List.take_succ, h]
 rfl
theorem atInt {r : List Int} {j : Nat} (h : j < r.length) : atI (r.map V.int) (j : Int) = some (.int (N45.gt r j)) := atI_nat (by rw [List.getElem?_map, N45.gt_some h]; rfl)
theorem same_refl (H : Hp) : Same H H := fun _ _ h => h
theorem two_of {σ0 : St} (h : σ0.length = 2) : ∃ u v, σ0 = [u, v] := by
 rcases σ0 with _ | ⟨u, _ | ⟨v, _ | ⟨w, r⟩⟩⟩ <;> simp at h
 exact ⟨u, v, rfl⟩
theorem gL_bt {r : List Int} {n : Nat} (h : N45.gL 0 r ≠ 0) (hb : ∀ x ∈ r, N45.Bt n x) : (N45.gL 0 r).natAbs < 2 ^ n := by
 obtain ⟨x, hx, h0⟩ : ∃ x ∈ r, x ≠ 0 := by
   refine Classical.byContradiction fun c => h ?_
   have := N45.gL_max r 0 0 (Int.dvd_refl 0) fun x hx => by
     have : x = 0 := Classical.byContradiction fun d => c ⟨x, hx, d⟩
     rw [this]
     exact Int.dvd_refl 0
   exact Int.zero_dvd.mp this
 have d := Int.natAbs_dvd_natAbs.mpr ((N45.gL_dvd r 0).2 x hx)
 exact Nat.lt_of_le_of_lt (Nat.le_of_dvd (by omega) d) (hb x hx)
theorem join1 {α : Type} {G : Prop} (F P : α → Prop) (hm : (∀ x, F x → P x) → G) (hr : ∀ x, F x → P x) : G := hm hr
theorem after_x {H H' : Hp} {x : Addr} {o : HO} (hx0 : H x = none) (keep : ∀ y o', upd H x o y = some o' → y ≠ x → H' y = some o') : Same H (fun b => if b = x then none else H' b) := fun b o' hb => by
 have n := ne_of_none hb hx0
 show (if b = x then none else H' b) = some o'
 rw [if_neg n]
 exact keep b o' (by rw [upd_ne n]; exact hb) n
def spOnly : Sp := fun vs H Q _ => ∃ (m k : Nat) (x : Int), vs = [.int m, .int k, .int x] ∧ m ≤ 100 ∧ ∀ p, H p = none → Q (.ref p) (upd H p (.lst ((N45.uni m k x).map V.int)))
def spWid : Sp := fun vs H Q _ => ∃ (a : Addr) (Z : List Lz), vs = [.ref a] ∧ H a = some (.lst (rfz Z)) ∧ LL H Z ∧ Z.length ≤ 6 ∧ (∀ z ∈ Z, z.2.length ≤ 100) ∧ ∀ (p : Addr) (Y : List Lz) H', Same H H' → H' p = some (.lst (rfz Y)) → LL H' Y → rws Y = N45.wid (rws Z) → Q (.ref p) H'
def spLean : Sp := fun vs H Q _ => ∃ (a : Addr) (r : List Int), vs = [.ref a] ∧ H a = some (.lst (r.map V.int)) ∧ r.length ≤ 100 ∧ N45.gL 0 r ≠ 0 ∧ (∀ x ∈ r, N45.Bt 4000 x) ∧ ∀ p, H p = none → Q (.ref p) (upd H p (.lst ((N45.leanF r).map V.int)))
def spClr : Sp := fun vs H Q _ => ∃ (a b : Addr) (n y : List Int) (p e : Nat), vs = [.ref a, .ref b, .int p] ∧ H a = some (.lst (n.map V.int)) ∧ H b = some (.lst (y.map V.int)) ∧ n.length = y.length ∧ n.length ≤ 100 ∧ p < n.length ∧ N45.gL 0 (N45.crude n y p) ≠ 0 ∧ (∀ x ∈ n, N45.Bt e x) ∧ (∀ x ∈ y, N45.Bt e x) ∧ e ≤ 1990 ∧
 ∀ q H', Same H H' → H' q = some (.lst ((N45.clr n y p).map V.int)) → Q (.ref q) H'
def spFw : Sp := fun vs H Q _ => ∃ (a : Addr) (Z : List Lz) (p : Nat), vs = [.ref a, .int p] ∧ H a = some (.lst (rfz Z)) ∧ LL H Z ∧ (∀ z ∈ Z, p < z.2.length) ∧ (N45.fw (rws Z) p = none → ∀ H', Same H H' → Q .non H') ∧ ∀ i, N45.fw (rws Z) p = some i → ∀ H', Same H H' → Q (.int (i : Int)) H'
def Sqr (Z : List Lz) (E : Nat) : Prop := N45.Squ (rws Z) E ∧ Z.length ≤ 6 ∧ N45.ex E Z.length ≤ 1990
def spTurn : Sp := fun vs H Q _ => ∃ (a : Addr) (Z : List Lz) (E : Nat), vs = [.ref a] ∧ H a = some (.lst (rfz Z)) ∧ LL H Z ∧ Sqr Z E ∧ ∀ (t la lb : Addr) (A B : List Lz) H', Same H H' → H' t = some (.tup [.ref la, .ref lb]) → H' la = some (.lst (rfz A)) → H' lb = some (.lst (rfz B)) → LL H' A → LL H' B → (rws A, rws B) = N45.trn (rws Z) Z.length → Q (.ref t) H'
def sg (r : List Int) (k : Nat) : Int := if 0 < N45.gt r k then 1 else -1
def prF (r : List Int) (k m : Nat) : Int × List Int := (sg r k * N45.gt r k, (r.drop m).map fun x => sg r k * x)
def spPair : Sp := fun vs H Q _ => ∃ (a : Addr) (r : List Int) (k m : Nat), vs = [.ref a, .int k, .int m] ∧ H a = some (.lst (r.map V.int)) ∧ k < r.length ∧ m ≤ r.length ∧ r.length ≤ 100 ∧ (∀ x ∈ r, N45.Bt 1990 x) ∧ ∀ t q H', Same H H' → H q = none → H t = none → H' t = some (.tup [.int (prF r k m).1, .ref q]) → H' q = some (.lst ((prF r k m).2.map V.int)) → Q (.ref t) H'
abbrev Pr := Addr × Int × Addr × List Int
def rfp (Y : List Pr) : List V := Y.map fun y => .ref y.1
theorem rfp_len (Y : List Pr) : (rfp Y).length = Y.length := List.length_map ..
theorem rfp_app (A B : List Pr) : rfp (A ++ B) = rfp A ++ rfp B := List.map_append ..
theorem rfp_at {Z : List Pr} {i : Nat} {x : V} (h : (rfp Z)[i]? = some x) : ∃ z, Z[i]? = some z ∧ x = .ref z.1 := by
 unfold rfp at h
 rw [List.getElem?_map] at h
 cases e : Z[i]? with
 | none => rw [e] at h; cases h
 | some z => rw [e] at h; exact ⟨z, rfl, (Option.some.inj h).symm⟩
theorem at_rfp {Z : List Pr} {i : Nat} {z : Pr} (h : Z[i]? = some z) : (rfp Z)[i]? = some (.ref z.1) := by
 unfold rfp
 rw [List.getElem?_map, h]
 rfl
def PP (H : Hp) (Y : List Pr) : Prop := ∀ y ∈ Y, H y.1 = some (.tup [.int y.2.1, .ref y.2.2.1]) ∧ H y.2.2.1 = some (.lst (y.2.2.2.map V.int))
theorem PP.same {H H' : Hp} {Y : List Pr} (h : PP H Y) (e : Same H H') : PP H' Y := fun z hz => ⟨e _ _ (h z hz).1, e _ _ (h z hz).2⟩
abbrev prs (Y : List Pr) : List (Int × List Int) := Y.map fun y => (y.2.1, y.2.2.2)
theorem prs_app (A B : List Pr) : prs (A ++ B) = prs A ++ prs B := List.map_append ..
def pap (S : List (List Int)) : List (Int × List Int) := (List.range S.length).map fun k => prF ((N45.trn S S.length).1.getD k []) k S.length
def fM (l : Addr) : List (Str × V) := putF "mix" (.ref l) []
def spXM (C : Addr) : Sp := fun vs H Q _ => ∃ (x a : Addr) (r : List V), vs = [.ref x, .ref a] ∧ H x = some (bareO x (.ref C) none) ∧ H a = some (.lst r) ∧ ∀ d l H', H d = none → d ≠ x → H l = none → l ≠ x → H' d = some (.xd (fM l)) → H' l = some (.lst r) → H' x = some (bareO x (.ref C) (some d)) → (∀ y o, H y = some o → y ≠ x → H' y = some o) → Q .non H'
def spPaper (C : Addr) : Sp := fun vs H Q Ex => ∃ (a : Addr) (Z : List Lz) (E : Nat), vs = [.ref a] ∧ H a = some (.lst (rfz Z)) ∧ LL H Z ∧ Sqr Z E ∧
 ((N45.trn (rws Z) Z.length).2 = [] → ∀ (t : Addr) (Y : List Pr) H', Same H H' → H' t = some (.lst (rfp Y)) → PP H' Y → prs Y = pap (rws Z) → H t = none → (∀ y ∈ Y, H y.2.2.1 = none ∧ H y.1 = none) → Q (.ref t) H') ∧
 (∀ r B, (N45.trn (rws Z) Z.length).2 = r :: B → ∀ d l H', Same H H' → H l = none → H' d = some (.xd (fM l)) → H' l = some (.lst ((r.drop Z.length).map V.int)) → Ex (.ref C) (some d) H')
theorem sc_divisor : FnScope ["one", "other", "rest"] ["one", "other"] (defScope s_divisor) := ⟨rfl, rfl, rfl, by decide +kernel, rfl, by decide +kernel, by decide +kernel⟩
theorem ok_divisor (D : Def K mg "divisor" s_divisor .none) (z_abs : mg "abs" = none) : Cal P w K mg base CX0 cm 1 "divisor" ["one", "other"] [] spG := by
 obtain ⟨f, fd, F, hm⟩ := D
 refine ⟨f, fd, _, F.ok sc_divisor (fun vs H Q E h => ?_) (fun cdv A outer s H vs Q E hr h => ?_), hm, F.kp, (F.binds fun _ _ _ _ _ _ us hl => match us, hl with | [_, _], _ => rfl), .nil, F.binds fun _ _ _ _ _ _ us hl => match us, hl with | [_, _], _ => rfl⟩
 · obtain ⟨a, b, rfl, q⟩ := h
   rfl
 obtain ⟨a, b, rfl, q⟩ := h
 have nd := sc_divisor.nd
 refine ⟨_, (pss_cons (ps_set (i := 0) nd rfl (Or.inl rfl) (pe_callB call_absN rfl z_abs bt_abs (pa_cons (pv 0) pa_nil)))
   (pss_cons (ps_set (i := 1) nd rfl (Or.inl rfl) (pe_callB call_absN rfl z_abs bt_abs (pa_cons (pv 1) pa_nil)))
   (pss_cons (ps_while PassesOwn.never (pt_cmpR op_ne (pv 1) pe_int (nomark _)) (pss_cons (ps_set (i := 2) nd rfl (Or.inl rfl) (pe_op op_mod (pv 0) (pv 1)))
   (pss_cons (ps_set (i := 0) nd rfl (Or.inl rfl) (pv 1))
   (pss_one (ps_set (i := 1) nd rfl (Or.inl rfl) (pv 2))))))
   (pss_one (ps_ret (pv 0)))))), ?_⟩
 refine ⟨_, rfl, a, rfl, ?_⟩
 refine ⟨_, rfl, b, rfl, ?_⟩
 refine while_by (fun σ H' => ∃ (x y : Int) (r : Option V), σ = [some (.int x), some (.int y), r] ∧ H' = H ∧ 0 ≤ x ∧ 0 ≤ y ∧ N11.gF x y = N11.gF a b) (fun σ _ => match σ with | [_, some (.int y), _] => y.toNat | _ => 0)
   ⟨_, _, none, rfl, rfl, by omega, by omega, N11.g_start a b⟩ ?_ ?_
 · rintro σ H1 ⟨x, y, r, rfl, rfl, hx, hy, hg⟩
   refine ⟨_, rfl, rfl, _, rfl, ?_⟩
   refine ndec2 (fun h => ?_) (fun h => ?_)
   · have hy0 : 0 < y := by (have : y ≠ 0 := fun z => h (congrArg V.int z)); omega
     refine ⟨_, rfl, _, rfl, _, _, rfl, rfl, hy0, _, rfl, _, rfl, ⟨y, x % y, _, rfl, rfl, by omega, Int.emod_nonneg x (by omega), ?_⟩, ?_⟩
     · rw [N11.g_turnE hx hy0]
       exact hg
     · have := Int.emod_lt_of_pos x hy0
       have := Int.emod_nonneg x (show y ≠ 0 by omega)
       show (x % y).toNat < y.toNat
       omega
   · have hy0 : y = 0 := by exact V.int.inj h
     subst hy0
     rw [← N11.g_end hg hx] at q
     exact ⟨_, rfl, q⟩
 · intro σ H1 Q1 Q2 hq z
   obtain ⟨v, e, sc, k, e2, z⟩ := z
   exact ⟨v, e, sc, k, e2, hq _ _ z⟩
theorem sc_only_at : FnScope ["many", "place", "number"] ["many", "place", "number"] (defScope s_only_at) := ⟨rfl, rfl, rfl, by decide +kernel, rfl, by decide +kernel, by decide +kernel⟩
theorem ok_only_at (D : Def K mg "only_at" s_only_at .none) (z_range : mg "range" = none) : Cal P w K mg base CX0 true 1 "only_at" ["many", "place", "number"] [] spOnly := by
 obtain ⟨f, fd, F, hm⟩ := D
 refine ⟨f, fd, _, F.ok sc_only_at (fun vs H Q E h => ?_) (fun cdv A outer s H vs Q E hr h => ?_), hm, F.kp, (F.binds fun _ _ _ _ _ _ us hl => match us, hl with | [_, _, _], _ => rfl), .nil, F.binds fun _ _ _ _ _ _ us hl => match us, hl with | [_, _, _], _ => rfl⟩
 · obtain ⟨m, k, x, rfl, hm, q⟩ := h
   rfl
 obtain ⟨m, k, x, rfl, hm, q⟩ := h
 have nd := sc_only_at.nd
 refine ⟨_, (pss_one (ps_ret (pe_lc [2, 1] rfl (LcOk.free ["place", "number"] rfl rfl (List.forall_mem_cons.mpr ⟨rfl, (List.forall_mem_cons.mpr ⟨rfl, (fun _ h => nomatch h)⟩)⟩) (by decide +kernel) rfl (by decide +kernel) rfl (by decide +kernel) (show (["at", "number", "place"] : List Str).Nodup from by decide +kernel) (List.forall_mem_cons.mpr ⟨⟨_, rfl, rfl, rfl, by decide +kernel⟩, (List.forall_mem_cons.mpr ⟨⟨_, rfl, rfl, rfl, by decide +kernel⟩, (fun _ h => nomatch h)⟩)⟩)) (pi_range1 rfl z_range (pa_cons (pv 0) pa_nil)) (fun C s2 H2 fp xe => (pe_ifExp (pt_cmpR op_eq (pv 0) (pv 2) (nomark _)) (pv 1) pe_int))))), ?_⟩
 have hline : 600 ≤ sizeLine := by decide
 refine ⟨_, rfl, _, rfl, by omega, by omega, ?_⟩
 refine lc_range (lo := 0) (fun i ys H' => ys = ((List.range i).map fun j => if j = k then x else 0).map V.int ∧ H' = H) ⟨rfl, rfl⟩ (by omega) ?_ ?_ ?_
 · rintro i ys H' hi ⟨rfl, rfl⟩
   rw [List.length_map, List.length_map, List.length_range]
 · rintro i ys H' hi ⟨rfl, rfl⟩
   refine ⟨_, rfl, _, rfl, rfl, _, rfl, ?_⟩
   refine dec2 (fun h => ?_) (fun h => ?_)
   · have e : i = k := by have := V.int.inj h; omega
     refine ⟨_, rfl, ?_, rfl⟩
     rw [List.range_succ, List.map_append, List.map_append, e]
     simp
   · have e : i ≠ k := fun w => h (congrArg V.int (by omega))
     refine ⟨?_, rfl⟩
     rw [List.range_succ, List.map_append, List.map_append]
     simp [e]
 rintro ys H' ⟨rfl, rfl⟩ p hp
 exact q p hp
theorem sc_widened : FnScope ["square", "many"] ["square"] (defScope s_widened) := ⟨rfl, rfl, rfl, by decide +kernel, rfl, by decide +kernel, by decide +kernel⟩
theorem ok_widened (D : Def K mg "widened" s_widened .none) (c_only_at : Cal P w K mg base CX0 true 1 "only_at" ["many", "place", "number"] [] spOnly) (z_len : mg "len" = none) (z_enumerate : mg "enumerate" = none) (z_list : mg "list" = none) : Cal P w K mg base CX0 true 2 "widened" ["square"] [] spWid := by
 obtain ⟨f, fd, F, hm⟩ := D
 obtain ⟨f_only_at, fd_only_at, d_only_at, G_only_at, m_only_at, k_only_at, b_only_at, v_only_at, b_only_at1⟩ := c_only_at
 refine ⟨f, fd, _, F.ok sc_widened (fun vs H Q E h => ?_) (fun cdv A outer s H vs Q E hr h => ?_), hm, F.kp, (F.binds fun _ _ _ _ _ _ us hl => match us, hl with | [_], _ => rfl), .nil, F.binds fun _ _ _ _ _ _ us hl => match us, hl with | [_], _ => rfl⟩
 · obtain ⟨a, Z, rfl, ha, hZ, h6, hw, q⟩ := h
   rfl
 obtain ⟨a, Z, rfl, ha, hZ, h6, hw, q⟩ := h
 have nd := sc_widened.nd
 refine ⟨_, (pss_cons (ps_set (i := 1) nd rfl (Or.inr rfl) (pe_callB call_len_seq rfl z_len bt_len (pa_cons (pv 0) pa_nil)))
   (pss_one (ps_ret (pe_lcT (xs := ["place", "numbers"]) [1] rfl (LcOkT.free (xs := ["place", "numbers"]) ["many"] rfl rfl (List.forall_mem_cons.mpr ⟨rfl, (fun _ h => nomatch h)⟩) (by decide +kernel) rfl (by decide +kernel) (by decide +kernel) (by decide +kernel) (show (["place", "numbers", "many"] : List Str).Nodup from by decide +kernel) (List.forall_mem_cons.mpr ⟨⟨_, rfl, rfl, rfl, by decide +kernel⟩, (fun _ h => nomatch h)⟩)) (pi_enum rfl z_enumerate (pa_cons (pv 0) pa_nil)) (pg_tup2T rfl (LcOkT.free (xs := ["place", "numbers"]) ["many"] rfl rfl (List.forall_mem_cons.mpr ⟨rfl, (fun _ h => nomatch h)⟩) (by decide +kernel) rfl (by decide +kernel) (by decide +kernel) (by decide +kernel) (show (["place", "numbers", "many"] : List Str).Nodup from by decide +kernel) (List.forall_mem_cons.mpr ⟨⟨_, rfl, rfl, rfl, by decide +kernel⟩, (fun _ h => nomatch h)⟩))) (fun C s2 H2 fp xe => (pe_op op_catC (pe_callTy call_list_ofC rfl z_list bt_list (pa_cons (pv 1) pa_nil)) (pe_call G_only_at (hr.mono (by decide)) rfl m_only_at k_only_at b_only_at Paired.nil pass0 (pa_cons (pv 2) (pa_cons (pv 0) (pa_cons pe_int pa_nil)))))))))), ?_⟩
 have hline : 10 ^ 6 ≤ sizeLine := by decide
 refine ⟨_, rfl, a, _, rfl, .inl (SqL.of ha), ?_⟩
 rw [rfz_len]
 refine ⟨_, rfl, a, rfl, ⟨_, SqL.of ha⟩, ?_⟩
 refine lc_enum (xs := rfz Z) (fun i ys H' => ∃ Y : List Lz, ys = rfz Y ∧ Same H H' ∧ LL H' Y ∧ rws Y = (List.range i).map fun k => (rws Z).getD k [] ++ N45.uni (rws Z).length k 1) ⟨[], rfl, same_refl _, (fun z hz => nomatch hz), rfl⟩ (by rw [rfz_len]; omega) ?_ ?_ ?_
 · rintro i ys H' hi ⟨Y, rfl, e, _, hY⟩
   refine ⟨SqL.of (e _ _ ha), ?_⟩
   have := congrArg List.length hY
   rw [List.length_map, List.length_map, List.length_range] at this
   rw [rfz_len]
   exact this
 · rintro i x ys H' t hx ⟨Y, rfl, e, hY, hYv⟩ ht σ0 h0
   obtain ⟨z, hz, rfl⟩ := rfz_at hx
   obtain ⟨u, v, rfl⟩ := two_of h0
   have et := same_upd (o := .tup [.int (i : Int), .ref z.1]) ht
   have e1 := e.trans et
   refine ⟨t, _, rfl, SqT.of upd_same, rfl, _, _, rfl, _, _, rfl, rfl, [_, _], rfl, rfl, ?_⟩
   have hz1 := e1 _ _ (hZ z (List.mem_of_getElem? hz))
   refine ⟨_, rfl, z.1, _, rfl, .inl (SqL.of hz1), fun p hp => ?_⟩
   have f1 := same_upd (o := .lst (z.2.map V.int)) hp
   refine ⟨_, rfl, _, rfl, Z.length, i, 1, rfl, by omega, fun p2 hp2 => ?_⟩
   have f2 := same_upd (o := .lst ((N45.uni Z.length i 1).map V.int)) hp2
   refine ⟨p, p2, _, _, rfl, rfl, f2 _ _ upd_same, upd_same, ?_, fun p3 hp3 => ?_⟩
   · rw [List.length_map, List.length_map, N45.uni_len]
     have := hw z (List.mem_of_getElem? hz)
     omega
   have f3 := same_upd (o := .lst (z.2.map V.int ++ (N45.uni Z.length i 1).map V.int)) hp3
   have f13 := et.trans ((f1.trans f2).trans f3)
   refine ⟨Y ++ [(p3, z.2 ++ N45.uni Z.length i 1)], by rw [rfz_app]; rfl, e.trans f13, (hY.same f13).app fun y hy => ?_, ?_⟩
   · rw [List.mem_singleton.mp hy, upd_same, List.map_append]
   · rw [List.range_succ, List.map_append, rws_app, hYv]
     refine congrArg _ ?_
     show [z.2 ++ N45.uni Z.length i 1] = [(rws Z).getD i [] ++ N45.uni (rws Z).length i 1]
     rw [rws_at hz, List.length_map]
 rintro ys H' ⟨Y, rfl, e, hY, hYv⟩ p hp
 have f := same_upd (o := .lst (rfz Y)) hp
 refine q p Y _ (e.trans f) upd_same (hY.same f) ?_
 rw [hYv, rfz_len]
 unfold N45.wid
 rw [List.length_map]
theorem sc_lean : FnScope ["numbers", "shared", "number"] ["numbers"] (defScope s_lean) := ⟨rfl, rfl, rfl, by decide +kernel, rfl, by decide +kernel, by decide +kernel⟩
theorem ok_lean (D : Def K mg "lean" s_lean .none) (c_divisor : Cal P w K mg base CX0 true 1 "divisor" ["one", "other"] [] spG) : Cal P w K mg base CX0 true 2 "lean" ["numbers"] [] spLean := by
 obtain ⟨f, fd, F, hm⟩ := D
 obtain ⟨f_divisor, fd_divisor, d_divisor, G_divisor, m_divisor, k_divisor, b_divisor, v_divisor, b_divisor1⟩ := c_divisor
 refine ⟨f, fd, _, F.ok sc_lean (fun vs H Q E h => ?_) (fun cdv A outer s H vs Q E hr h => ?_), hm, F.kp, (F.binds fun _ _ _ _ _ _ us hl => match us, hl with | [_], _ => rfl), .nil, F.binds fun _ _ _ _ _ _ us hl => match us, hl with | [_], _ => rfl⟩
 · obtain ⟨a, r, rfl, ha, hl, h0, hb, q⟩ := h
   rfl
 obtain ⟨a, r, rfl, ha, hl, h0, hb, q⟩ := h
 have nd := sc_lean.nd
 refine ⟨_, (pss_cons (ps_set (i := 1) nd rfl (Or.inr rfl) pe_int)
   (pss_cons (ps_for PassesOwn.never rfl (pi_list (pv 0)) (pg_name (i := 2) nd rfl (Or.inl rfl)) (pss_one (ps_set (i := 1) nd rfl (Or.inr rfl) (pe_call G_divisor (hr.mono (by decide)) rfl m_divisor k_divisor b_divisor Paired.nil pass0 (pa_cons (pv 1) (pa_cons (pv 2) pa_nil))))))
   (pss_one (ps_ret (pe_lc [1] rfl (LcOk.free ["shared"] rfl rfl (List.forall_mem_cons.mpr ⟨rfl, (fun _ h => nomatch h)⟩) (by decide +kernel) rfl (by decide +kernel) rfl (by decide +kernel) (show (["number", "shared"] : List Str).Nodup from by decide +kernel) (List.forall_mem_cons.mpr ⟨⟨_, rfl, rfl, rfl, by decide +kernel⟩, (fun _ h => nomatch h)⟩)) (pi_list (pv 0)) (fun C s2 H2 fp xe => (pe_op op_fdivB (pv 0) (pv 1)))))))), ?_⟩
 have hline : 600 ≤ sizeLine := by decide
 have lr : (r.map V.int).length = r.length := List.length_map ..
 refine ⟨_, rfl, a, rfl, ⟨_, SqL.of ha⟩, ?_⟩
 refine for_list (xs := r.map V.int) (fun i σ H' => ∃ (o : Option V), σ = [some (.ref a), some (.int (N45.gL 0 (r.take i))), o] ∧ H' = H) ⟨_, rfl, rfl⟩ ?_ ?_ ?_
 · rintro i σ H' hi ⟨o, rfl, rfl⟩
   exact SqL.of ha
 · rintro i x σ H' hx ⟨o, rfl, rfl⟩
   obtain ⟨w, hw, rfl⟩ := ints_at hx
   refine ⟨_, rfl, _, rfl, _, _, rfl, some (.int w), ?_, rfl⟩
   rw [take_nz hw, N45.gL_app]
   rfl
 rintro σ H' ⟨o, rfl, rfl⟩
 rw [lr, List.take_length]
 refine ⟨_, rfl, a, rfl, ⟨_, SqL.of ha⟩, ?_⟩
 refine lc_list (xs := r.map V.int) (fun i ys H2 => ys = ((r.take i).map fun x => x.fdiv (N45.gL 0 r)).map V.int ∧ H2 = H') ⟨rfl, rfl⟩ (by omega) ?_ ?_ ?_
 · rintro i ys H2 hi ⟨rfl, rfl⟩
   refine ⟨SqL.of ha, ?_⟩
   rw [List.length_map, List.length_map, List.length_take]
   omega
 · rintro i x ys H2 hx ⟨rfl, rfl⟩
   obtain ⟨w, hw, rfl⟩ := ints_at hx
   refine ⟨_, rfl, _, rfl, _, _, rfl, rfl, logN h0 (gL_bt h0 hb) (Nat.le_refl _), ?_, rfl⟩
   rw [take_nz hw, List.map_append, List.map_append]
   rfl
 rintro ys H2 ⟨rfl, rfl⟩ p hp
 rw [lr, List.take_length]
 exact q p hp
theorem sc_cleared : FnScope ["numbers", "by", "place"] ["numbers", "by", "place"] (defScope s_cleared) := ⟨rfl, rfl, rfl, by decide +kernel, rfl, by decide +kernel, by decide +kernel⟩
theorem ok_cleared (D : Def K mg "cleared" s_cleared .none) (c_lean : Cal P w K mg base CX0 true 2 "lean" ["numbers"] [] spLean) (z_zip : mg "zip" = none) : Cal P w K mg base CX0 true 3 "cleared" ["numbers", "by", "place"] [] spClr := by
 obtain ⟨f, fd, F, hm⟩ := D
 obtain ⟨f_lean, fd_lean, d_lean, G_lean, m_lean, k_lean, b_lean, v_lean, b_lean1⟩ := c_lean
 refine ⟨f, fd, _, F.ok sc_cleared (fun vs H Q E h => ?_) (fun cdv A outer s H vs Q E hr h => ?_), hm, F.kp, (F.binds fun _ _ _ _ _ _ us hl => match us, hl with | [_, _, _], _ => rfl), .nil, F.binds fun _ _ _ _ _ _ us hl => match us, hl with | [_, _, _], _ => rfl⟩
 · obtain ⟨a, b, n, y, p, e, rfl, ha, hb, hl, h100, hp, hg, hn, hy, he, q⟩ := h
   rfl
 obtain ⟨a, b, n, y, p, e, rfl, ha, hb, hl, h100, hp, hg, hn, hy, he, q⟩ := h
 have nd := sc_cleared.nd
 refine ⟨_, (pss_one (ps_ret (pe_call G_lean (hr.mono (by decide)) rfl m_lean k_lean b_lean Paired.nil pass0 (pa_cons (pe_lcT (xs := ["one", "other"]) [1, 2, 0] rfl (LcOkT.free (xs := ["one", "other"]) ["place", "numbers", "by"] rfl rfl (List.forall_mem_cons.mpr ⟨rfl, (List.forall_mem_cons.mpr ⟨rfl, (List.forall_mem_cons.mpr ⟨rfl, (fun _ h => nomatch h)⟩)⟩)⟩) (by decide +kernel) rfl (by decide +kernel) (by decide +kernel) (by decide +kernel) (show (["one", "other", "by", "place", "numbers"] : List Str).Nodup from by decide +kernel) (List.forall_mem_cons.mpr ⟨⟨_, rfl, rfl, rfl, by decide +kernel⟩, (List.forall_mem_cons.mpr ⟨⟨_, rfl, rfl, rfl, by decide +kernel⟩, (List.forall_mem_cons.mpr ⟨⟨_, rfl, rfl, rfl, by decide +kernel⟩, (fun _ h => nomatch h)⟩)⟩)⟩)) (pi_zip rfl z_zip (pa_cons (pv 0) (pa_cons (pv 1) pa_nil))) (pg_tup2T rfl (LcOkT.free (xs := ["one", "other"]) ["place", "numbers", "by"] rfl rfl (List.forall_mem_cons.mpr ⟨rfl, (List.forall_mem_cons.mpr ⟨rfl, (List.forall_mem_cons.mpr ⟨rfl, (fun _ h => nomatch h)⟩)⟩)⟩) (by decide +kernel) rfl (by decide +kernel) (by decide +kernel) (by decide +kernel) (show (["one", "other", "by", "place", "numbers"] : List Str).Nodup from by decide +kernel) (List.forall_mem_cons.mpr ⟨⟨_, rfl, rfl, rfl, by decide +kernel⟩, (List.forall_mem_cons.mpr ⟨⟨_, rfl, rfl, rfl, by decide +kernel⟩, (List.forall_mem_cons.mpr ⟨⟨_, rfl, rfl, rfl, by decide +kernel⟩, (fun _ h => nomatch h)⟩)⟩)⟩))) (fun C s2 H2 fp xe => (pe_op op_sub (pe_op op_mulB (pv 0) (pe_ix ix_seqC (pv 2) (pv 3) (fun _ _ => rfl))) (pe_op op_mulB (pv 1) (pe_ix ix_seqC (pv 4) (pv 3) (fun _ _ => rfl)))))) pa_nil)))), ?_⟩
 have hline : 600 ≤ sizeLine := by decide
 have ln : (n.map V.int).length = n.length := List.length_map ..
 have ly : (y.map V.int).length = y.length := List.length_map ..
 have lc : (N45.crude n y p).length = n.length := N45.crude_len p hl
 have hyp : p < y.length := by omega
 refine ⟨_, rfl, _, rfl, a, b, rfl, ⟨_, SqL.of ha⟩, ⟨_, SqL.of hb⟩, ?_⟩
 refine lc_zip (xs := n.map V.int) (ys := y.map V.int) (fun i zs H' => zs = ((N45.crude n y p).take i).map V.int ∧ Same H H') ⟨rfl, same_refl _⟩ (by omega) (by omega) ?_ ?_ ?_
 · rintro i zs H' hi ⟨rfl, e⟩
   refine ⟨SqL.of (e _ _ ha), SqL.of (e _ _ hb), ?_⟩
   rw [List.length_map, List.length_take]
   omega
 · rintro i x1 x2 zs H' t hx1 hx2 ⟨rfl, e1⟩ ht σ0 h0
   obtain ⟨w1, hw1, rfl⟩ := ints_at hx1
   obtain ⟨w2, hw2, rfl⟩ := ints_at hx2
   obtain ⟨u, v, rfl⟩ := two_of h0
   have et := same_upd (o := .tup [.int w1, .int w2]) ht
   have e2 := e1.trans et
   have b1 : N45.Bt e w1 := hn _ (List.mem_of_getElem? hw1)
   have b2 : N45.Bt e w2 := hy _ (List.mem_of_getElem? hw2)
   have hin : i < n.length := (List.getElem?_eq_some_iff.mp hw1).1
   refine ⟨t, _, rfl, SqT.of upd_same, rfl, _, _, rfl, _, _, rfl, rfl, [_, _], rfl, rfl, ?_⟩
   refine ⟨_, rfl, _, rfl, _, rfl, .inl ⟨b, _, _, _, rfl, rfl, SqL.of (e2 _ _ hb), atInt hyp, ?_⟩⟩
   refine ⟨_, _, rfl, rfl, mulN b1 (N45.bt_gt hy p) (by omega) (by omega), ?_⟩
   refine ⟨_, rfl, _, rfl, _, rfl, .inl ⟨a, _, _, _, rfl, rfl, SqL.of (e2 _ _ ha), atInt hp, ?_⟩⟩
   refine ⟨_, _, rfl, rfl, mulN b2 (N45.bt_gt hn p) (by omega) (by omega), _, _, rfl, rfl, ?_, e2⟩
   have h1 : N45.gt n i = w1 := by
     have := N45.gt_some hin
     rw [hw1] at this
     exact (Option.some.inj this).symm
   have h2 : N45.gt y i = w2 := by
     have := N45.gt_some (r := y) (j := i) (by omega)
     rw [hw2] at this
     exact (Option.some.inj this).symm
   have hc : (N45.crude n y p)[i]? = some (w1 * N45.gt y p - w2 * N45.gt n p) := by
     rw [N45.gt_some (by omega), N45.crude_at p hl, h1, h2]
   rw [take_nz hc, List.map_append]
   rfl
 rintro zs H' ⟨rfl, e1⟩ l hl1
 rw [ln, ← lc, List.take_length]
 have f := same_upd (o := .lst ((N45.crude n y p).map V.int)) hl1
 refine ⟨l, _, rfl, upd_same, by omega, hg, (fun x hx => (N45.crude_bt hl hn hy x hx).mono (by omega)), fun p2 hp2 => ?_⟩
 exact q p2 _ ((e1.trans f).trans (same_upd hp2)) upd_same
theorem sc_first_with : FnScope ["lists", "place", "at", "numbers"] ["lists", "place"] (defScope s_first_with) := ⟨rfl, rfl, rfl, by decide +kernel, rfl, by decide +kernel, by decide +kernel⟩
theorem ok_first_with (D : Def K mg "first_with" s_first_with .none) (z_enumerate : mg "enumerate" = none) : Cal P w K mg base CX0 true 1 "first_with" ["lists", "place"] [] spFw := by
 obtain ⟨f, fd, F, hm⟩ := D
 refine ⟨f, fd, _, F.ok sc_first_with (fun vs H Q E h => ?_) (fun cdv A outer s H vs Q E hr h => ?_), hm, F.kp, (F.binds fun _ _ _ _ _ _ us hl => match us, hl with | [_, _], _ => rfl), .nil, F.binds fun _ _ _ _ _ _ us hl => match us, hl with | [_, _], _ => rfl⟩
 · obtain ⟨a, Z, p, rfl, ha, hZ, hp, q1, q2⟩ := h
   rfl
 obtain ⟨a, Z, p, rfl, ha, hZ, hp, q1, q2⟩ := h
 have nd := sc_first_with.nd
 refine ⟨_, (pss_cons (ps_for PassesOwn.never rfl (pi_enum rfl z_enumerate (pa_cons (pv 0) pa_nil)) (pg_tup rfl (pgs_cons (pg_name (i := 2) nd rfl (Or.inl rfl)) (pgs_cons (pg_name (i := 3) nd rfl (Or.inl rfl)) pgs_nil))) (pss_one (ps_if (pt_cmpR op_ne (pe_ix ix_seq (pv 3) (pv 1) (fun _ _ => rfl)) pe_int (nomark _)) (pss_one (ps_ret (pv 2))) pss_nil)))
   (pss_one (ps_ret pe_non))), ?_⟩
 refine ⟨_, rfl, a, rfl, ⟨_, SqL.of ha⟩, ?_⟩
 refine for_enum (xs := rfz Z) (fun i σ H' => ∃ (o2 o3 : Option V), σ = [some (.ref a), some (.int p), o2, o3] ∧ Same H H' ∧ ∀ z ∈ Z.take i, N45.gt z.2 p = 0) ⟨_, _, rfl, same_refl _, fun z hz => nomatch hz⟩ ?_ ?_ ?_
 · rintro i σ H' hi ⟨o2, o3, rfl, e, _⟩
   exact SqL.of (e _ _ ha)
 · rintro i x σ H' t hx ⟨o2, o3, rfl, e, h0⟩ ht
   obtain ⟨z, hz, rfl⟩ := rfz_at hx
   have e1 := e.trans (same_upd (o := .tup [.int (i : Int), .ref z.1]) ht)
   have zm := List.mem_of_getElem? hz
   refine ⟨t, _, rfl, SqT.of upd_same, rfl, _, _, rfl, _, _, rfl, rfl, ?_⟩
   refine ⟨_, rfl, _, rfl, .inl ⟨z.1, _, _, _, rfl, rfl, SqL.of (e1 _ _ (hZ z zm)), atInt (hp z zm), rfl, _, rfl, ?_⟩⟩
   refine ndec2 (fun h => ?_) (fun h => ?_)
   · have hne : N45.gt z.2 p ≠ 0 := fun w => h (congrArg V.int w)
     refine ⟨_, rfl, q2 i ?_ _ e1⟩
     obtain ⟨hi, ez⟩ := List.getElem?_eq_some_iff.mp hz
     refine List.findIdx?_eq_some_iff_getElem.mpr ⟨by rw [List.length_map]; exact hi, ?_, fun j hj => ?_⟩
     · rw [List.getElem_map, ez]
       exact decide_eq_true hne
     · rw [List.getElem_map]
       have hjl : j < Z.length := by omega
       have := h0 Z[j] (List.mem_of_getElem? (i := j) (by rw [List.getElem?_take_of_lt hj, List.getElem?_eq_getElem hjl]))
       simp [this]
   · refine ⟨_, _, rfl, e1, fun y hy => ?_⟩
     rw [take_nz hz] at hy
     rcases List.mem_append.mp hy with c | c
     · exact h0 y c
     · rw [List.mem_singleton.mp c]
       exact V.int.inj h
 rintro σ H' ⟨o2, o3, rfl, e, h0⟩
 rw [rfz_len, List.take_length] at h0
 refine q1 ?_ _ e
 refine List.findIdx?_eq_none_iff.mpr fun r hr => ?_
 obtain ⟨z, hz, rfl⟩ := List.mem_map.mp hr
 simp [h0 z hz]
theorem sc_turned : FnScope ["square", "leading", "others", "place", "at", "by"] ["square"] (defScope s_turned) := ⟨rfl, rfl, rfl, by decide +kernel, rfl, by decide +kernel, by decide +kernel⟩
theorem ok_turned (D : Def K mg "turned" s_turned .none) (c_widened : Cal P w K mg base CX0 true 2 "widened" ["square"] [] spWid) (c_first_with : Cal P w K mg base CX0 true 1 "first_with" ["lists", "place"] [] spFw) (c_cleared : Cal P w K mg base CX0 true 3 "cleared" ["numbers", "by", "place"] [] spClr) (z_range : mg "range" = none) (z_len : mg "len" = none) : Cal P w K mg base CX0 true 4 "turned" ["square"] [] spTurn := by
 obtain ⟨f, fd, F, hm⟩ := D
 obtain ⟨f_widened, fd_widened, d_widened, G_widened, m_widened, k_widened, b_widened, v_widened, b_widened1⟩ := c_widened
 obtain ⟨f_first_with, fd_first_with, d_first_with, G_first_with, m_first_with, k_first_with, b_first_with, v_first_with, b_first_with1⟩ := c_first_with
 obtain ⟨f_cleared, fd_cleared, d_cleared, G_cleared, m_cleared, k_cleared, b_cleared, v_cleared, b_cleared1⟩ := c_cleared
 refine ⟨f, fd, _, F.ok sc_turned (fun vs H Q E h => ?_) (fun cdv A outer s H vs Q E hr h => ?_), hm, F.kp, (F.binds fun _ _ _ _ _ _ us hl => match us, hl with | [_], _ => rfl), .nil, F.binds fun _ _ _ _ _ _ us hl => match us, hl with | [_], _ => rfl⟩
 · obtain ⟨a, Z, E, rfl, ha, hZ, hS, q⟩ := h
   rfl
 obtain ⟨a, Z, E, rfl, ha, hZ, hS, q⟩ := h
 have nd := sc_turned.nd
 refine ⟨_, (pss_cons (ps_set (i := 1) nd rfl (Or.inl rfl) (pe_lst pa_nil))
   (pss_cons (ps_set (i := 2) nd rfl (Or.inl rfl) (pe_call G_widened (hr.mono (by decide)) rfl m_widened k_widened b_widened Paired.nil pass0 (pa_cons (pv 0) pa_nil)))
   (pss_cons (ps_for PassesOwn.never rfl (pi_range1 rfl z_range (pa_cons (pe_callB call_len_seq rfl z_len bt_len (pa_cons (pv 0) pa_nil)) pa_nil)) (pg_name (i := 3) nd rfl (Or.inr rfl)) (pss_cons (ps_set (i := 4) nd rfl (Or.inl rfl) (pe_call G_first_with (hr.mono (by decide)) rfl m_first_with k_first_with b_first_with Paired.nil pass0 (pa_cons (pv 2) (pa_cons (pv 3) pa_nil))))
   (pss_one (ps_if (pt_cmpR op_notN (pv 4) pe_non (nomark _)) (pss_cons (ps_set (i := 5) nd rfl (Or.inr rfl) (pe_ix ix_seq (pv 2) (pv 4) (fun _ _ => rfl)))
   (pss_cons (ps_setLC [5, 3] (i := 2) nd rfl (Or.inl rfl) rfl (LcOk.free ["place", "by"] rfl rfl (List.forall_mem_cons.mpr ⟨rfl, (List.forall_mem_cons.mpr ⟨rfl, (fun _ h => nomatch h)⟩)⟩) (by decide +kernel) rfl (by decide +kernel) rfl (by decide +kernel) (show (["numbers", "by", "place"] : List Str).Nodup from by decide +kernel) (List.forall_mem_cons.mpr ⟨⟨_, rfl, rfl, rfl, by decide +kernel⟩, (List.forall_mem_cons.mpr ⟨⟨_, rfl, rfl, rfl, by decide +kernel⟩, (fun _ h => nomatch h)⟩)⟩)) (pi_list (pe_op op_cat (pe_slice sl_list (pv 2) po_none (po_some (pv 4))) (pe_slice sl_list (pv 2) (po_some (pe_op op_add (pv 4) pe_int)) po_none))) (fun C s2 H2 fp xe => (pe_call G_cleared (hr.mono (by decide)) rfl m_cleared k_cleared b_cleared Paired.nil pass0 (pa_cons (pv 0) (pa_cons (pv 1) (pa_cons (pv 2) pa_nil))))))
   (pss_one (ps_set (i := 1) nd rfl (Or.inl rfl) (pe_op op_cat (pe_lc [5, 3] rfl (LcOk.free ["place", "by"] rfl rfl (List.forall_mem_cons.mpr ⟨rfl, (List.forall_mem_cons.mpr ⟨rfl, (fun _ h => nomatch h)⟩)⟩) (by decide +kernel) rfl (by decide +kernel) rfl (by decide +kernel) (show (["numbers", "by", "place"] : List Str).Nodup from by decide +kernel) (List.forall_mem_cons.mpr ⟨⟨_, rfl, rfl, rfl, by decide +kernel⟩, (List.forall_mem_cons.mpr ⟨⟨_, rfl, rfl, rfl, by decide +kernel⟩, (fun _ h => nomatch h)⟩)⟩)) (pi_list (pv 1)) (fun C s2 H2 fp xe => (pe_call G_cleared (hr.mono (by decide)) rfl m_cleared k_cleared b_cleared Paired.nil pass0 (pa_cons (pv 0) (pa_cons (pv 1) (pa_cons (pv 2) pa_nil)))))) (pe_lst (pa_cons (pv 5) pa_nil))))))) pss_nil))))
   (pss_one (ps_ret (pe_tup (pa_cons (pv 1) (pa_cons (pv 2) pa_nil)))))))), ?_⟩
 have hline : 10 ^ 6 ≤ sizeLine := by decide
 obtain ⟨hq, h6, he⟩ := hS
 have lz : (rws Z).length = Z.length := List.length_map ..
 refine ⟨(by show 0 ≤ sizeLine; decide), fun l0 hl0 => ?_⟩
 have e1 := same_upd (o := .lst []) hl0
 refine ⟨_, rfl, a, Z, rfl, e1 _ _ ha, hZ.same e1, h6, (fun z hz => ?_), fun lb0 B0 H1 e2 hlb0 hB0 hBv => ?_⟩
 · have := hq.len z.2 (List.mem_map.mpr ⟨z, hz, rfl⟩)
   omega
 have e12 := e1.trans e2
 refine ⟨_, rfl, a, _, rfl, .inl (SqL.of (e12 _ _ ha)), _, rfl, ?_⟩
 rw [rfz_len]
 refine ⟨by omega, by omega, ?_⟩
 refine for_range (fun i σ H' => ∃ (la lb : Addr) (A B : List Lz) (o3 o4 o5 : Option V), σ = [some (.ref a), some (.ref la), some (.ref lb), o3, o4, o5] ∧ Same H H' ∧ H' la = some (.lst (rfz A)) ∧ H' lb = some (.lst (rfz B)) ∧ LL H' A ∧ LL H' B ∧ (rws A, rws B) = N45.trn (rws Z) i) ⟨l0, lb0, [], B0, _, _, _, rfl, e12, e2 _ _ upd_same, hlb0, (fun z hz => nomatch hz), hB0, (by rw [hBv]; rfl)⟩ ?_ ?_
 · rintro i σ H2 hi ⟨la, lb, A, B, o3, o4, o5, rfl, e, hla, hlb, hA, hB, hv⟩
   have hi6 : i < Z.length := by omega
   obtain ⟨tl, tr⟩ := N45.trn_len hq (p := i) (by omega)
   have hvA : rws A = (N45.trn (rws Z) i).1 := congrArg Prod.fst hv
   have hvB : rws B = (N45.trn (rws Z) i).2 := congrArg Prod.snd hv
   rw [← hvA, ← hvB] at tl tr
   rw [List.length_map, List.length_map, lz] at tl
   have exi : N45.ex E i ≤ 1990 := Nat.le_trans (N45.ex_mono E (Nat.le_of_lt hi6)) he
   have rA : ∀ z ∈ A, z.2.length = 2 * Z.length ∧ ∀ x ∈ z.2, N45.Bt (N45.ex E i) x := fun z hz => by
     have := tr z.2 (List.mem_append_left _ (List.mem_map.mpr ⟨z, hz, rfl⟩))
     rw [lz] at this
     exact this
   have rB : ∀ z ∈ B, z.2.length = 2 * Z.length ∧ ∀ x ∈ z.2, N45.Bt (N45.ex E i) x := fun z hz => by
     have := tr z.2 (List.mem_append_right _ (List.mem_map.mpr ⟨z, hz, rfl⟩))
     rw [lz] at this
     exact this
   rw [show (0 : Int) + (i : Int) = (i : Int) from Int.zero_add _]
   refine ⟨_, rfl, _, rfl, lb, B, i, rfl, hlb, hB, (fun z hz => by have := (rB z hz).1; omega), (fun hn H3 e3 => ?_), fun j hj H3 e3 => ?_⟩
   · refine ⟨_, rfl, rfl, _, rfl, ndecF rfl ?_⟩
     refine ⟨la, lb, A, B, _, _, _, rfl, e.trans e3, e3 _ _ hla, e3 _ _ hlb, hA.same e3, hB.same e3, ?_⟩
     show _ = N45.stp i (N45.trn (rws Z) i)
     unfold N45.stp
     rw [← hv]
     dsimp only
     rw [hn]
   · obtain ⟨hjB, hjn⟩ := N45.fw_some hj
     rw [List.length_map] at hjB
     have hbj : B[j]? = some B[j] := List.getElem?_eq_getElem hjB
     have hbm : B[j] ∈ B := List.getElem_mem _
     have ne := N45.trn_ne hq (p := i) (i := j) (by omega) (by rw [← hvB]; exact hj)
     rw [← hvA, ← hvB, rws_at hbj] at ne
     refine ⟨_, rfl, rfl, _, rfl, ndecT (fun z => by cases z) ?_⟩
     refine ⟨_, rfl, _, rfl, .inl ⟨lb, _, _, _, rfl, rfl, SqL.of (e3 _ _ hlb), atI_nat (at_rfz hbj), ?_⟩⟩
     generalize hbe : B[j] = b at *
     refine ⟨_, rfl, _, rfl, _, rfl, lb, _, rfl, SqL.of (e3 _ _ hlb), fun x1 hx1 => ?_⟩
     have s1 := same_upd (o := .lst (cutV (rfz B) none (some (j : Int)))) hx1
     refine ⟨_, rfl, _, rfl, _, _, rfl, rfl, _, rfl, lb, _, rfl, SqL.of (s1 _ _ (e3 _ _ hlb)), fun x2 hx2 => ?_⟩
     have s2 := same_upd (o := .lst (cutV (rfz B) (some ((j : Int) + 1)) none)) hx2
     have lB : (rfz B).length = B.length := rfz_len B
     have c1 : cutV (rfz B) none (some (j : Int)) = rfz (B.take j) := by
       rw [cutT (by omega)]
       unfold rfz
       rw [List.map_take]
     have c2 : cutV (rfz B) (some ((j : Int) + 1)) none = rfz (B.drop (j + 1)) := by
       rw [show (j : Int) + 1 = ((j + 1 : Nat) : Int) by omega, cutD (by omega)]
       unfold rfz
       rw [List.map_drop]
     have lc : (rfz (B.take j)).length + (rfz (B.drop (j + 1))).length ≤ B.length := by
       rw [rfz_len, rfz_len, List.length_take, List.length_drop]
       omega
     refine ⟨x1, x2, _, _, rfl, rfl, s2 _ _ upd_same, upd_same, by rw [c1, c2]; omega, fun x3 hx3 => ?_⟩
     rw [c1] at s1 s2 hx3 ⊢
     rw [c2] at s2 hx3 ⊢
     rw [← rfz_app]
     have s3 := same_upd (o := .lst (rfz (B.take j ++ B.drop (j + 1)))) hx3
     have es := (s1.trans s2).trans s3
     have e4 := e3.trans es
     have hx3v : upd (upd (upd H3 x1 (.lst (rfz (B.take j)))) x2 (.lst (rfz (B.drop (j + 1))))) x3 (.lst (rfz (B.take j ++ B.drop (j + 1)))) x3 = some (.lst (rfz (B.take j ++ B.drop (j + 1)))) := upd_same
     generalize upd (upd (upd H3 x1 (.lst (rfz (B.take j)))) x2 (.lst (rfz (B.drop (j + 1))))) x3 (.lst (rfz (B.take j ++ B.drop (j + 1)))) = H4 at s3 es e4 hx3v ⊢
     have cm : ∀ z ∈ B.take j ++ B.drop (j + 1), z ∈ B := fun z hz => (List.mem_append.mp hz).elim List.mem_of_mem_take List.mem_of_mem_drop
     have cutv : rws (B.take j ++ B.drop (j + 1)) = N45.cut (rws B) j := by
       unfold N45.cut
       rw [rws_app, ← List.map_take, ← List.map_drop]
     have hC4 : LL H4 (B.take j ++ B.drop (j + 1)) := fun z hz => e4 _ _ (hB z (cm z hz))
     have hCn : ∀ z ∈ B.take j ++ B.drop (j + 1), N45.gL 0 (N45.crude z.2 b.2 i) ≠ 0 := fun z hz => ne z.2 (List.mem_append_right _ (by rw [← cutv]; exact List.mem_map.mpr ⟨z, hz, rfl⟩))
     have hCr : ∀ z ∈ B.take j ++ B.drop (j + 1), z.2.length = 2 * Z.length ∧ ∀ x ∈ z.2, N45.Bt (N45.ex E i) x := fun z hz => rB z (cm z hz)
     have hC6 : (B.take j ++ B.drop (j + 1)).length ≤ 6 := by
       rw [← rfz_len, rfz_app, List.length_append]
       omega
     generalize B.take j ++ B.drop (j + 1) = C at hx3v cutv hC4 hCn hCr hC6
     have hb4 := e4 _ _ (hB b hbm)
     have rb := rB b hbm
     have lC : (rfz C).length = C.length := rfz_len C
     have lA : (rfz A).length = A.length := rfz_len A
     refine ⟨x3, rfl, ⟨_, SqL.of hx3v⟩, ?_⟩
     refine lc_list (xs := rfz C) (fun k ys H5 => ∃ Y : List Lz, ys = rfz Y ∧ Same H4 H5 ∧ LL H5 Y ∧ rws Y = (rws (C.take k)).map fun r => N45.clr r b.2 i) ⟨[], rfl, same_refl _, (fun z hz => nomatch hz), rfl⟩ (by omega) ?_ ?_ ?_
     · rintro k ys H5 hk ⟨Y, rfl, e5, _, hY⟩
       refine ⟨SqL.of (e5 _ _ hx3v), ?_⟩
       have := congrArg List.length hY
       rw [List.length_map, List.length_map, List.length_map, List.length_take] at this
       rw [rfz_len]
       omega
     · rintro k x ys H5 hx ⟨Y, rfl, e5, hY, hYv⟩
       obtain ⟨z, hz, rfl⟩ := rfz_at hx
       have zm := List.mem_of_getElem? hz
       refine ⟨_, rfl, _, rfl, _, rfl, z.1, b.1, z.2, b.2, i, N45.ex E i, rfl, e5 _ _ (hC4 z zm), e5 _ _ hb4, by have := (hCr z zm).1; omega, by have := (hCr z zm).1; omega, by have := (hCr z zm).1; omega, hCn z zm, (hCr z zm).2, rb.2, exi, fun y H6 e6 hy => ?_⟩
       refine ⟨Y ++ [(y, N45.clr z.2 b.2 i)], by rw [rfz_app]; rfl, e5.trans e6, (hY.same e6).app fun w hw => ?_, ?_⟩
       · rw [List.mem_singleton.mp hw]
         exact hy
       · rw [rws_app, hYv, take_nz hz, rws_app, List.map_append]
         rfl
     rintro ys H5 ⟨Y, rfl, e5, hY, hYv⟩ nb hnb
     rw [lC, List.take_length] at hYv
     have f5 := same_upd (o := .lst (rfz Y)) hnb
     have e6 := e5.trans f5
     have e46 := e4.trans e6
     have hY6 := hY.same f5
     have hnb6 : upd H5 nb (.lst (rfz Y)) nb = some (.lst (rfz Y)) := upd_same
     generalize upd H5 nb (.lst (rfz Y)) = H6 at f5 e6 e46 hY6 hnb6 ⊢
     have hla6 := e46 _ _ hla
     have hA6 := hA.same e46
     have hb6 := e6 _ _ hb4
     refine ⟨_, rfl, la, rfl, ⟨_, SqL.of hla6⟩, ?_⟩
     refine lc_list (xs := rfz A) (fun k ys H7 => ∃ W : List Lz, ys = rfz W ∧ Same H6 H7 ∧ LL H7 W ∧ rws W = (rws (A.take k)).map fun r => N45.clr r b.2 i) ⟨[], rfl, same_refl _, (fun z hz => nomatch hz), rfl⟩ (by omega) ?_ ?_ ?_
     · rintro k ys H7 hk ⟨W, rfl, e7, _, hW⟩
       refine ⟨SqL.of (e7 _ _ hla6), ?_⟩
       have := congrArg List.length hW
       rw [List.length_map, List.length_map, List.length_map, List.length_take] at this
       rw [rfz_len]
       omega
     · rintro k x ys H7 hx ⟨W, rfl, e7, hW, hWv⟩
       obtain ⟨z, hz, rfl⟩ := rfz_at hx
       have zm := List.mem_of_getElem? hz
       refine ⟨_, rfl, _, rfl, _, rfl, z.1, b.1, z.2, b.2, i, N45.ex E i, rfl, e7 _ _ (hA6 z zm), e7 _ _ hb6, by have := (rA z zm).1; omega, by have := (rA z zm).1; omega, by have := (rA z zm).1; omega, ne z.2 (List.mem_append_left _ (List.mem_map.mpr ⟨z, zm, rfl⟩)), (rA z zm).2, rb.2, exi, fun y H8 e8 hy => ?_⟩
       refine ⟨W ++ [(y, N45.clr z.2 b.2 i)], by rw [rfz_app]; rfl, e7.trans e8, (hW.same e8).app fun w hw => ?_, ?_⟩
       · rw [List.mem_singleton.mp hw]
         exact hy
       · rw [rws_app, hWv, take_nz hz, rws_app, List.map_append]
         rfl
     rintro ys H7 ⟨W, rfl, e7, hW, hWv⟩ w1 hw1
     rw [lA, List.take_length] at hWv
     have f7 := same_upd (o := .lst (rfz W)) hw1
     refine ⟨_, rfl, (by show 1 ≤ sizeLine; decide), fun w2 hw2 => ?_⟩
     have f8 := same_upd (o := .lst [.ref b.1]) hw2
     have lW : (rfz W).length = A.length := by
       rw [rfz_len]
       have := congrArg List.length hWv
       rw [List.length_map, List.length_map, List.length_map] at this
       exact this
     refine ⟨w1, w2, _, _, rfl, rfl, f8 _ _ upd_same, upd_same, by rw [lW]; show A.length + 1 ≤ sizeLine; omega, fun w3 hw3 => ?_⟩
     have f9 := same_upd (o := .lst (rfz W ++ [.ref b.1])) hw3
     have e79 := e7.trans ((f7.trans f8).trans f9)
     have e69 := e6.trans e79
     refine ⟨w3, nb, W ++ [b], Y, _, _, _, rfl, (e.trans e3).trans (es.trans e69), (by rw [upd_same, rfz_app]; rfl), e79 _ _ hnb6, (hW.same ((f7.trans f8).trans f9)).app (fun z hz => by rw [List.mem_singleton.mp hz]; exact e69 _ _ hb4), hY6.same e79, ?_⟩
     show _ = N45.stp i (N45.trn (rws Z) i)
     unfold N45.stp
     rw [← hv]
     dsimp only
     rw [hj]
     dsimp only
     rw [rws_at hbj, ← cutv, rws_app, hWv, hYv]
     rfl
 rintro σ H2 ⟨la, lb, A, B, o3, o4, o5, rfl, e, hla, hlb, hA, hB, hv⟩
 refine ⟨_, rfl, _, rfl, (by show 2 ≤ sizeLine; decide), fun t ht => ?_⟩
 have f := same_upd (o := .tup [.ref la, .ref lb]) ht
 exact q t la lb A B _ (e.trans f) upd_same (f _ _ hla) (f _ _ hlb) (hA.same f) (hB.same f) hv
theorem sc_pair_of : FnScope ["numbers", "place", "many", "sign"] ["numbers", "place", "many"] (defScope s_pair_of) := ⟨rfl, rfl, rfl, by decide +kernel, rfl, by decide +kernel, by decide +kernel⟩
theorem ok_pair_of (D : Def K mg "pair_of" s_pair_of .none) : Cal P w K mg base CX0 true 1 "pair_of" ["numbers", "place", "many"] [] spPair := by
 obtain ⟨f, fd, F, hm⟩ := D
 refine ⟨f, fd, _, F.ok sc_pair_of (fun vs H Q E h => ?_) (fun cdv A outer s H vs Q E hr h => ?_), hm, F.kp, (F.binds fun _ _ _ _ _ _ us hl => match us, hl with | [_, _, _], _ => rfl), .nil, F.binds fun _ _ _ _ _ _ us hl => match us, hl with | [_, _, _], _ => rfl⟩
 · obtain ⟨a, r, k, m, rfl, ha, hk, hm, h100, hb, q⟩ := h
   rfl
 obtain ⟨a, r, k, m, rfl, ha, hk, hm, h100, hb, q⟩ := h
 have nd := sc_pair_of.nd
 refine ⟨_, (pss_cons (ps_set (i := 3) nd rfl (Or.inr rfl) (pe_ifExp (pt_cmpR op_gt (pe_ix ix_seq (pv 0) (pv 1) (fun _ _ => rfl)) pe_int (nomark _)) pe_int (pe_un un_neg pe_int)))
   (pss_one (ps_ret (pe_tup (pa_cons (pe_op op_mulB (pv 3) (pe_ix ix_seq (pv 0) (pv 1) (fun _ _ => rfl))) (pa_cons (pe_lc [3] rfl (LcOk.free ["sign"] rfl rfl (List.forall_mem_cons.mpr ⟨rfl, (fun _ h => nomatch h)⟩) (by decide +kernel) rfl (by decide +kernel) rfl (by decide +kernel) (show (["number", "sign"] : List Str).Nodup from by decide +kernel) (List.forall_mem_cons.mpr ⟨⟨_, rfl, rfl, rfl, by decide +kernel⟩, (fun _ h => nomatch h)⟩)) (pi_list (pe_slice sl_list (pv 0) (po_some (pv 2)) po_none)) (fun C s2 H2 fp xe => (pe_op op_mulB (pv 1) (pv 0)))) pa_nil)))))), ?_⟩
 have hline : 600 ≤ sizeLine := by decide
 apply join1 (fun (x : Int) => x = sg r k)
 · intro kk
   refine ⟨_, rfl, _, rfl, .inl ⟨a, _, _, _, rfl, rfl, SqL.of ha, atInt hk, _, _, rfl, rfl, _, rfl, ?_⟩⟩
   refine dec2 (fun h => ?_) (fun h => ?_)
   · obtain ⟨x, ex⟩ : ∃ x, x = (1 : Int) := ⟨_, rfl⟩
     rw [← ex]
     exact kk x (by rw [ex]; exact (if_pos h).symm)
   · exact ⟨_, rfl, kk (-1) (if_neg h).symm⟩
 intro s1 es
 have b1 : s1.natAbs < 2 ^ 1 := by
   rw [es]
   unfold sg
   split <;> decide
 have lm : ((r.drop m).map V.int).length = r.length - m := by rw [List.length_map, List.length_drop]
 refine ⟨_, rfl, _, rfl, _, rfl, .inl ⟨a, _, _, _, rfl, rfl, SqL.of ha, atInt hk, _, _, rfl, rfl, mulN b1 (N45.bt_gt hb k) (by omega) (by omega), ?_⟩⟩
 refine ⟨_, rfl, _, rfl, _, rfl, a, _, rfl, SqL.of ha, fun x1 hx1 => ?_⟩
 have c1 : cutV (r.map V.int) (some (m : Int)) none = (r.drop m).map V.int := by
   rw [cutD (by rw [List.length_map]; exact hm), List.map_drop]
 rw [c1]
 have f1 := same_upd (o := .lst ((r.drop m).map V.int)) hx1
 have hx1v : upd H x1 (.lst ((r.drop m).map V.int)) x1 = some (.lst ((r.drop m).map V.int)) := upd_same
 generalize upd H x1 (.lst ((r.drop m).map V.int)) = H1 at f1 hx1v ⊢
 refine ⟨x1, rfl, ⟨_, SqL.of hx1v⟩, ?_⟩
 refine lc_list (xs := (r.drop m).map V.int) (fun i ys H' => ys = (((r.drop m).take i).map fun x => s1 * x).map V.int ∧ H' = H1) ⟨rfl, rfl⟩ (by omega) ?_ ?_ ?_
 · rintro i ys H' hi ⟨rfl, rfl⟩
   refine ⟨SqL.of hx1v, ?_⟩
   rw [List.length_map, List.length_map, List.length_take, List.length_drop]
   omega
 · rintro i x ys H' hx ⟨rfl, rfl⟩
   obtain ⟨w, hw, rfl⟩ := ints_at hx
   have bw : N45.Bt 1990 w := hb w (List.mem_of_mem_drop (List.mem_of_getElem? hw))
   refine ⟨_, rfl, _, rfl, _, _, rfl, rfl, mulN b1 bw (by omega) (by omega), ?_, rfl⟩
   rw [take_nz hw, List.map_append, List.map_append]
   rfl
 rintro ys H' ⟨rfl, rfl⟩ l hl
 rw [List.length_map, List.take_length]
 have f2 := same_upd (o := .lst (((r.drop m).map fun x => s1 * x).map V.int)) hl
 refine ⟨(by show 2 ≤ sizeLine; decide), fun t ht => ?_⟩
 have f3 := same_upd (o := .tup [.int (s1 * N45.gt r k), .ref l]) ht
 rw [es] at f2 f3 ht ⊢
 exact q t l _ ((f1.trans f2).trans f3) (f1.free hl) ((f1.trans f2).free ht) upd_same (f3 _ _ upd_same)
abbrev s_Singular__init__ : Stmt := inClass (top 4) 0
theorem sc_Singular__init__ : FnScope ["self", "mix"] ["self", "mix"] (defScope s_Singular__init__) := ⟨rfl, rfl, rfl, by decide +kernel, rfl, by decide +kernel, by decide +kernel⟩
theorem ok_Singular__init__ {C_Singular : Addr} (z_list : mg "list" = none) (X_Singular : XCls K C_Singular) (n_mix : NoAttr K C_Singular "mix") (D : DefX K C_Singular "Singular.__init__" s_Singular__init__) : CalX P w K mg base true 1 C_Singular ["self", "mix"] (spXM C_Singular) := by
 obtain ⟨f, fd, F, hfi, hfn⟩ := D
 refine ⟨f, fd, hfi, hfn, F.ok sc_Singular__init__ (fun vs H Q E h => ?_) (fun cdv A outer s H vs Q E hr h => ?_), (F.binds fun _ _ _ _ _ _ us hl => match us, hl with | [_, _], _ => rfl)⟩
 · obtain ⟨x, a, r, rfl, hx, ha, q⟩ := h
   rfl
 obtain ⟨x, a, r, rfl, hx, ha, q⟩ := h
 have nd := sc_Singular__init__.nd
 refine ⟨_, (pss_one (ps_fldB (pv 0) (pe_callTy call_list_of rfl z_list bt_list (pa_cons (pv 1) pa_nil)) rfl)), ?_⟩
 refine ⟨_, rfl, a, _, rfl, .inl (SqL.of ha), fun l hl => ?_⟩
 have f := same_upd (o := .lst r) hl
 have hlx : l ≠ x := fun z => by rw [z, hx] at hl; cases hl
 refine ⟨_, rfl, x, C_Singular, rfl, X_Singular, n_mix, .inl ⟨f _ _ hx, fun d hd hdx => ?_⟩⟩
 have hdl : d ≠ l := fun z => by rw [z, upd_same] at hd; cases hd
 have hd0 : H d = none := by rw [upd_ne hdl] at hd; exact hd
 refine q d l _ hd0 hdx hl hlx ?_ ?_ ?_ fun y o hy hyx => ?_
 · rw [upd_ne hdx]
   exact upd_same
 · rw [upd_ne hlx, upd_ne (Ne.symm hdl)]
   exact upd_same
 · exact upd_same
 · have hyd : y ≠ d := ne_of_none hy hd0
   rw [upd_ne hyx, upd_ne hyd]
   exact f _ _ hy
theorem sc_paper_of : FnScope ["square", "many", "both"] ["square"] (defScope s_paper_of) := ⟨rfl, rfl, rfl, by decide +kernel, rfl, by decide +kernel, by decide +kernel⟩
theorem ok_paper_of (D : Def K mg "paper_of" s_paper_of .none) {C_Singular : Addr} (c_turned : Cal P w K mg base CX0 true 4 "turned" ["square"] [] spTurn) (c_Singular__init__ : CalX P w K mg base true 1 C_Singular ["self", "mix"] (spXM C_Singular)) (c_pair_of : Cal P w K mg base CX0 true 1 "pair_of" ["numbers", "place", "many"] [] spPair) (z_len : mg "len" = none) (z_enumerate : mg "enumerate" = none) (m_Singular : mg "Singular" = some (.ref C_Singular)) (X_Singular : XCls K C_Singular) : Cal P w K mg base (CX1 P w) true 5 "paper_of" ["square"] [] (spPaper C_Singular) := by
 obtain ⟨f, fd, F, hm⟩ := D
 obtain ⟨f_turned, fd_turned, d_turned, G_turned, m_turned, k_turned, b_turned, v_turned, b_turned1⟩ := c_turned
 obtain ⟨f_Singular__init__, fd_Singular__init__, i_Singular, fn_Singular, G_Singular__init__, b_Singular__init__⟩ := c_Singular__init__
 obtain ⟨f_pair_of, fd_pair_of, d_pair_of, G_pair_of, m_pair_of, k_pair_of, b_pair_of, v_pair_of, b_pair_of1⟩ := c_pair_of
 refine ⟨f, fd, _, F.okX sc_paper_of (fun vs H Q E h => ?_) (fun cdv A outer s H vs Q E hr h => ?_), hm, F.kp, (F.binds fun _ _ _ _ _ _ us hl => match us, hl with | [_], _ => rfl), .nil, F.binds fun _ _ _ _ _ _ us hl => match us, hl with | [_], _ => rfl⟩
 · obtain ⟨a, Z, E, rfl, ha, hZ, hS, q1, q2⟩ := h
   rfl
 obtain ⟨a, Z, E, rfl, ha, hZ, hS, q1, q2⟩ := h
 have nd := sc_paper_of.nd
 refine ⟨_, (pss_cons (ps_set (i := 1) nd rfl (Or.inr rfl) (pe_callB call_len_seq rfl z_len bt_len (pa_cons (pv 0) pa_nil)))
   (pss_cons (ps_set (i := 2) nd rfl (Or.inl rfl) (pe_call G_turned (hr.mono (by decide)) rfl m_turned k_turned b_turned Paired.nil pass0 (pa_cons (pv 0) pa_nil)))
   (pss_cons (ps_if (pt_cmpR (op_neLen hr) (pe_ix ix_seq (pv 2) pe_int (fun _ _ => rfl)) (pe_lst pa_nil) (nomark _)) (pss_one (ps_raiseI rfl xe_def rfl m_Singular X_Singular i_Singular fn_Singular G_Singular__init__ (hr.mono (by decide)) b_Singular__init__ (pa_cons (pe_slice sl_list (pe_ix ix_seq (pe_ix ix_seq (pv 2) pe_int (fun _ _ => rfl)) pe_int (fun _ _ => rfl)) (po_some (pv 1)) po_none) pa_nil))) pss_nil)
   (pss_one (ps_ret (pe_lcT (xs := ["place", "numbers"]) [1] rfl (LcOkT.free (xs := ["place", "numbers"]) ["many"] rfl rfl (List.forall_mem_cons.mpr ⟨rfl, (fun _ h => nomatch h)⟩) (by decide +kernel) rfl (by decide +kernel) (by decide +kernel) (by decide +kernel) (show (["place", "numbers", "many"] : List Str).Nodup from by decide +kernel) (List.forall_mem_cons.mpr ⟨⟨_, rfl, rfl, rfl, by decide +kernel⟩, (fun _ h => nomatch h)⟩)) (pi_enum rfl z_enumerate (pa_cons (pe_ix ix_seq (pv 2) pe_int (fun _ _ => rfl)) pa_nil)) (pg_tup2T rfl (LcOkT.free (xs := ["place", "numbers"]) ["many"] rfl rfl (List.forall_mem_cons.mpr ⟨rfl, (fun _ h => nomatch h)⟩) (by decide +kernel) rfl (by decide +kernel) (by decide +kernel) (by decide +kernel) (show (["place", "numbers", "many"] : List Str).Nodup from by decide +kernel) (List.forall_mem_cons.mpr ⟨⟨_, rfl, rfl, rfl, by decide +kernel⟩, (fun _ h => nomatch h)⟩))) (fun C s2 H2 fp xe => (pe_call G_pair_of (hr.mono (by decide)) rfl m_pair_of k_pair_of b_pair_of Paired.nil pass0 (pa_cons (pv 1) (pa_cons (pv 0) (pa_cons (pv 2) pa_nil))))))))))), ?_⟩
 have hline : 10 ^ 6 ≤ sizeLine := by decide
 have lz : (rws Z).length = Z.length := List.length_map ..
 refine ⟨_, rfl, a, _, rfl, .inl (SqL.of ha), ?_⟩
 rw [rfz_len]
 refine ⟨_, rfl, a, Z, E, rfl, ha, hZ, hS, fun t la lb A B H1 e1 ht hla hlb hA hB hv => ?_⟩
 obtain ⟨hq, h6, he⟩ := hS
 obtain ⟨tl, tr⟩ := N45.trn_len hq (p := Z.length) (by omega)
 have hvA : rws A = (N45.trn (rws Z) Z.length).1 := congrArg Prod.fst hv
 have hvB : rws B = (N45.trn (rws Z) Z.length).2 := congrArg Prod.snd hv
 rw [← hvA, ← hvB] at tl tr
 rw [List.length_map, List.length_map, lz] at tl
 have rA : ∀ z ∈ A, z.2.length = 2 * Z.length ∧ ∀ x ∈ z.2, N45.Bt 1990 x := fun z hz => by
   have := tr z.2 (List.mem_append_left _ (List.mem_map.mpr ⟨z, hz, rfl⟩))
   rw [lz] at this
   exact ⟨this.1, fun x hx => (this.2 x hx).mono he⟩
 have hT := SqT.of (K := K) ht
 refine ⟨_, rfl, .inr (.inl ⟨t, _, 1, _, rfl, rfl, hT, rfl, (by show 0 ≤ sizeLine; decide), fun l0 hl0 => ?_⟩)⟩
 have f0 := same_upd (o := .lst []) hl0
 have e2 := e1.trans f0
 refine ⟨lb, l0, _, _, rfl, rfl, SqL.of (f0 _ _ hlb), SqL.of upd_same, ?_⟩
 have ht2 := f0 _ _ ht
 have hla2 := f0 _ _ hla
 have hlb2 := f0 _ _ hlb
 have hA2 := hA.same f0
 have hB2 := hB.same f0
 generalize upd H1 l0 (.lst []) = H2 at f0 e2 ht2 hla2 hlb2 hA2 hB2 ⊢
 have hT := SqT.of (K := K) ht2
 cases B with
 | cons b B' =>
   refine .inl ⟨by simp [rfz], _, rfl, iteT ?_⟩
   have hb2 := hB2 b List.mem_cons_self
   have rb : b.2.length = 2 * Z.length := by
     have := tr b.2 (List.mem_append_right _ (List.mem_map.mpr ⟨b, List.mem_cons_self, rfl⟩))
     rw [lz] at this
     exact this.1
   refine ⟨_, rfl, .inr (.inl ⟨t, _, 1, _, rfl, rfl, hT, rfl, .inl ⟨lb, _, 0, _, rfl, rfl, SqL.of hlb2, atI_nat (j := 0) rfl, _, rfl, _, rfl, b.1, _, rfl, SqL.of hb2, fun x1 hx1 => ?_⟩⟩)⟩
   have c1 : cutV (b.2.map V.int) (some (Z.length : Int)) none = (b.2.drop Z.length).map V.int := by
     rw [cutD (by rw [List.length_map]; omega), List.map_drop]
   rw [c1]
   have f1 := same_upd (o := .lst ((b.2.drop Z.length).map V.int)) hx1
   refine ⟨(by show 1 ≤ sizeLine; decide), True.intro, fun x hx0 => ⟨x, x1, (b.2.drop Z.length).map V.int, rfl, upd_same, ?_, fun d l H' hd hdx hl hlx h1 h2 h3 keep => ⟨rfl, some d, h3, ?_⟩⟩⟩
   · have n1 : x1 ≠ x := fun z => by rw [← z, upd_same] at hx0; cases hx0
     rw [upd_ne n1]
     exact upd_same
   · refine q2 b.2 (rws B') (by rw [← hvB]; rfl) d l _ ((e2.trans f1).trans (after_x hx0 keep)) ?_ ?_ ?_
     · rw [upd_ne hlx] at hl
       exact (e2.trans f1).free hl
     · show (if d = x then none else H' d) = _
       rw [if_neg hdx]
       exact h1
     · show (if l = x then none else H' l) = _
       rw [if_neg hlx]
       exact h2
 | nil =>
   refine .inr ⟨⟨rfl, fun j x y h1 h2 => by simp at h2⟩, _, rfl, iteF ?_⟩
   have lA : A.length = Z.length := by simpa using tl
   have lAr : (rfz A).length = A.length := rfz_len A
   refine ⟨_, rfl, .inr (.inl ⟨t, _, 0, _, rfl, rfl, hT, rfl, la, rfl, ⟨_, SqL.of hla2⟩, ?_⟩)⟩
   refine lc_enum (xs := rfz A) (fun i ys H' => ∃ Y : List Pr, ys = rfp Y ∧ Same H2 H' ∧ PP H' Y ∧ prs Y = (List.range i).map (fun k => prF ((rws A).getD k []) k Z.length) ∧ ∀ y ∈ Y, H y.2.2.1 = none ∧ H y.1 = none) ⟨[], rfl, same_refl _, (fun z hz => nomatch hz), rfl, fun y hy => nomatch hy⟩ (by omega) ?_ ?_ ?_
   · rintro i ys H' hi ⟨Y, rfl, e, _, hY, _⟩
     refine ⟨SqL.of (e _ _ hla2), ?_⟩
     have := congrArg List.length hY
     rw [List.length_map, List.length_map, List.length_range] at this
     rw [rfp_len]
     exact this
   · rintro i x ys H' t2 hx ⟨Y, rfl, e, hY, hYv, hY0⟩ ht2 σ0 h0
     obtain ⟨z, hz, rfl⟩ := rfz_at hx
     obtain ⟨u, v, rfl⟩ := two_of h0
     have et := same_upd (o := .tup [.int (i : Int), .ref z.1]) ht2
     have e3 := e.trans et
     have zm := List.mem_of_getElem? hz
     have hi : i < A.length := (List.getElem?_eq_some_iff.mp hz).1
     refine ⟨t2, _, rfl, SqT.of upd_same, rfl, _, _, rfl, _, _, rfl, rfl, [_, _], rfl, rfl, ?_⟩
     refine ⟨_, rfl, _, rfl, _, rfl, z.1, z.2, i, Z.length, rfl, e3 _ _ (hA2 z zm), by have := (rA z zm).1; omega, by have := (rA z zm).1; omega, by have := (rA z zm).1; omega, (rA z zm).2, fun y yl H'' e4 hyl hyt hy hyl2 => ?_⟩
     have e5 := et.trans e4
     refine ⟨Y ++ [(y, (prF z.2 i Z.length).1, yl, (prF z.2 i Z.length).2)], by rw [rfp_app]; rfl, e.trans e5, fun w hw => ?_, ?_, fun w hw => ?_⟩
     · rcases List.mem_append.mp hw with c | c
       · exact hY.same e5 w c
       · rw [List.mem_singleton.mp c]
         exact ⟨hy, hyl2⟩
     · rw [prs_app, hYv, List.range_succ, List.map_append]
       refine congrArg _ ?_
       show [prF z.2 i Z.length] = [prF ((rws A).getD i []) i Z.length]
       rw [rws_at hz]
     · rcases List.mem_append.mp hw with c | c
       · exact hY0 w c
       · rw [List.mem_singleton.mp c]
         exact ⟨e2.free (e3.free hyl), e2.free (e3.free hyt)⟩
   rintro ys H' ⟨Y, rfl, e, hY, hYv, hY0⟩ p hp
   have f := same_upd (o := .lst (rfp Y)) hp
   refine q1 (by rw [← hvB]; rfl) p Y _ (e2.trans (e.trans f)) upd_same (hY.same f) ?_ ((e2.trans e).free hp) hY0
   rw [hYv, lAr, lA]
   unfold pap
   rw [lz, ← hvA]
theorem sc__law_cell_at : FnScope ["_law_script", "_law_k"] ["_law_script", "_law_k"] (defScope s__law_cell_at) := ⟨rfl, rfl, rfl, by decide +kernel, rfl, by decide +kernel, by decide +kernel⟩
theorem ok__law_cell_at (D : Def K mg "_law_cell_at" s__law_cell_at .none) (z_len : mg "len" = none) : Cal P w K mg base CX0 cm 1 "_law_cell_at" ["_law_script", "_law_k"] [] (spCell K) := by
 obtain ⟨f, fd, F, hm⟩ := D
 refine ⟨f, fd, _, F.ok sc__law_cell_at (fun vs H Q E h => ?_) (fun cdv A outer s H vs Q E hr h => ?_), hm, F.kp, (F.binds fun _ _ _ _ _ _ us hl => match us, hl with | [_, _], _ => rfl), .nil, F.binds fun _ _ _ _ _ _ us hl => match us, hl with | [_, _], _ => rfl⟩
 · obtain ⟨a, ns, k, rfl, hS, q⟩ := h
   rfl
 obtain ⟨a, ns, k, rfl, hS, q⟩ := h
 have nd := sc__law_cell_at.nd
 refine ⟨_, (pss_cons (ps_if (pt_cmpR op_lt (pv 1) (pe_callB call_len_seq rfl z_len bt_len (pa_cons (pv 0) pa_nil)) (nomark _)) (pss_one (ps_ret (pe_ix ix_seq (pv 0) (pv 1) (fun _ _ => rfl)))) pss_nil)
   (pss_one (ps_ret pe_int))), ?_⟩
 refine ⟨_, rfl, _, rfl, a, _, rfl, .inl hS, _, _, rfl, rfl, _, rfl, ?_⟩
 rw [List.length_map]
 refine dec2 (fun h => ?_) (fun h => ?_)
 · refine ⟨_, rfl, _, rfl, .inl ⟨a, _, k, .int (ns.getD k 0), rfl, rfl, hS, atI_nat ?_, q⟩⟩
   have hk : k < ns.length := by omega
   rw [List.getElem?_map, List.getElem?_eq_getElem hk]
   simp [List.getD, hk]
 · have hk : ns.length ≤ k := by omega
   have e : ns.getD k 0 = 0 := by simp [List.getD, hk]
   rw [e] at q
   exact q
theorem sc__law_whole : FnScope ["_law_found"] ["_law_found"] (defScope s__law_whole) := ⟨rfl, rfl, rfl, by decide +kernel, rfl, by decide +kernel, by decide +kernel⟩
theorem ok__law_whole (D : Def K mg "_law_whole" s__law_whole .none) (z_isinstance : mg "isinstance" = none) (z_int : mg "int" = none) (z_bool : mg "bool" = none) (q_ib : PySem.W.kitOne K (.type "int") (.type "bool") = some false) : Cal P w K mg base CX0 cm 1 "_law_whole" ["_law_found"] [] spWhole := by
 obtain ⟨f, fd, F, hm⟩ := D
 refine ⟨f, fd, _, F.ok sc__law_whole (fun vs H Q E h => ?_) (fun cdv A outer s H vs Q E hr h => ?_), hm, F.kp, (F.binds fun _ _ _ _ _ _ us hl => match us, hl with | [_], _ => rfl), .nil, F.binds fun _ _ _ _ _ _ us hl => match us, hl with | [_], _ => rfl⟩
 · obtain ⟨i, rfl, q⟩ := h
   rfl
 obtain ⟨i, rfl, q⟩ := h
 have nd := sc__law_whole.nd
 refine ⟨_, (pss_one (ps_ret (pe_and (pe_callB call_is rfl z_isinstance bt_isinstance (pa_cons (pv 0) (pa_cons (pe_bltn (v := .ty "int") rfl z_int bt_int rfl) pa_nil))) (pe_one (pe_not (pe_callB call_is rfl z_isinstance bt_isinstance (pa_cons (pv 0) (pa_cons (pe_bltn (v := .ty "bool") rfl z_bool bt_bool rfl) pa_nil)))))))), ?_⟩
 refine ⟨_, rfl, _, _, _, _, _, rfl, .of (.int i), rfl, rfl, true, rfl, iteT ?_⟩
 exact ⟨_, rfl, _, _, _, _, _, rfl, .of (.int i), rfl, q_ib, false, rfl, q⟩
theorem sc__law_mix : FnScope ["_law_cell", "_law_by"] ["_law_cell", "_law_by"] (defScope s__law_mix) := ⟨rfl, rfl, rfl, by decide +kernel, rfl, by decide +kernel, by decide +kernel⟩
theorem ok__law_mix (D : Def K mg "_law_mix" s__law_mix .none) : Cal P w K mg base CX0 cm 1 "_law_mix" ["_law_cell", "_law_by"] [] spMix := by
 obtain ⟨f, fd, F, hm⟩ := D
 refine ⟨f, fd, _, F.ok sc__law_mix (fun vs H Q E h => ?_) (fun cdv A outer s H vs Q E hr h => ?_), hm, F.kp, (F.binds fun _ _ _ _ _ _ us hl => match us, hl with | [_, _], _ => rfl), .nil, F.binds fun _ _ _ _ _ _ us hl => match us, hl with | [_, _], _ => rfl⟩
 · obtain ⟨c, b, rfl, hb, q⟩ := h
   rfl
 obtain ⟨c, b, rfl, hb, q⟩ := h
 have nd := sc__law_mix.nd
 refine ⟨_, (pss_one (ps_ret (pe_op op_fdiv (pe_op op_mod (pe_op op_mulB (pe_op op_add (pe_op op_mod (pv 0) pe_int) pe_int) (pv 1)) pe_int) pe_int))), ?_⟩
 exact ⟨_, rfl, _, _, rfl, rfl, (by show (0 : Int) < 2147483647; decide), _, _, rfl, rfl, _, rfl, _, _, rfl, rfl, mul_of (by omega) (by omega) (by omega) (by omega), _, _, rfl, rfl, (by show (0 : Int) < 2147483399; decide), _, _, rfl, rfl, ⟨by decide, by decide⟩, q _ (by omega) (by omega)⟩
theorem ixN_nat {n i : Nat} (h : i < n) : ixN n ((i : Nat) : Int) = some i := by
 unfold ixN
 rw [if_pos (by omega), if_pos (by omega), Int.toNat_natCast]
theorem at0 {r : List Int} {j : Nat} (h : j < r.length) : atI (r.map V.int) (0 + (j : Int)) = some (.int (N45.gt r j)) := by
 rw [Int.zero_add]
 exact atInt h
theorem at0z {Z : List Lz} {j : Nat} {z : Lz} (h : Z[j]? = some z) : atI (rfz Z) (0 + (j : Int)) = some (.ref z.1) := by
 rw [Int.zero_add]
 exact atI_nat (at_rfz h)
def spMxd : Sp := fun vs H Q _ => ∃ (a c : Addr) (Z : List Lz) (r : List Int), vs = [.ref a, .ref c] ∧ H a = some (.lst (rfz Z)) ∧ LL H Z ∧ H c = some (.lst (r.map V.int)) ∧ Z.length ≤ 6 ∧ r.length = Z.length ∧ (∀ z ∈ Z, z.2.length = Z.length) ∧ (∀ z ∈ Z, ∀ x ∈ z.2, N45.Bt 4000 x) ∧ (∀ x ∈ r, N45.Bt 4000 x) ∧
 ∀ p H', Same H H' → H' p = some (.lst (((List.range Z.length).map (N45.mx (rws Z) r)).map V.int)) → Q (.ref p) H'
def frN (m : Nat) : Nat := if m < 3 then 10 ^ 59 else 10 ^ 6
def spEnt : Sp := fun vs H Q _ => ∃ (c : Int) (m : Nat), vs = [.int c, .int m] ∧ PySem.Builtin.Int.intBits c ≤ 2 ^ 20 ∧ ∀ x : Int, x.natAbs ≤ frN m → Q (.int x) H
theorem bits_div {c : Int} (h : PySem.Builtin.Int.intBits c ≤ 2 ^ 20) : PySem.Builtin.Int.intBits (c / 3) ≤ 2 ^ 20 := by
 have h1 := PySem.intBits_le_iff.mp h
 refine PySem.intBits_le_iff.mpr ?_
 have : (c / 3).natAbs ≤ c.natAbs := by omega
 omega
theorem mul_big {c : Int} (h : PySem.Builtin.Int.intBits c ≤ 2 ^ 20) : PySem.IntMulOk (c / 3) ((1000003 : Int) ^ (10 : Int).toNat) :=
 PySem.IntMulOk.of_le (bits_div h) (show PySem.Builtin.Int.intBits ((1000003 : Int) ^ (10 : Int).toNat) ≤ 250 from PySem.intBits_le_iff.mpr (by decide)) (by decide)
def ebN (m : Nat) : Nat := if m < 3 then 199 else 23
theorem fr_bt {m : Nat} {x : Int} (h : x.natAbs ≤ frN m) : N45.Bt (ebN m - 3) x := by
 unfold N45.Bt
 unfold frN at h
 unfold ebN
 split at h
 · rename_i c
   rw [if_pos c]
   exact Nat.lt_of_le_of_lt h (by decide)
 · rename_i c
   rw [if_neg c]
   exact Nat.lt_of_le_of_lt h (by decide)
theorem sq60 : ∀ n : Nat, n < 61 → 0 ≤ 2 * (n : Int) * (n : Int) ∧ 2 * (n : Int) * (n : Int) ≤ 7200 := by decide
def spSquare (K : PySem.W.Frag) : Sp := fun vs H Q _ => ∃ (a : Addr) (ns : List Int), vs = [.ref a] ∧ SqL K H a (ns.map V.int) ∧ ns.length ≤ 63 ∧ (∀ w ∈ ns, PySem.Builtin.Int.intBits w ≤ 2 ^ 20) ∧ ∀ (p : Addr) (Z : List Lz) (E : Nat) H', Same H H' → H p = none → H' p = some (.lst (rfz Z)) → LL H' Z → Sqr Z E → E ≤ 1990 → Q (.ref p) H'
theorem eb_ok {m : Nat} (h : m ≤ 6) : N45.ex (ebN m) m ≤ 1990 := by
 have : m = 0 ∨ m = 1 ∨ m = 2 ∨ m = 3 ∨ m = 4 ∨ m = 5 ∨ m = 6 := by omega
 rcases this with rfl | rfl | rfl | rfl | rfl | rfl | rfl <;> decide
theorem eb_le (m : Nat) : ebN m ≤ 199 ∧ 23 ≤ ebN m := by
 unfold ebN
 split <;> decide
theorem comb_bt {e : Nat} {x y b c : Int} (hx : N45.Bt e x) (hy : N45.Bt e y) (hb : b.natAbs ≤ 3) (hc : c.natAbs ≤ 5) : N45.Bt (e + 3) (x * b + y * c) := by
 unfold N45.Bt at hx hy ⊢
 have h1 : (x * b).natAbs ≤ x.natAbs * 3 := by rw [Int.natAbs_mul]; exact Nat.mul_le_mul_left _ hb
 have h2 : (y * c).natAbs ≤ y.natAbs * 5 := by rw [Int.natAbs_mul]; exact Nat.mul_le_mul_left _ hc
 rw [Nat.pow_add]
 omega
theorem sc__law_divisor : FnScope ["_law_one", "_law_other", "_law_rest"] ["_law_one", "_law_other"] (defScope s__law_divisor) := ⟨rfl, rfl, rfl, by decide +kernel, rfl, by decide +kernel, by decide +kernel⟩
theorem ok__law_divisor (D : Def K mg "_law_divisor" s__law_divisor .none) (z_abs : mg "abs" = none) : Cal P w K mg base CX0 cm 1 "_law_divisor" ["_law_one", "_law_other"] [] spG := by
 obtain ⟨f, fd, F, hm⟩ := D
 refine ⟨f, fd, _, F.ok sc__law_divisor (fun vs H Q E h => ?_) (fun cdv A outer s H vs Q E hr h => ?_), hm, F.kp, (F.binds fun _ _ _ _ _ _ us hl => match us, hl with | [_, _], _ => rfl), .nil, F.binds fun _ _ _ _ _ _ us hl => match us, hl with | [_, _], _ => rfl⟩
 · obtain ⟨a, b, rfl, q⟩ := h
   rfl
 obtain ⟨a, b, rfl, q⟩ := h
 have nd := sc__law_divisor.nd
 refine ⟨_, (pss_cons (ps_while PassesOwn.never (pt_cmpR op_ne (pv 1) pe_int (nomark _)) (pss_cons (ps_set (i := 2) nd rfl (Or.inl rfl) (pe_op op_modN (pv 0) (pv 1)))
   (pss_cons (ps_set (i := 0) nd rfl (Or.inl rfl) (pv 1))
   (pss_one (ps_set (i := 1) nd rfl (Or.inl rfl) (pv 2))))))
   (pss_one (ps_ret (pe_callB call_absN rfl z_abs bt_abs (pa_cons (pv 0) pa_nil))))), ?_⟩
 refine while_by (fun σ H' => ∃ (x y : Int) (r : Option V), σ = [some (.int x), some (.int y), r] ∧ H' = H ∧ N11.gF x y = N11.gF a b) (fun σ _ => match σ with | [_, some (.int y), _] => y.natAbs | _ => 0)
   ⟨_, _, none, rfl, rfl, rfl⟩ ?_ ?_
 · rintro σ H1 ⟨x, y, r, rfl, rfl, hg⟩
   refine ⟨_, rfl, rfl, _, rfl, ?_⟩
   refine ndec2 (fun h => ?_) (fun h => ?_)
   · have hy0 : y ≠ 0 := fun z => h (congrArg V.int z)
     refine ⟨_, rfl, _, rfl, _, _, rfl, rfl, hy0, _, rfl, _, rfl, ⟨y, x.fmod y, _, rfl, rfl, ?_⟩, ?_⟩
     · rw [N45.gF_fm]
       exact hg
     · exact N45.fm_abs hy0
   · have hy0 : y = 0 := V.int.inj h
     subst hy0
     rw [← hg, N45.gF_zero] at q
     exact ⟨_, rfl, x, rfl, q⟩
 · intro σ H1 Q1 Q2 hq z
   obtain ⟨v, e, sc, k, e2, z⟩ := z
   exact ⟨v, e, sc, k, e2, hq _ _ z⟩
theorem sc__law_mixed : FnScope ["_law_square_here", "_law_row"] ["_law_square_here", "_law_row"] (defScope s__law_mixed) := ⟨rfl, rfl, rfl, by decide +kernel, rfl, by decide +kernel, by decide +kernel⟩
theorem ok__law_mixed (D : Def K mg "_law_mixed" s__law_mixed .none) (z_range : mg "range" = none) (z_len : mg "len" = none) (z_sum : mg "sum" = none) : Cal P w K mg base CX0 true 1 "_law_mixed" ["_law_square_here", "_law_row"] [] spMxd := by
 obtain ⟨f, fd, F, hm⟩ := D
 refine ⟨f, fd, _, F.ok sc__law_mixed (fun vs H Q E h => ?_) (fun cdv A outer s H vs Q E hr h => ?_), hm, F.kp, (F.binds fun _ _ _ _ _ _ us hl => match us, hl with | [_, _], _ => rfl), .nil, F.binds fun _ _ _ _ _ _ us hl => match us, hl with | [_, _], _ => rfl⟩
 · obtain ⟨a, c, Z, r, rfl, ha, hZ, hc, h6, hrl, hw, hb, hbr, q⟩ := h
   rfl
 obtain ⟨a, c, Z, r, rfl, ha, hZ, hc, h6, hrl, hw, hb, hbr, q⟩ := h
 have nd := sc__law_mixed.nd
 refine ⟨_, (pss_one (ps_ret (pe_lcN [1, 0] rfl (LcOkN.free ["_law_square_here", "_law_row"] rfl rfl (List.forall_mem_cons.mpr ⟨rfl, (List.forall_mem_cons.mpr ⟨rfl, (fun _ h => nomatch h)⟩)⟩) rfl (fun _ _ => rfl) (fun _ => rfl) (by decide +kernel) rfl (by decide +kernel) (show (["_law_at", "_law_row", "_law_square_here"] : List Str).Nodup from by decide +kernel) (List.forall_mem_cons.mpr ⟨⟨_, rfl, rfl, rfl, by decide +kernel⟩, (List.forall_mem_cons.mpr ⟨⟨_, rfl, rfl, rfl, by decide +kernel⟩, (fun _ h => nomatch h)⟩)⟩)) (pi_range1 rfl z_range (pa_cons (pe_callB call_len_seq rfl z_len bt_len (pa_cons (pv 0) pa_nil)) pa_nil)) (fun C E s2 H2 fp xe => (pe_callB (call_sumN hr) rfl z_sum bt_sum (pa_cons (pe_lc [1, 0, 2] rfl (LcOk.free ["_law_square_here", "_law_row", "_law_at"] rfl rfl (List.forall_mem_cons.mpr ⟨rfl, (List.forall_mem_cons.mpr ⟨rfl, (List.forall_mem_cons.mpr ⟨rfl, (fun _ h => nomatch h)⟩)⟩)⟩) (by decide +kernel) rfl (by decide +kernel) rfl (by decide +kernel) (show (["_law_k", "_law_row", "_law_at", "_law_square_here"] : List Str).Nodup from by decide +kernel) (List.forall_mem_cons.mpr ⟨⟨"_law_row", rfl, rfl, rfl, by decide +kernel⟩, (List.forall_mem_cons.mpr ⟨⟨"_law_at", rfl, rfl, rfl, by decide +kernel⟩, (List.forall_mem_cons.mpr ⟨⟨"_law_square_here", rfl, rfl, rfl, by decide +kernel⟩, (fun _ h => nomatch h)⟩)⟩)⟩)) (pi_range1 rfl z_range (pa_cons (pe_callB call_lenN rfl z_len bt_len (pa_cons (pv 2) pa_nil)) pa_nil)) (fun C s2 H2 fp xe => (pe_op op_mulB (pe_ix ix_seqNC (pv 1) (pv 0) (fun _ _ => rfl)) (pe_ix ix_seqNC (pe_ix ix_seqNC (pv 3) (pv 0) (fun _ _ => rfl)) (pv 2) (fun _ _ => rfl))))) pa_nil)))))), ?_⟩
 have hline : 10 ^ 6 ≤ sizeLine := by decide
 have lz : (rws Z).length = Z.length := List.length_map ..
 refine ⟨_, rfl, a, _, rfl, .inl (SqL.of ha), _, rfl, ?_⟩
 rw [rfz_len]
 refine ⟨by omega, by omega, ?_⟩
 refine lc_range (lo := 0) (fun i ys H' => ys = ((List.range i).map (N45.mx (rws Z) r)).map V.int ∧ Same H H') ⟨rfl, same_refl _⟩ (by omega) ?_ ?_ ?_
 · rintro i ys H' hi ⟨rfl, e⟩
   rw [List.length_map, List.length_map, List.length_range]
 · rintro i ys H' hi ⟨rfl, e⟩
   have hi6 : i < Z.length := by omega
   refine ⟨_, rfl, a, _, rfl, .inl (SqL.of (e _ _ ha)), _, rfl, ?_⟩
   rw [rfz_len]
   refine ⟨by omega, by omega, ?_⟩
   refine lc_range (lo := 0) (fun k zs H2 => zs = ((List.range k).map fun k => N45.gt r k * N45.gt ((rws Z).getD k []) i).map V.int ∧ H2 = H') ⟨rfl, rfl⟩ (by omega) ?_ ?_ ?_
   · rintro k zs H2 hk ⟨rfl, rfl⟩
     rw [List.length_map, List.length_map, List.length_range]
   · rintro k zs H2 hk ⟨rfl, rfl⟩
     have hk6 : k < Z.length := by omega
     have hz : Z[k]? = some Z[k] := List.getElem?_eq_getElem hk6
     have zm : Z[k] ∈ Z := List.getElem_mem _
     refine ⟨_, rfl, _, rfl, .inl ⟨c, _, _, _, rfl, rfl, SqL.of (e _ _ hc), at0 (by omega), ?_⟩⟩
     refine ⟨_, rfl, _, rfl, .inl ⟨a, _, _, _, rfl, rfl, SqL.of (e _ _ ha), at0z hz, ?_⟩⟩
     refine ⟨_, rfl, .inl ⟨Z[k].1, _, _, _, rfl, rfl, SqL.of (e _ _ (hZ _ zm)), at0 (by rw [hw _ zm]; exact hi6), ?_⟩⟩
     refine ⟨_, _, rfl, rfl, mulN (N45.bt_gt hbr k) (N45.bt_gt (hb _ zm) i) (by omega) (by omega), ?_, rfl⟩
     rw [List.range_succ, List.map_append, List.map_append, ← rws_at hz]
     rfl
   rintro zs H2 ⟨rfl, rfl⟩ l hl
   have f := same_upd (o := .lst (((List.range ((Z.length : Int) - 0).toNat).map fun k => N45.gt r k * N45.gt ((rws Z).getD k []) i).map V.int)) hl
   refine ⟨l, _, rfl, SqL.of upd_same, ?_, e.trans f⟩
   rw [List.range_succ, List.map_append, List.map_append]
   refine congrArg (fun v => _ ++ [V.int v]) ?_
   rw [N45.sm_sum]
   unfold N45.mx
   rw [lz]
   refine congrArg (fun n => N45.sm n _) ?_
   omega
 rintro ys H' ⟨rfl, e⟩ l hl
 have f := same_upd (o := .lst (((List.range ((Z.length : Int) - 0).toNat).map (N45.mx (rws Z) r)).map V.int)) hl
 refine q l _ (e.trans f) ?_
 rw [upd_same, Int.toNat_natCast]
theorem sc__law_entry : FnScope ["_law_cell", "_law_many", "_law_far"] ["_law_cell", "_law_many"] (defScope s__law_entry) := ⟨rfl, rfl, rfl, by decide +kernel, rfl, by decide +kernel, by decide +kernel⟩
theorem ok__law_entry (D : Def K mg "_law_entry" s__law_entry .none) : Cal P w K mg base CX0 cm 1 "_law_entry" ["_law_cell", "_law_many"] [] spEnt := by
 obtain ⟨f, fd, F, hm⟩ := D
 refine ⟨f, fd, _, F.ok sc__law_entry (fun vs H Q E h => ?_) (fun cdv A outer s H vs Q E hr h => ?_), hm, F.kp, (F.binds fun _ _ _ _ _ _ us hl => match us, hl with | [_, _], _ => rfl), .nil, F.binds fun _ _ _ _ _ _ us hl => match us, hl with | [_, _], _ => rfl⟩
 · obtain ⟨c, m, rfl, hcb, q⟩ := h
   rfl
 obtain ⟨c, m, rfl, hcb, q⟩ := h
 have nd := sc__law_entry.nd
 refine ⟨_, (pss_cons (ps_if (pt_cmpR op_eq (pe_op op_mod (pv 0) pe_int) pe_int (nomark _)) (pss_one (ps_ret (pe_op op_sub (pe_op op_mod (pe_op op_fdiv (pv 0) pe_int) pe_int) pe_int))) pss_nil)
   (pss_cons (ps_if (pt_cmpR op_eq (pe_op op_mod (pv 0) pe_int) pe_int (nomark _)) (pss_one (ps_ret (pe_op op_sub (pe_op op_mod (pe_op op_fdiv (pv 0) pe_int) pe_int) pe_int))) pss_nil)
   (pss_cons (ps_set (i := 2) nd rfl (Or.inl rfl) (pe_op op_pow pe_int pe_int))
   (pss_cons (ps_if (pt_cmpR op_lt (pv 1) pe_int (nomark _)) (pss_one (ps_set (i := 2) nd rfl (Or.inl rfl) (pe_op op_pow pe_int pe_int))) pss_nil)
   (pss_one (ps_ret (pe_op op_sub (pe_op op_mod (pe_op op_mulB (pe_op op_fdiv (pv 0) pe_int) (pe_op op_pow pe_int pe_int)) (pe_op op_add (pe_op op_mulB pe_int (pv 2)) pe_int)) (pv 2)))))))), ?_⟩
 have hfr : frN m = if m < 3 then 10 ^ 59 else 10 ^ 6 := rfl
 have hf1 : 10 ^ 6 ≤ frN m := by
   rw [hfr]
   split <;> decide
 refine ⟨_, rfl, _, _, rfl, rfl, (by show (0 : Int) < 3; decide), rfl, _, rfl, ?_⟩
 refine dec2 (fun h => ?_) (fun h => ?_)
 · exact ⟨_, rfl, _, _, rfl, rfl, ⟨by decide, by decide⟩, _, _, rfl, rfl, (by show (0 : Int) < 3; decide), _, _, rfl, rfl, q _ (by omega)⟩
 refine ⟨_, rfl, _, _, rfl, rfl, (by show (0 : Int) < 3; decide), rfl, _, rfl, ?_⟩
 refine dec2 (fun h => ?_) (fun h => ?_)
 · exact ⟨_, rfl, _, _, rfl, rfl, ⟨by decide, by decide⟩, _, _, rfl, rfl, (by show (0 : Int) < 19; decide), _, _, rfl, rfl, q _ (by omega)⟩
 refine ⟨_, _, rfl, rfl, ⟨by decide, by decide, by decide⟩, ?_⟩
 apply join1 (fun (x : Int) => x = (frN m : Int))
 · intro kk
   refine ⟨_, rfl, _, _, rfl, rfl, _, rfl, ?_⟩
   refine dec2 (fun h => ?_) (fun h => ?_)
   · refine ⟨_, _, rfl, rfl, ⟨by decide, by decide, by decide⟩, ?_⟩
     obtain ⟨x, ex⟩ : ∃ x, x = (10 : Int) ^ (59 : Int).toNat := ⟨_, rfl⟩
     dsimp only
     rw [← ex]
     refine kk x ?_
     rw [ex, hfr, if_pos (by omega)]
     rfl
   · refine kk ((10 : Int) ^ (6 : Int).toNat) ?_
     rw [hfr, if_neg (by omega)]
     rfl
 intro x ex
 have hx0 : 0 < x := by omega
 refine ⟨_, rfl, _, _, rfl, rfl, ⟨by decide, by decide⟩, _, _, rfl, rfl, ⟨by decide, by decide, by decide⟩, _, _, rfl, rfl, mul_big hcb, ?_⟩
 refine ⟨_, rfl, _, _, rfl, rfl, .of_left (intBits_le_64 (by decide) (by decide)), _, _, rfl, rfl, _, _, rfl, rfl, (by show 0 < 2 * x + 1; omega), ?_⟩
 have w0 := Int.emod_nonneg (c / 3 * (1000003 : Int) ^ (10 : Int).toNat) (show 2 * x + 1 ≠ 0 by omega)
 have w1 := Int.emod_lt_of_pos (c / 3 * (1000003 : Int) ^ (10 : Int).toNat) (show 0 < 2 * x + 1 by omega)
 refine ⟨_, rfl, _, _, rfl, rfl, q _ ?_⟩
 generalize c / 3 * (1000003 : Int) ^ (10 : Int).toNat % (2 * x + 1) = y at w0 w1 ⊢
 omega
theorem sc__law_square : FnScope ["_law_script", "_law_many", "_law_square_here", "_law_k", "_law_cell", "_law_row", "_law_j", "_law_at", "_law_one", "_law_other", "_law_by", "_law_more"] ["_law_script"] (defScope s__law_square) := ⟨rfl, rfl, rfl, by decide +kernel, rfl, by decide +kernel, by decide +kernel⟩
theorem ok__law_square (D : Def K mg "_law_square" s__law_square .none) (c__law_cell_at : Cal P w K mg base CX0 true 1 "_law_cell_at" ["_law_script", "_law_k"] [] (spCell K)) (c__law_entry : Cal P w K mg base CX0 true 1 "_law_entry" ["_law_cell", "_law_many"] [] spEnt) (c__law_mix : Cal P w K mg base CX0 true 1 "_law_mix" ["_law_cell", "_law_by"] [] spMix) (z_range : mg "range" = none) (z_len : mg "len" = none) (z_int : mg "int" = none) : Cal P w K mg base CX0 true 2 "_law_square" ["_law_script"] [] (spSquare K) := by
 obtain ⟨f, fd, F, hm⟩ := D
 obtain ⟨f__law_cell_at, fd__law_cell_at, d__law_cell_at, G__law_cell_at, m__law_cell_at, k__law_cell_at, b__law_cell_at, v__law_cell_at, b__law_cell_at1⟩ := c__law_cell_at
 obtain ⟨f__law_entry, fd__law_entry, d__law_entry, G__law_entry, m__law_entry, k__law_entry, b__law_entry, v__law_entry, b__law_entry1⟩ := c__law_entry
 obtain ⟨f__law_mix, fd__law_mix, d__law_mix, G__law_mix, m__law_mix, k__law_mix, b__law_mix, v__law_mix, b__law_mix1⟩ := c__law_mix
 refine ⟨f, fd, _, F.ok sc__law_square (fun vs H Q E h => ?_) (fun cdv A outer s H vs Q E hr h => ?_), hm, F.kp, (F.binds fun _ _ _ _ _ _ us hl => match us, hl with | [_], _ => rfl), .nil, F.binds fun _ _ _ _ _ _ us hl => match us, hl with | [_], _ => rfl⟩
 · obtain ⟨a, ns, rfl, hS, hlen, hb, q⟩ := h
   rfl
 obtain ⟨a, ns, rfl, hS, hlen, hb, q⟩ := h
 have nd := sc__law_square.nd
 refine ⟨_, (pss_cons (ps_set (i := 1) nd rfl (Or.inl rfl) (pe_op op_mod (pe_call G__law_cell_at (hr.mono (by decide)) rfl m__law_cell_at k__law_cell_at b__law_cell_at Paired.nil pass0 (pa_cons (pv 0) (pa_cons pe_int pa_nil))) pe_int))
   (pss_cons (ps_set (i := 2) nd rfl (Or.inl rfl) (pe_lst pa_nil))
   (pss_cons (ps_for PassesOwn.never rfl (pi_range1 rfl z_range (pa_cons (pv 1) pa_nil)) (pg_name (i := 3) nd rfl (Or.inl rfl)) (pss_cons (ps_set (i := 5) nd rfl (Or.inl rfl) (pe_lst pa_nil))
   (pss_cons (ps_for PassesOwn.never rfl (pi_range1 rfl z_range (pa_cons (pv 1) pa_nil)) (pg_name (i := 6) nd rfl (Or.inl rfl)) (pss_cons (ps_set (i := 7) nd rfl (Or.inl rfl) (pe_op op_add (pe_op op_add pe_int (pe_op op_mulB (pv 1) (pv 3))) (pv 6)))
   (pss_one (ps_if (pt_cmpR op_lt (pv 7) (pe_callB call_len_seq rfl z_len bt_len (pa_cons (pv 0) pa_nil)) (nomark _)) (pss_one (ps_expr (pe_bm PySem.F.plainAttrs_list PySem.F.slot_list_append PySem.F.type_list_append mt_append (pv 5) (pa_cons (pe_call G__law_entry (hr.mono (by decide)) rfl m__law_entry k__law_entry b__law_entry Paired.nil pass0 (pa_cons (pe_ix ix_seq (pv 0) (pv 7) (fun _ _ => rfl)) (pa_cons (pv 1) pa_nil))) pa_nil)))) (pss_one (ps_expr (pe_bm PySem.F.plainAttrs_list PySem.F.slot_list_append PySem.F.type_list_append mt_append (pv 5) (pa_cons (pe_op op_sub (pe_op op_mod (pe_call G__law_mix (hr.mono (by decide)) rfl m__law_mix k__law_mix b__law_mix Paired.nil pass0 (pa_cons (pe_call G__law_cell_at (hr.mono (by decide)) rfl m__law_cell_at k__law_cell_at b__law_cell_at Paired.nil pass0 (pa_cons (pv 0) (pa_cons pe_int pa_nil))) (pa_cons (pe_op op_add pe_int (pe_op op_mulB (pe_op op_mulB pe_int (pv 7)) (pv 7))) pa_nil))) pe_int) pe_int) pa_nil))))))))
   (pss_one (ps_expr (pe_bm PySem.F.plainAttrs_list PySem.F.slot_list_append PySem.F.type_list_append mt_append (pv 2) (pa_cons (pv 5) pa_nil)))))))
   (pss_cons (ps_set (i := 4) nd rfl (Or.inl rfl) (pe_call G__law_cell_at (hr.mono (by decide)) rfl m__law_cell_at k__law_cell_at b__law_cell_at Paired.nil pass0 (pa_cons (pv 0) (pa_cons pe_int pa_nil))))
   (pss_cons (ps_if (PW.pt (pw_and (pt_cmpR op_gt (pv 1) pe_int (nomark _)) (pw_and1 (pt_cmpR op_eq (pe_op op_mod (pv 4) pe_int) pe_int (nomark _))))) (pss_cons (ps_set (i := 7) nd rfl (Or.inl rfl) (pe_op op_mod (pe_call G__law_mix (hr.mono (by decide)) rfl m__law_mix k__law_mix b__law_mix Paired.nil pass0 (pa_cons (pv 4) (pa_cons pe_int pa_nil))) (pv 1)))
   (pss_cons (ps_set (i := 8) nd rfl (Or.inr rfl) (pe_ix ix_seq (pv 2) (pe_op op_mod (pe_call G__law_mix (hr.mono (by decide)) rfl m__law_mix k__law_mix b__law_mix Paired.nil pass0 (pa_cons (pv 4) (pa_cons pe_int pa_nil))) (pv 1)) (fun _ _ => rfl)))
   (pss_cons (ps_set (i := 9) nd rfl (Or.inr rfl) (pe_ix ix_seq (pv 2) (pe_op op_mod (pe_call G__law_mix (hr.mono (by decide)) rfl m__law_mix k__law_mix b__law_mix Paired.nil pass0 (pa_cons (pv 4) (pa_cons pe_int pa_nil))) (pv 1)) (fun _ _ => rfl)))
   (pss_cons (ps_set (i := 10) nd rfl (Or.inr rfl) (pe_op op_sub (pe_op op_mod (pe_call G__law_mix (hr.mono (by decide)) rfl m__law_mix k__law_mix b__law_mix Paired.nil pass0 (pa_cons (pv 4) (pa_cons pe_int pa_nil))) pe_int) pe_int))
   (pss_cons (ps_set (i := 11) nd rfl (Or.inr rfl) (pe_op op_mulB (pe_op op_sub (pv 10) pe_int) (pe_callTy call_int1 rfl z_int bt_int (pa_cons (pe_cmpR op_gt (pv 7) pe_int (nomark _)) pa_nil))))
   (pss_one (ps_asg (pe_lc [10, 11, 8, 9] rfl (LcOk.free ["_law_other", "_law_one", "_law_more", "_law_by"] rfl rfl (List.forall_mem_cons.mpr ⟨rfl, (List.forall_mem_cons.mpr ⟨rfl, (List.forall_mem_cons.mpr ⟨rfl, (List.forall_mem_cons.mpr ⟨rfl, (fun _ h => nomatch h)⟩)⟩)⟩)⟩) (by decide +kernel) rfl (by decide +kernel) rfl (by decide +kernel) (show (["_law_k", "_law_by", "_law_more", "_law_one", "_law_other"] : List Str).Nodup from by decide +kernel) (List.forall_mem_cons.mpr ⟨⟨_, rfl, rfl, rfl, by decide +kernel⟩, (List.forall_mem_cons.mpr ⟨⟨_, rfl, rfl, rfl, by decide +kernel⟩, (List.forall_mem_cons.mpr ⟨⟨_, rfl, rfl, rfl, by decide +kernel⟩, (List.forall_mem_cons.mpr ⟨⟨_, rfl, rfl, rfl, by decide +kernel⟩, (fun _ h => nomatch h)⟩)⟩)⟩)⟩)) (pi_range1 rfl z_range (pa_cons (pv 1) pa_nil)) (fun C s2 H2 fp xe => (pe_op op_add (pe_op op_mulB (pe_ix ix_seqC (pv 3) (pv 0) (fun _ _ => rfl)) (pv 1)) (pe_op op_mulB (pe_ix ix_seqC (pv 4) (pv 0) (fun _ _ => rfl)) (pv 2))))) (pg_sub (pv 2) (pv 7) set_list)))))))) pss_nil)
   (pss_one (ps_ret (pv 2)))))))), ?_⟩
 rw [show ∀ x0 : V, L2.start ["_law_script", "_law_many", "_law_square_here", "_law_k", "_law_cell", "_law_row", "_law_j", "_law_at", "_law_one", "_law_other", "_law_by", "_law_more"] [x0] = [some x0, none, none, none, none, none, none, none, none, none, none, none] from fun _ => rfl]
 have hline : 10 ^ 6 ≤ sizeLine := by decide
 have eb := eb_le
 refine ⟨_, rfl, a, ns, 0, rfl, hS, _, _, rfl, rfl, (by show (0 : Int) < 7; decide), ?_⟩
 obtain ⟨m, hm⟩ : ∃ m : Nat, ns.getD 0 0 % 7 = (m : Int) := Int.eq_ofNat_of_zero_le (Int.emod_nonneg _ (by decide))
 have hm6 : m ≤ 6 := by
   have := Int.emod_lt_of_pos (ns.getD 0 0) (show (0 : Int) < 7 by decide)
   omega
 dsimp only
 rw [hm]
 refine ⟨(by show 0 ≤ sizeLine; decide), fun sp hsp => ?_⟩
 have e0 := same_upd (o := .lst []) hsp
 refine ⟨_, rfl, _, rfl, by omega, by omega, ?_⟩
 refine for_range (fun i σ H' => ∃ (o3 o5 o6 o7 : Option V) (Z : List Lz), σ = [some (.ref a), some (.int (m : Int)), some (.ref sp), o3, none, o5, o6, o7, none, none, none, none] ∧ Same H H' ∧ H' sp = some (.lst (rfz Z)) ∧ LL H' Z ∧ (∀ z ∈ Z, z.1 ≠ sp) ∧ Z.length = i ∧ ∀ z ∈ Z, z.2.length = m ∧ ∀ x ∈ z.2, N45.Bt (ebN m - 3) x) ⟨_, _, _, _, [], rfl, e0, upd_same, (fun z hz => nomatch hz), (fun z hz => nomatch hz), rfl, fun z hz => nomatch hz⟩ ?_ ?_
 · rintro i σ H1 hi ⟨o3, o5, o6, o7, Z, rfl, e1, hsp1, hZ, hZs, hZl, hZb⟩
   have hi6 : i < m := by omega
   refine ⟨(by show 0 ≤ sizeLine; decide), fun rp hrp => ?_⟩
   have f1 := same_upd (o := .lst []) hrp
   have nrs : sp ≠ rp := ne_of_none hsp1 hrp
   refine ⟨_, rfl, _, rfl, by omega, by omega, ?_⟩
   refine for_range (fun j σ H' => ∃ (o6 o7 : Option V) (r : List Int), σ = [some (.ref a), some (.int (m : Int)), some (.ref sp), some (.int (0 + (i : Int))), none, some (.ref rp), o6, o7, none, none, none, none] ∧ Same H1 H' ∧ H' rp = some (.lst (r.map V.int)) ∧ r.length = j ∧ ∀ x ∈ r, N45.Bt (ebN m - 3) x) ⟨_, _, [], rfl, f1, upd_same, rfl, fun x hx => nomatch hx⟩ ?_ ?_
   · rintro j σ H2 hj ⟨o6, o7, r, rfl, e2, hrp2, hrl, hrb⟩
     have hj6 : j < m := by omega
     have hmi : m * i ≤ 6 * 6 := Nat.mul_le_mul hm6 (by omega)
     have hmii : (m : Int) * (0 + (i : Int)) = ((m * i : Nat) : Int) := by rw [Int.zero_add, Int.natCast_mul]
     have hS2 := (e1.trans e2).seq hS
     refine ⟨_, rfl, _, rfl, _, _, rfl, rfl, mul_of (by omega) (by omega) (by omega) (by omega), _, _, rfl, rfl, _, rfl, _, _, rfl, rfl, ?_⟩
     dsimp only
     rw [hmii]
     obtain ⟨tt, ht⟩ : ∃ tt : Nat, 2 + ((m * i : Nat) : Int) + (0 + (j : Int)) = (tt : Int) := ⟨2 + m * i + j, by omega⟩
     have ht60 : tt < 61 := by omega
     rw [ht]
     have push : ∀ (x : Int) (H3 : Hp), Same H2 H3 → N45.Bt (ebN m - 3) x → ∃ (o6' o7' : Option V) (r' : List Int), [some (.ref a), some (.int (m : Int)), some (.ref sp), some (.int (0 + (i : Int))), none, some (.ref rp), some (.int (0 + (j : Int))), some (.int (tt : Int)), none, none, none, none] = [some (.ref a), some (.int (m : Int)), some (.ref sp), some (.int (0 + (i : Int))), none, some (.ref rp), o6', o7', none, none, none, none] ∧ Same H1 (upd H3 rp (.lst ((r.map V.int) ++ [.int x]))) ∧ upd H3 rp (.lst ((r.map V.int) ++ [.int x])) rp = some (.lst (r'.map V.int)) ∧ r'.length = j + 1 ∧ ∀ x ∈ r', N45.Bt (ebN m - 3) x := fun x H3 e3 hx => by
       refine ⟨_, _, r ++ [x], rfl, same_set (e2.trans e3) hrp, (by rw [upd_same, List.map_append]; rfl), (by rw [List.length_append, hrl]; rfl), fun y hy => ?_⟩
       rcases List.mem_append.mp hy with c | c
       · exact hrb y c
       · rw [List.mem_singleton.mp c]
         exact hx
     refine ⟨_, rfl, _, rfl, a, _, rfl, .inl hS2, _, _, rfl, rfl, _, rfl, ?_⟩
     rw [List.length_map]
     refine dec2 (fun h => ?_) (fun h => ?_)
     · have htl : tt < ns.length := by omega
       refine ⟨_, rfl, .inl ⟨rfl, _, SqL.of hrp2⟩, _, rfl, _, rfl, .inl ⟨a, _, _, _, rfl, rfl, hS2, atI_nat (v := .int ns[tt]) (by rw [List.getElem?_map, List.getElem?_eq_getElem htl]; rfl), _, rfl, ns[tt], m, rfl, hb _ (List.getElem_mem _), fun x hx => ?_⟩⟩
       exact ⟨rp, _, _, rfl, rfl, hrp2, (by rw [List.length_map]; omega), push x H2 (same_refl _) (fr_bt hx)⟩
     · obtain ⟨q0, q1⟩ := sq60 tt ht60
       refine ⟨_, rfl, .inl ⟨rfl, _, SqL.of hrp2⟩, _, rfl, a, ns, 1, rfl, hS2, _, rfl, _, _, rfl, rfl, mul_of (by omega) (by omega) (by omega) (by omega), _, rfl, _, _, rfl, rfl, mul_of (by omega) (by omega) (by omega) (by omega), _, _, rfl, rfl, _, _, rfl, (by omega), fun x x0 x1 => ⟨_, _, rfl, rfl, (by show (0 : Int) < 7; decide), _, _, rfl, rfl, ?_⟩⟩
       exact ⟨rp, _, _, rfl, rfl, hrp2, (by rw [List.length_map]; omega), push _ H2 (same_refl _) (fr_bt (by have : 10 ^ 6 ≤ frN m := (by unfold frN; split <;> decide); omega))⟩
   · rintro σ H2 ⟨o6, o7, r, rfl, e2, hrp2, hrl, hrb⟩
     have hsp2 := e2 _ _ hsp1
     refine ⟨_, rfl, .inl ⟨rfl, _, SqL.of hsp2⟩, _, rfl, sp, _, _, rfl, rfl, hsp2, (by rw [rfz_len]; omega), ?_⟩
     refine ⟨_, _, _, _, Z ++ [(rp, r)], rfl, same_set (e1.trans e2) hsp, (by rw [upd_same, rfz_app]; rfl), fun z hz => ?_, fun z hz => ?_, (by rw [List.length_append, hZl]; rfl), fun z hz => ?_⟩
     · rcases List.mem_append.mp hz with c | c
       · rw [upd_ne (hZs z c)]
         exact e2 _ _ (hZ z c)
       · rw [List.mem_singleton.mp c, upd_ne (Ne.symm nrs)]
         exact hrp2
     · rcases List.mem_append.mp hz with c | c
       · exact hZs z c
       · rw [List.mem_singleton.mp c]
         exact Ne.symm nrs
     · rcases List.mem_append.mp hz with c | c
       · exact hZb z c
       · rw [List.mem_singleton.mp c]
         exact ⟨by show r.length = m; omega, hrb⟩
 rintro σ H1 ⟨o3, o5, o6, o7, Z, rfl, e1, hsp1, hZ, hZs, hZl, hZb⟩
 have hZm : Z.length = m := by omega
 have lz : (rws Z).length = Z.length := List.length_map ..
 have hS1 := e1.seq hS
 refine ⟨_, rfl, a, ns, 1, rfl, hS1, ?_⟩
 refine ⟨_, rfl, _, _, rfl, rfl, _, rfl, ?_⟩
 have fin : ∀ (W : List Lz) (H2 : Hp), Same H H2 → H2 sp = some (.lst (rfz W)) → LL H2 W → W.length = m → (∀ z ∈ W, z.2.length = m ∧ ∀ x ∈ z.2, N45.Bt (ebN m) x) → Q (.ref sp) H2 := fun W H2 e hs hl hw hb2 => by
   refine q sp W (ebN m) H2 e hsp hs hl ⟨⟨fun r hrr => ?_, fun r hrr => ?_, by have := eb m; omega⟩, by omega, by rw [hw]; exact eb_ok hm6⟩ (by have := eb m; omega)
   · obtain ⟨z, hz, rfl⟩ := List.mem_map.mp hrr
     rw [List.length_map, hw]
     exact (hb2 z hz).1
   · obtain ⟨z, hz, rfl⟩ := List.mem_map.mp hrr
     exact (hb2 z hz).2
 have plain : Q (.ref sp) H1 := fin Z H1 e1 hsp1 hZ hZm fun z hz => ⟨(hZb z hz).1, fun x hx => ((hZb z hz).2 x hx).mono (by omega)⟩
 refine dec2 (fun h => ?_) (fun h => iteF ⟨_, rfl, plain⟩)
 have hm1 : 0 < m := by omega
 refine ⟨_, rfl, _, _, rfl, rfl, (by show (0 : Int) < 3; decide), rfl, _, rfl, ?_⟩
 refine dec2 (fun h2 => ?_) (fun h2 => ⟨_, rfl, plain⟩)
 refine ⟨_, rfl, _, 48271, rfl, by decide, fun n1 p0 p1 => ⟨_, rfl, _, _, rfl, rfl, (by show (0 : Int) < (m : Int); omega), ?_⟩⟩
 have pick : ∀ n : Int, ∃ k : Nat, n % (m : Int) = (k : Int) ∧ k < m := fun n => by
   obtain ⟨k, hk⟩ := Int.eq_ofNat_of_zero_le (Int.emod_nonneg n (show (m : Int) ≠ 0 by omega))
   have := Int.emod_lt_of_pos n (show (0 : Int) < (m : Int) by omega)
   exact ⟨k, hk, by omega⟩
 obtain ⟨k1, hk1, hk1m⟩ := pick n1
 dsimp only
 rw [hk1]
 refine ⟨_, rfl, _, rfl, _, 69621, rfl, by decide, fun n2 p2 p3 => ⟨_, rfl, _, _, rfl, rfl, (by show (0 : Int) < (m : Int); omega), ?_⟩⟩
 obtain ⟨k2, hk2, hk2m⟩ := pick n2
 dsimp only
 rw [hk2]
 obtain ⟨y2, hz2⟩ : ∃ y, Z[k2]? = some y := ⟨Z[k2], List.getElem?_eq_getElem (by omega)⟩
 refine .inl ⟨sp, _, _, _, rfl, rfl, SqL.of hsp1, atI_nat (at_rfz hz2), ?_⟩
 refine ⟨_, rfl, _, rfl, _, 40692, rfl, by decide, fun n3 p4 p5 => ⟨_, rfl, _, _, rfl, rfl, (by show (0 : Int) < (m : Int); omega), ?_⟩⟩
 obtain ⟨k3, hk3, hk3m⟩ := pick n3
 dsimp only
 rw [hk3]
 obtain ⟨y3, hz3⟩ : ∃ y, Z[k3]? = some y := ⟨Z[k3], List.getElem?_eq_getElem (by omega)⟩
 refine .inl ⟨sp, _, _, _, rfl, rfl, SqL.of hsp1, atI_nat (at_rfz hz3), ?_⟩
 refine ⟨_, rfl, _, 39373, rfl, by decide, fun n4 p6 p7 => ⟨_, _, rfl, rfl, (by show (0 : Int) < 7; decide), _, _, rfl, rfl, ?_⟩⟩
 have hby : (n4 % 7 - 3).natAbs ≤ 3 := by omega
 obtain ⟨by_, hbye⟩ : ∃ x, x = n4 % 7 - 3 := ⟨_, rfl⟩
 dsimp only
 rw [← hbye] at hby ⊢
 refine ⟨_, rfl, _, _, rfl, rfl, _, rfl, _, _, rfl, rfl, .inr ⟨_, rfl, _, _, rfl, rfl, mul_of (by omega) (by omega) (by split <;> omega) (by split <;> omega), ?_⟩⟩
 obtain ⟨mo, hmoe⟩ : ∃ x, x = (by_ - 2) * (if decide (0 < (k1 : Int)) = true then (1 : Int) else 0) := ⟨_, rfl⟩
 have hmo : mo.natAbs ≤ 5 := by
   rw [hmoe]
   split
   · omega
   · omega
 dsimp only
 rw [← hmoe]
 refine ⟨_, rfl, _, rfl, by omega, by omega, ?_⟩
 have zb2 := hZb y2 (List.mem_of_getElem? hz2)
 have zb3 := hZb y3 (List.mem_of_getElem? hz3)
 have hz2v := hZ y2 (List.mem_of_getElem? hz2)
 have hz3v := hZ y3 (List.mem_of_getElem? hz3)
 refine lc_range (lo := 0) (fun i ys H' => ys = ((List.range i).map fun k => N45.gt y2.2 k * by_ + N45.gt y3.2 k * mo).map V.int ∧ H' = H1) ⟨rfl, rfl⟩ (by omega) ?_ ?_ ?_
 · rintro i ys H' hi ⟨rfl, rfl⟩
   rw [List.length_map, List.length_map, List.length_range]
 · rintro i ys H' hi ⟨rfl, rfl⟩
   have hi6 : i < m := by omega
   have bb : by_.natAbs < 2 ^ 3 := by show by_.natAbs < 8; omega
   have bm : mo.natAbs < 2 ^ 3 := by show mo.natAbs < 8; omega
   refine ⟨_, rfl, _, rfl, .inl ⟨y2.1, _, _, _, rfl, rfl, SqL.of hz2v, at0 (by rw [zb2.1]; exact hi6), _, rfl, _, _, rfl, rfl, mulN (N45.bt_gt zb2.2 i) bb (by have := eb m; omega) (by omega), ?_⟩⟩
   refine ⟨_, rfl, _, rfl, .inl ⟨y3.1, _, _, _, rfl, rfl, SqL.of hz3v, at0 (by rw [zb3.1]; exact hi6), _, rfl, _, _, rfl, rfl, mulN (N45.bt_gt zb3.2 i) bm (by have := eb m; omega) (by omega), _, _, rfl, rfl, ?_, rfl⟩⟩
   rw [List.range_succ, List.map_append, List.map_append]
   rfl
 rintro ys H' ⟨rfl, rfl⟩ nl hnl
 obtain ⟨R, hR⟩ : ∃ R : List Int, R = (List.range (m : Int).toNat).map fun k => N45.gt y2.2 k * by_ + N45.gt y3.2 k * mo := ⟨_, rfl⟩
 dsimp only
 rw [← hR]
 have f1 := same_upd (o := .lst (R.map V.int)) hnl
 have ns1 : nl ≠ sp := fun w => by rw [w, hsp1] at hnl; cases hnl
 have hnl1 : upd H' nl (.lst (R.map V.int)) nl = some (.lst (R.map V.int)) := upd_same
 have hsp2 := f1 _ _ hsp1
 have hZ2 := hZ.same f1
 generalize upd H' nl (.lst (R.map V.int)) = H3 at f1 hnl1 hsp2 hZ2 ⊢
 refine ⟨_, rfl, _, rfl, sp, _, _, k1, rfl, rfl, hsp2, ixN_nat (by rw [rfz_len]; omega), ?_⟩
 have hset : (rfz Z).set k1 (.ref nl) = rfz (Z.set k1 (nl, R)) := by
   unfold rfz
   rw [List.map_set]
 rw [hset]
 have hRb : R.length = m ∧ ∀ x ∈ R, N45.Bt (ebN m) x := by
   refine ⟨by rw [hR, List.length_map, List.length_range]; omega, fun x hx => ?_⟩
   rw [hR] at hx
   obtain ⟨k, _, rfl⟩ := List.mem_map.mp hx
   have := comb_bt (N45.bt_gt zb2.2 k) (N45.bt_gt zb3.2 k) hby hmo
   rw [show ebN m - 3 + 3 = ebN m by have := eb m; omega] at this
   exact this
 have mem : ∀ z ∈ Z.set k1 (nl, R), z ∈ Z ∨ z = (nl, R) := fun z hz => List.mem_or_eq_of_mem_set hz
 refine ⟨_, rfl, fin (Z.set k1 (nl, R)) _ (same_set (e1.trans f1) hsp) upd_same (fun z hz => ?_) (by rw [List.length_set]; exact hZm) fun z hz => ?_⟩
 · rcases mem z hz with c | c
   · rw [upd_ne (hZs z c)]
     exact hZ2 z c
   · rw [c, upd_ne ns1]
     exact hnl1
 · rcases mem z hz with c | c
   · exact ⟨(hZb z c).1, fun x hx => ((hZb z c).2 x hx).mono (by omega)⟩
   · rw [c]
     exact hRb
theorem fM_mix (l : Addr) : (fM l).lookup ("mix" : Str) = some (.ref l) := by
 unfold fM
 rw [lookup_putF, if_pos rfl]
theorem sg_sq (r : List Int) (k : Nat) : sg r k * sg r k = 1 := by
 unfold sg
 split <;> decide
theorem sg_abs (r : List Int) (k : Nat) : (sg r k).natAbs = 1 := by
 unfold sg
 split <;> decide
structure PrOk (S : List (List Int)) (k : Nat) (d : Int) (row : List Int) : Prop where
 pos : 1 ≤ d
 len : row.length = S.length
 one : N45.gL d row = 1
 mix : ∀ j < S.length, N45.mx S row j = if j = k then d else 0
 bd : N45.Bt 1990 d
 br : ∀ x ∈ row, N45.Bt 1990 x
theorem bt_unit {s x : Int} {n : Nat} (h : s.natAbs = 1) (hx : N45.Bt n x) : N45.Bt n (s * x) := by
 unfold N45.Bt at hx ⊢
 rw [Int.natAbs_mul, h, Nat.one_mul]
 exact hx
theorem pap_len (S : List (List Int)) : (pap S).length = S.length := by
 unfold pap
 rw [List.length_map, List.length_range]
theorem pap_at {S : List (List Int)} {k : Nat} (h : k < S.length) : (pap S)[k]? = some (prF ((N45.trn S S.length).1.getD k []) k S.length) := by
 unfold pap
 rw [List.getElem?_map, List.getElem?_range h]
 rfl
theorem pap_ok {S : List (List Int)} {E k : Nat} {p : Int × List Int} (hS : N45.Squ S E) (he : N45.ex E S.length ≤ 1990) (hB : (N45.trn S S.length).2 = []) (hk : k < S.length) (hp : (pap S)[k]? = some p) : PrOk S k p.1 p.2 := by
 rw [pap_at hk] at hp
 obtain ⟨hl, hr⟩ := N45.trn_paper hS hB
 have hg : (N45.trn S S.length).1[k]? = some ((N45.trn S S.length).1.getD k []) := by
   rw [List.getD_eq_getElem?_getD, List.getElem?_eq_getElem (by omega)]
   rfl
 obtain ⟨h1, h2, h3, h4, h5, h6⟩ := hr k hk _ hg
 generalize (N45.trn S S.length).1.getD k [] = r at *
 cases Option.some.inj hp
 have hd : (r.drop S.length).length = S.length := by rw [List.length_drop]; omega
 have hpos : 1 ≤ sg r k * N45.gt r k := by
   unfold sg
   split <;> omega
 refine ⟨hpos, by show ((r.drop S.length).map _).length = _; rw [List.length_map]; exact hd, ?_, fun j hj => ?_, bt_unit (sg_abs r k) ((N45.bt_gt h3 k).mono he), fun x hx => ?_⟩
 · show N45.gL (sg r k * N45.gt r k) ((r.drop S.length).map fun x => sg r k * x) = 1
   have n0 := N45.gL_nn ((r.drop S.length).map fun x => sg r k * x) (sg r k * N45.gt r k) (by omega)
   obtain ⟨d1, d2⟩ := N45.gL_dvd ((r.drop S.length).map fun x => sg r k * x) (sg r k * N45.gt r k)
   generalize N45.gL (sg r k * N45.gt r k) ((r.drop S.length).map fun x => sg r k * x) = g at n0 d1 d2 ⊢
   have un : ∀ x : Int, g ∣ sg r k * x → g ∣ x := fun x hx => by
     have : g ∣ sg r k * (sg r k * x) := Int.dvd_trans hx ⟨sg r k, Int.mul_comm ..⟩
     rw [← Int.mul_assoc, sg_sq, Int.one_mul] at this
     exact this
   have dall : g ∣ N45.gL 0 r := by
     refine N45.gL_max r 0 g (Int.dvd_zero g) fun x hx => ?_
     obtain ⟨j, hj, rfl⟩ := N45.mem_gt hx
     by_cases c : j < S.length
     · by_cases ck : j = k
       · rw [ck]
         exact un _ d1
       · rw [h5 j c ck]
         exact Int.dvd_zero g
     · refine un _ (d2 _ ?_)
       refine List.mem_map.mpr ⟨_, ?_, rfl⟩
       have := N45.gt_mem (r := r.drop S.length) (j := j - S.length) (by rw [hd]; omega)
       rw [N45.gt_drop, show S.length + (j - S.length) = j by omega] at this
       exact this
   rw [h4] at dall
   exact Int.eq_one_of_dvd_one n0 dall
 · show N45.mx S ((r.drop S.length).map fun x => sg r k * x) j = if j = k then sg r k * N45.gt r k else 0
   rw [N45.mx_mul S _ _ hd, ← h6 j hj]
   by_cases ck : j = k
   · rw [if_pos ck, ck]
   · rw [if_neg ck, h5 j hj ck, Int.mul_zero]
 · obtain ⟨y, hy, rfl⟩ := List.mem_map.mp hx
   exact bt_unit (sg_abs r k) ((h3 y (List.mem_of_mem_drop hy)).mono he)
def spPT : Sp := fun vs H Q _ => ∃ (a t : Addr) (Z : List Lz) (Y : List Pr) (E : Nat), vs = [.ref a, .ref t] ∧ H a = some (.lst (rfz Z)) ∧ LL H Z ∧ Sqr Z E ∧ E ≤ 1990 ∧ H t = some (.lst (rfp Y)) ∧ PP H Y ∧ (N45.trn (rws Z) Z.length).2 = [] ∧ prs Y = pap (rws Z) ∧ ∀ H', Same H H' → Q (.bl true) H'
def spMT : Sp := fun vs H Q _ => ∃ (a c : Addr) (Z : List Lz) (r : List Int) (E : Nat), vs = [.ref a, .ref c] ∧ H a = some (.lst (rfz Z)) ∧ LL H Z ∧ Sqr Z E ∧ E ≤ 1990 ∧ H c = some (.lst (r.map V.int)) ∧ r.length = Z.length ∧ (∀ x ∈ r, N45.Bt 1990 x) ∧ (∃ j, j < Z.length ∧ N45.gt r j ≠ 0) ∧ (∀ j < Z.length, N45.mx (rws Z) r j = 0) ∧ ∀ H', Same H H' → Q (.bl true) H'
theorem sqr_len {Z : List Lz} {E : Nat} (h : Sqr Z E) : (∀ z ∈ Z, z.2.length = Z.length) ∧ (E ≤ 1990 → ∀ z ∈ Z, ∀ x ∈ z.2, N45.Bt 4000 x) := by
 refine ⟨fun z hz => ?_, fun hE z hz x hx => ?_⟩
 · have := h.1.len z.2 (List.mem_map.mpr ⟨z, hz, rfl⟩)
   rw [List.length_map] at this
   exact this
 · exact (h.1.bt z.2 (List.mem_map.mpr ⟨z, hz, rfl⟩) x hx).mono (by omega)
theorem uni_zero (m : Nat) : (List.replicate ((m : Int).toNat) [V.int 0]).flatten = ((List.range m).map fun _ => (0 : Int)).map V.int := by
 rw [Int.toNat_natCast]
 induction m with
 | zero => rfl
 | succ m ih =>
   rw [List.replicate_succ', List.flatten_append, ih, List.range_succ, List.map_append, List.map_append]
   rfl
theorem at0p {Y : List Pr} {j : Nat} {y : Pr} (h : Y[j]? = some y) : atI (rfp Y) (0 + (j : Int)) = some (.ref y.1) := by
 rw [Int.zero_add]
 exact atI_nat (at_rfp h)
theorem sc__law_paper_told : FnScope ["_law_square_here", "_law_paper", "_law_many", "_law_k", "_law_d", "_law_row", "_law_by", "_law_number", "_law_due"] ["_law_square_here", "_law_paper"] (defScope s__law_paper_told) := ⟨rfl, rfl, rfl, by decide +kernel, rfl, by decide +kernel, by decide +kernel⟩
theorem ok__law_paper_told (D : Def K mg "_law_paper_told" s__law_paper_told .none) (c__law_whole : Cal P w K mg base CX0 true 1 "_law_whole" ["_law_found"] [] spWhole) (c__law_divisor : Cal P w K mg base CX0 true 1 "_law_divisor" ["_law_one", "_law_other"] [] spG) (c__law_mixed : Cal P w K mg base CX0 true 1 "_law_mixed" ["_law_square_here", "_law_row"] [] spMxd) (z_len : mg "len" = none) (z_isinstance : mg "isinstance" = none) (z_list : mg "list" = none) (z_range : mg "range" = none) (z_tuple : mg "tuple" = none) (z_int : mg "int" = none) : Cal P w K mg base CX0 true 2 "_law_paper_told" ["_law_square_here", "_law_paper"] [] spPT := by
 obtain ⟨f, fd, F, hm⟩ := D
 obtain ⟨f__law_whole, fd__law_whole, d__law_whole, G__law_whole, m__law_whole, k__law_whole, b__law_whole, v__law_whole, b__law_whole1⟩ := c__law_whole
 obtain ⟨f__law_divisor, fd__law_divisor, d__law_divisor, G__law_divisor, m__law_divisor, k__law_divisor, b__law_divisor, v__law_divisor, b__law_divisor1⟩ := c__law_divisor
 obtain ⟨f__law_mixed, fd__law_mixed, d__law_mixed, G__law_mixed, m__law_mixed, k__law_mixed, b__law_mixed, v__law_mixed, b__law_mixed1⟩ := c__law_mixed
 refine ⟨f, fd, _, F.ok sc__law_paper_told (fun vs H Q E h => ?_) (fun cdv A outer s H vs Q E hr h => ?_), hm, F.kp, (F.binds fun _ _ _ _ _ _ us hl => match us, hl with | [_, _], _ => rfl), .nil, F.binds fun _ _ _ _ _ _ us hl => match us, hl with | [_, _], _ => rfl⟩
 · obtain ⟨a, t, Z, Y, E, rfl, ha, hZ, hS, hE, ht, hY, hB, hv, q⟩ := h
   rfl
 obtain ⟨a, t, Z, Y, E, rfl, ha, hZ, hS, hE, ht, hY, hB, hv, q⟩ := h
 have nd := sc__law_paper_told.nd
 refine ⟨_, (pss_cons (ps_set (i := 2) nd rfl (Or.inl rfl) (pe_callB call_len_seq rfl z_len bt_len (pa_cons (pv 0) pa_nil)))
   (pss_cons (ps_if (PW.pt (pw_or (pt_not (pt_val (pe_callB call_is rfl z_isinstance bt_isinstance (pa_cons (pv 1) (pa_cons (pe_bltn (v := .ty "list") rfl z_list bt_list rfl) pa_nil))))) (pw_or1 (pt_cmpR op_ne (pe_callB call_len_seq rfl z_len bt_len (pa_cons (pv 1) pa_nil)) (pv 2) (nomark _))))) (pss_one (ps_ret pe_bl)) pss_nil)
   (pss_cons (ps_for PassesOwn.never rfl (pi_range1 rfl z_range (pa_cons (pv 2) pa_nil)) (pg_name (i := 3) nd rfl (Or.inr rfl)) (pss_cons (ps_if (PW.pt (pw_or (pt_not (pt_val (pe_callB call_is rfl z_isinstance bt_isinstance (pa_cons (pe_ix ix_seq (pv 1) (pv 3) (fun _ _ => rfl)) (pa_cons (pe_bltn (v := .ty "tuple") rfl z_tuple bt_tuple rfl) pa_nil))))) (pw_or1 (pt_cmpR op_ne (pe_callB call_len_seq rfl z_len bt_len (pa_cons (pe_ix ix_seq (pv 1) (pv 3) (fun _ _ => rfl)) pa_nil)) pe_int (nomark _))))) (pss_one (ps_ret pe_bl)) pss_nil)
   (pss_cons (ps_set (i := 4) nd rfl (Or.inr rfl) (pe_ix ix_seq (pe_ix ix_seq (pv 1) (pv 3) (fun _ _ => rfl)) pe_int (fun _ _ => rfl)))
   (pss_cons (ps_set (i := 5) nd rfl (Or.inl rfl) (pe_ix ix_seq (pe_ix ix_seq (pv 1) (pv 3) (fun _ _ => rfl)) pe_int (fun _ _ => rfl)))
   (pss_cons (ps_if (PW.pt (pw_or (pt_not (pt_val (pe_call G__law_whole (hr.mono (by decide)) rfl m__law_whole k__law_whole b__law_whole Paired.nil pass0 (pa_cons (pv 4) pa_nil)))) (pw_or (pt_cmpR op_lt (pv 4) pe_int (nomark _)) (pw_or (pt_not (pt_val (pe_callB call_is rfl z_isinstance bt_isinstance (pa_cons (pv 5) (pa_cons (pe_bltn (v := .ty "list") rfl z_list bt_list rfl) pa_nil))))) (pw_or1 (pt_cmpR op_ne (pe_callB call_len_seq rfl z_len bt_len (pa_cons (pv 5) pa_nil)) (pv 2) (nomark _))))))) (pss_one (ps_ret pe_bl)) pss_nil)
   (pss_cons (ps_set (i := 6) nd rfl (Or.inl rfl) (pv 4))
   (pss_cons (ps_for PassesOwn.never rfl (pi_list (pv 5)) (pg_name (i := 7) nd rfl (Or.inl rfl)) (pss_cons (ps_if (pt_not (pt_val (pe_call G__law_whole (hr.mono (by decide)) rfl m__law_whole k__law_whole b__law_whole Paired.nil pass0 (pa_cons (pv 7) pa_nil)))) (pss_one (ps_ret pe_bl)) pss_nil)
   (pss_one (ps_set (i := 6) nd rfl (Or.inl rfl) (pe_call G__law_divisor (hr.mono (by decide)) rfl m__law_divisor k__law_divisor b__law_divisor Paired.nil pass0 (pa_cons (pv 6) (pa_cons (pv 7) pa_nil)))))))
   (pss_cons (ps_setLC [4, 3] (i := 8) nd rfl (Or.inl rfl) rfl (LcOk.free ["_law_k", "_law_d"] rfl rfl (List.forall_mem_cons.mpr ⟨rfl, (List.forall_mem_cons.mpr ⟨rfl, (fun _ h => nomatch h)⟩)⟩) (by decide +kernel) rfl (by decide +kernel) rfl (by decide +kernel) (show (["_law_at", "_law_d", "_law_k"] : List Str).Nodup from by decide +kernel) (List.forall_mem_cons.mpr ⟨⟨_, rfl, rfl, rfl, by decide +kernel⟩, (List.forall_mem_cons.mpr ⟨⟨_, rfl, rfl, rfl, by decide +kernel⟩, (fun _ h => nomatch h)⟩)⟩)) (pi_range1 rfl z_range (pa_cons (pv 2) pa_nil)) (fun C s2 H2 fp xe => (pe_op op_mulB (pv 1) (pe_callTy call_int1 rfl z_int bt_int (pa_cons (pe_cmpR op_eq (pv 0) (pv 2) (nomark _)) pa_nil)))))
   (pss_one (ps_if (PW.pt (pw_or (pt_cmpR op_ne (pv 6) pe_int (nomark _)) (pw_or1 (pt_cmpR (op_neD hr) (pe_call G__law_mixed (hr.mono (by decide)) rfl m__law_mixed k__law_mixed b__law_mixed Paired.nil pass0 (pa_cons (pv 0) (pa_cons (pv 5) pa_nil))) (pv 8) (nomark _))))) (pss_one (ps_ret pe_bl)) pss_nil))))))))))
   (pss_one (ps_ret pe_bl))))), ?_⟩
 rw [show ∀ x0 x1 : V, L2.start ["_law_square_here", "_law_paper", "_law_many", "_law_k", "_law_d", "_law_row", "_law_by", "_law_number", "_law_due"] [x0, x1] = [some x0, some x1, none, none, none, none, none, none, none] from fun _ _ => rfl]
 have hline : 10 ^ 6 ≤ sizeLine := by decide
 have lz : (rws Z).length = Z.length := List.length_map ..
 obtain ⟨hw, hbz⟩ := sqr_len hS
 have hbz := hbz hE
 obtain ⟨hq, h6, he⟩ := hS
 have lY : Y.length = Z.length := by
   have := congrArg List.length hv
   rw [List.length_map, pap_len, lz] at this
   exact this
 refine ⟨_, rfl, a, _, rfl, .inl (SqL.of ha), ?_⟩
 rw [rfz_len]
 refine ⟨_, rfl, _, _, _, _, _, rfl, .of (.lst ht), rfl, rfl, true, rfl, iteF ?_⟩
 refine ⟨_, rfl, t, _, rfl, .inl (SqL.of ht), _, rfl, rfl, _, rfl, ndecF (congrArg V.int (by rw [rfp_len, lY])) ?_⟩
 refine ⟨_, rfl, _, rfl, by omega, by omega, ?_⟩
 refine for_range (fun i σ H' => ∃ (o3 o4 o5 o6 o7 o8 : Option V), σ = [some (.ref a), some (.ref t), some (.int (Z.length : Int)), o3, o4, o5, o6, o7, o8] ∧ Same H H') ⟨_, _, _, _, _, _, rfl, same_refl _⟩ ?_ ?_
 · rintro i σ H1 hi ⟨o3, o4, o5, o6, o7, o8, rfl, e1⟩
   have hi6 : i < Z.length := by omega
   obtain ⟨y, hy⟩ : ∃ y, Y[i]? = some y := ⟨Y[i], List.getElem?_eq_getElem (by omega)⟩
   have ym := List.mem_of_getElem? hy
   have ok : PrOk (rws Z) i y.2.1 y.2.2.2 := by
     refine pap_ok (p := (y.2.1, y.2.2.2)) hq (by rw [lz]; exact he) (by rw [lz]; exact hB) (by rw [lz]; exact hi6) ?_
     rw [← hv, List.getElem?_map, hy]
     rfl
   obtain ⟨yt, yl⟩ := hY.same e1 y ym
   have ht1 := e1 _ _ ht
   have hT := SqT.of (K := K) yt
   have lrow : y.2.2.2.length = Z.length := by have := ok.len; omega
   have lrm : (y.2.2.2.map V.int).length = y.2.2.2.length := List.length_map ..
   refine ⟨_, rfl, _, rfl, .inl ⟨t, _, _, _, rfl, rfl, SqL.of ht1, at0p hy, _, _, _, _, _, rfl, .of (.tup yt), rfl, rfl, true, rfl, iteF ?_⟩⟩
   refine ⟨_, rfl, _, rfl, .inl ⟨t, _, _, _, rfl, rfl, SqL.of ht1, at0p hy, y.1, _, rfl, .inr hT, rfl, _, rfl, ndecF rfl ?_⟩⟩
   refine ⟨_, rfl, _, rfl, .inl ⟨t, _, _, _, rfl, rfl, SqL.of ht1, at0p hy, .inr (.inl ⟨y.1, _, 0, _, rfl, rfl, hT, rfl, ?_⟩)⟩⟩
   refine ⟨_, rfl, _, rfl, .inl ⟨t, _, _, _, rfl, rfl, SqL.of ht1, at0p hy, .inr (.inl ⟨y.1, _, 1, _, rfl, rfl, hT, rfl, ?_⟩)⟩⟩
   refine ⟨_, rfl, y.2.1, rfl, true, rfl, iteF ?_⟩
   refine ⟨_, rfl, _, _, rfl, rfl, _, rfl, decF (by have := ok.pos; omega) ?_⟩
   refine ⟨_, rfl, _, _, _, _, _, rfl, .of (.lst yl), rfl, rfl, true, rfl, iteF ?_⟩
   refine ⟨_, rfl, y.2.2.1, _, rfl, .inl (SqL.of yl), _, rfl, rfl, _, rfl, ndecF (congrArg V.int (by rw [lrm, lrow])) ?_⟩
   refine ⟨_, rfl, ?_⟩
   simp only [List.set_cons_zero, List.set_cons_succ]
   refine ⟨_, rfl, y.2.2.1, rfl, ⟨_, SqL.of yl⟩, ?_⟩
   refine for_list (xs := y.2.2.2.map V.int) (fun j σ H' => ∃ (o7 : Option V), σ = [some (.ref a), some (.ref t), some (.int (Z.length : Int)), some (.int (0 + (i : Int))), some (.int y.2.1), some (.ref y.2.2.1), some (.int (N45.gL y.2.1 (y.2.2.2.take j))), o7, o8] ∧ H' = H1) ⟨_, rfl, rfl⟩ ?_ ?_ ?_
   · rintro j σ H2 hj ⟨o7, rfl, rfl⟩
     exact SqL.of yl
   · rintro j x σ H2 hx ⟨o7, rfl, rfl⟩
     obtain ⟨w, hw2, rfl⟩ := ints_at hx
     refine ⟨_, rfl, w, rfl, true, rfl, iteF ?_⟩
     refine ⟨_, rfl, _, rfl, _, _, rfl, some (.int w), ?_, rfl⟩
     rw [take_nz hw2, N45.gL_app]
     rfl
   rintro σ H2 ⟨o7, rfl, rfl⟩
   rw [lrm, List.take_length, ok.one]
   refine ⟨_, rfl, _, rfl, by omega, by omega, ?_⟩
   refine lc_range (lo := 0) (fun j ys H' => ys = ((List.range j).map fun k => if k = i then y.2.1 else 0).map V.int ∧ H' = H2) ⟨rfl, rfl⟩ (by omega) ?_ ?_ ?_
   · rintro j ys H' hj ⟨rfl, rfl⟩
     rw [List.length_map, List.length_map, List.length_range]
   · rintro j ys H' hj ⟨rfl, rfl⟩
     refine ⟨_, rfl, _, rfl, _, rfl, rfl, .inr ⟨_, rfl, _, _, rfl, rfl, ?_, ?_, rfl⟩⟩
     · exact mulN (n := 1990) (m := 1) ok.bd (by split <;> decide) (by omega) (by omega)
     · rw [List.range_succ, List.map_append, List.map_append]
       refine congrArg (fun v => _ ++ [V.int v]) ?_
       show _ = if j = i then y.2.1 else 0
       by_cases c : j = i
       · rw [if_pos c, if_pos (by rw [c]; exact decide_eq_true rfl), Int.mul_one]
       · rw [if_neg c, if_neg (by simpa using fun w => c (by omega)), Int.mul_zero]
   rintro ys H' ⟨rfl, rfl⟩ du hdu
   have hdl : ((List.range (Z.length : Int).toNat).map fun k => if k = i then y.2.1 else 0) = (List.range Z.length).map (N45.mx (rws Z) y.2.2.2) := by
     rw [Int.toNat_natCast]
     refine List.map_congr_left fun k hk => ?_
     rw [ok.mix k (by rw [lz]; exact List.mem_range.mp hk)]
   rw [hdl]
   have f := same_upd (o := .lst (((List.range Z.length).map (N45.mx (rws Z) y.2.2.2)).map V.int)) hdu
   have e2 := e1.trans f
   refine ⟨_, rfl, rfl, _, rfl, ndecF rfl ?_⟩
   refine ⟨_, rfl, _, rfl, a, y.2.2.1, Z, y.2.2.2, rfl, e2 _ _ ha, hZ.same e2, f _ _ yl, h6, lrow, hw, hbz, (fun x hx => (ok.br x hx).mono (by omega)), fun p H3 e3 hp => ?_⟩
   refine ⟨_, rfl, p, du, _, _, rfl, rfl, SqL.of hp, SqL.of (e3 _ _ upd_same), EqLs.refl (ints_pl _), _, rfl, iteF ?_⟩
   exact ⟨_, _, _, _, _, _, rfl, e2.trans e3⟩
 rintro σ H1 ⟨o3, o4, o5, o6, o7, o8, rfl, e1⟩
 exact q _ e1
theorem sc__law_mix_told : FnScope ["_law_square_here", "_law_mix_here", "_law_number"] ["_law_square_here", "_law_mix_here"] (defScope s__law_mix_told) := ⟨rfl, rfl, rfl, by decide +kernel, rfl, by decide +kernel, by decide +kernel⟩
theorem ok__law_mix_told (D : Def K mg "_law_mix_told" s__law_mix_told .none) (c__law_whole : Cal P w K mg base CX0 true 1 "_law_whole" ["_law_found"] [] spWhole) (c__law_mixed : Cal P w K mg base CX0 true 1 "_law_mixed" ["_law_square_here", "_law_row"] [] spMxd) (z_isinstance : mg "isinstance" = none) (z_list : mg "list" = none) (z_len : mg "len" = none) (z_any : mg "any" = none) : Cal P w K mg base CX0 true 2 "_law_mix_told" ["_law_square_here", "_law_mix_here"] [] spMT := by
 obtain ⟨f, fd, F, hm⟩ := D
 obtain ⟨f__law_whole, fd__law_whole, d__law_whole, G__law_whole, m__law_whole, k__law_whole, b__law_whole, v__law_whole, b__law_whole1⟩ := c__law_whole
 obtain ⟨f__law_mixed, fd__law_mixed, d__law_mixed, G__law_mixed, m__law_mixed, k__law_mixed, b__law_mixed, v__law_mixed, b__law_mixed1⟩ := c__law_mixed
 refine ⟨f, fd, _, F.ok sc__law_mix_told (fun vs H Q E h => ?_) (fun cdv A outer s H vs Q E hr h => ?_), hm, F.kp, (F.binds fun _ _ _ _ _ _ us hl => match us, hl with | [_, _], _ => rfl), .nil, F.binds fun _ _ _ _ _ _ us hl => match us, hl with | [_, _], _ => rfl⟩
 · obtain ⟨a, c, Z, r, E, rfl, ha, hZ, hS, hE, hc, hrl, hbr, hne, h0, q⟩ := h
   rfl
 obtain ⟨a, c, Z, r, E, rfl, ha, hZ, hS, hE, hc, hrl, hbr, hne, h0, q⟩ := h
 have nd := sc__law_mix_told.nd
 refine ⟨_, (pss_cons (ps_if (PW.pt (pw_or (pt_not (pt_val (pe_callB call_is rfl z_isinstance bt_isinstance (pa_cons (pv 1) (pa_cons (pe_bltn (v := .ty "list") rfl z_list bt_list rfl) pa_nil))))) (pw_or1 (pt_cmpR op_ne (pe_callB call_len_seq rfl z_len bt_len (pa_cons (pv 1) pa_nil)) (pe_callB call_len_seq rfl z_len bt_len (pa_cons (pv 0) pa_nil)) (nomark _))))) (pss_one (ps_ret pe_bl)) pss_nil)
   (pss_cons (ps_for PassesOwn.never rfl (pi_list (pv 1)) (pg_name (i := 2) nd rfl (Or.inl rfl)) (pss_one (ps_if (pt_not (pt_val (pe_call G__law_whole (hr.mono (by decide)) rfl m__law_whole k__law_whole b__law_whole Paired.nil pass0 (pa_cons (pv 2) pa_nil)))) (pss_one (ps_ret pe_bl)) pss_nil)))
   (pss_one (ps_ret (pe_and (pe_callB (call_any hr) rfl z_any bt_any (pa_cons (pe_lc [] rfl (LcOk.plain (by decide +kernel) (by decide +kernel) rfl (by decide +kernel) rfl) (pi_list (pv 1)) (fun C s2 H2 fp xe => (pe_cmpR op_ne (pv 0) pe_int (nomark _)))) pa_nil)) (pe_one (pe_cmpR (op_eqD hr) (pe_call G__law_mixed (hr.mono (by decide)) rfl m__law_mixed k__law_mixed b__law_mixed Paired.nil pass0 (pa_cons (pv 0) (pa_cons (pv 1) pa_nil))) (pe_op op_rep (pe_lst (pa_cons pe_int pa_nil)) (pe_callB call_len_seq rfl z_len bt_len (pa_cons (pv 0) pa_nil))) (nomark _)))))))), ?_⟩
 have hline : 10 ^ 6 ≤ sizeLine := by decide
 have lz : (rws Z).length = Z.length := List.length_map ..
 obtain ⟨hw, hbz⟩ := sqr_len hS
 have hbz := hbz hE
 obtain ⟨hq, h6, he⟩ := hS
 have lrm : (r.map V.int).length = r.length := List.length_map ..
 refine ⟨_, rfl, _, _, _, _, _, rfl, .of (.lst hc), rfl, rfl, true, rfl, iteF ?_⟩
 refine ⟨_, rfl, c, _, rfl, .inl (SqL.of hc), _, rfl, a, _, rfl, .inl (SqL.of ha), rfl, _, rfl, ndecF (congrArg V.int (by rw [lrm, rfz_len, hrl])) ?_⟩
 refine ⟨_, rfl, c, rfl, ⟨_, SqL.of hc⟩, ?_⟩
 refine for_list (xs := r.map V.int) (fun i σ H' => ∃ (o2 : Option V), σ = [some (.ref a), some (.ref c), o2] ∧ H' = H) ⟨_, rfl, rfl⟩ ?_ ?_ ?_
 · rintro i σ H1 hi ⟨o2, rfl, rfl⟩
   exact SqL.of hc
 · rintro i x σ H1 hx ⟨o2, rfl, rfl⟩
   obtain ⟨w, hw2, rfl⟩ := ints_at hx
   exact ⟨_, rfl, w, rfl, true, rfl, iteF ⟨_, rfl, rfl⟩⟩
 rintro σ H1 ⟨o2, rfl, rfl⟩
 refine ⟨_, rfl, c, rfl, ⟨_, SqL.of hc⟩, ?_⟩
 refine lc_list (xs := r.map V.int) (fun i ys H' => ys = ((r.take i).map fun x => !decide (V.int x = V.int 0)).map V.bl ∧ H' = H1) ⟨rfl, rfl⟩ (by omega) ?_ ?_ ?_
 · rintro i ys H' hi ⟨rfl, rfl⟩
   refine ⟨SqL.of hc, ?_⟩
   rw [List.length_map, List.length_map, List.length_take]
   omega
 · rintro i x ys H' hx ⟨rfl, rfl⟩
   obtain ⟨w, hw2, rfl⟩ := ints_at hx
   refine ⟨_, rfl, rfl, ?_, rfl⟩
   rw [take_nz hw2, List.map_append, List.map_append]
   rfl
 rintro ys H' ⟨rfl, rfl⟩ l hl
 rw [lrm, List.take_length]
 have f := same_upd (o := .lst ((r.map fun x => !decide (V.int x = V.int 0)).map V.bl)) hl
 refine ⟨l, _, rfl, SqL.of upd_same, ?_⟩
 have hany : ((r.map fun x => !decide (V.int x = V.int 0)).any id) = true := by
   obtain ⟨j, hj, hj0⟩ := hne
   rw [List.any_eq_true]
   refine ⟨true, List.mem_map.mpr ⟨N45.gt r j, N45.gt_mem (by omega), ?_⟩, rfl⟩
   rw [decide_eq_false (fun w => hj0 (V.int.inj w))]
   rfl
 rw [hany]
 refine ⟨true, rfl, iteT ?_⟩
 refine ⟨_, rfl, _, rfl, a, c, Z, r, rfl, f _ _ ha, hZ.same f, f _ _ hc, h6, hrl, hw, hbz, (fun x hx => (hbr x hx).mono (by omega)), fun p H2 e2 hp => ?_⟩
 have hz0 : (List.range Z.length).map (N45.mx (rws Z) r) = (List.range Z.length).map fun _ => (0 : Int) := List.map_congr_left fun k hk => h0 k (List.mem_range.mp hk)
 rw [hz0] at hp
 have e3 := f.trans e2
 refine ⟨(by show 1 ≤ sizeLine; decide), fun l1 hl1 => ?_⟩
 have f1 := same_upd (o := .lst [.int 0]) hl1
 have e4 := e3.trans f1
 refine ⟨_, rfl, a, _, rfl, .inl (SqL.of (e4 _ _ ha)), l1, _, _, rfl, rfl, upd_same, ?_⟩
 rw [rfz_len]
 refine ⟨by omega, by omega, by show 1 * _ ≤ _; omega, fun l2 hl2 => ?_⟩
 rw [uni_zero]
 have f2 := same_upd (o := .lst (((List.range Z.length).map fun _ => (0 : Int)).map V.int)) hl2
 exact ⟨p, l2, _, _, rfl, rfl, SqL.of (f2 _ _ (f1 _ _ hp)), SqL.of upd_same, EqLs.refl (ints_pl _), q _ (e4.trans f2)⟩
def spMxdH (x0 : Addr) : Sp := fun vs H Q _ => ∃ (a c : Addr) (Z : List Lz) (r : List Int), vs = [.ref a, .ref c] ∧ H a = some (.lst (rfz Z)) ∧ LL H Z ∧ H c = some (.lst (r.map V.int)) ∧ Z.length ≤ 6 ∧ r.length = Z.length ∧ (∀ z ∈ Z, z.2.length = Z.length) ∧ (∀ z ∈ Z, ∀ x ∈ z.2, N45.Bt 4000 x) ∧ (∀ x ∈ r, N45.Bt 4000 x) ∧ (∃ C dx, H x0 = some (excO x0 C dx)) ∧
 ∀ p H', Same H H' → H' p = some (.lst (((List.range Z.length).map (N45.mx (rws Z) r)).map V.int)) → Q (.ref p) H'
def spMTH (x0 : Addr) : Sp := fun vs H Q _ => ∃ (a c : Addr) (Z : List Lz) (r : List Int) (E : Nat), vs = [.ref a, .ref c] ∧ H a = some (.lst (rfz Z)) ∧ LL H Z ∧ Sqr Z E ∧ E ≤ 1990 ∧ H c = some (.lst (r.map V.int)) ∧ r.length = Z.length ∧ (∀ x ∈ r, N45.Bt 1990 x) ∧ (∃ j, j < Z.length ∧ N45.gt r j ≠ 0) ∧ (∀ j < Z.length, N45.mx (rws Z) r j = 0) ∧ (∃ C dx, H x0 = some (excO x0 C dx)) ∧ ∀ H', Same H H' → Q (.bl true) H'
theorem okH__law_mixed (D : Def K mg "_law_mixed" s__law_mixed .none) (z_range : mg "range" = none) (z_len : mg "len" = none) (z_sum : mg "sum" = none) : CalH P w K mg base 1 "_law_mixed" ["_law_square_here", "_law_row"] spMxdH := by
 obtain ⟨f, fd, F, hm⟩ := D
 refine ⟨f, fd, fun x0 => F.okH sc__law_mixed (fun vs H Q E h => ?_) (fun cdv A outer s H vs Q E hh hr h => ?_), hm, F.kp, (F.binds fun _ _ _ _ _ _ us hl => match us, hl with | [_, _], _ => rfl)⟩
 · obtain ⟨a, c, Z, r, rfl, ha, hZ, hc, h6, hrl, hw, hb, hbr, ⟨cx, dxx, hxx⟩, q⟩ := h
   rfl
 · obtain ⟨a, c, Z, r, rfl, ha, hZ, hc, h6, hrl, hw, hb, hbr, ⟨cx, dxx, hxx⟩, q⟩ := h
   have nd := sc__law_mixed.nd
   refine ⟨_, (pss_one (ps_ret (pe_lcNQ x0 [1, 0] hh (LcOkN.free ["_law_square_here", "_law_row"] rfl rfl (List.forall_mem_cons.mpr ⟨rfl, (List.forall_mem_cons.mpr ⟨rfl, (fun _ h => nomatch h)⟩)⟩) rfl (fun _ _ => rfl) (fun _ => rfl) (by decide +kernel) rfl (by decide +kernel) (show (["_law_at", "_law_row", "_law_square_here"] : List Str).Nodup from by decide +kernel) (List.forall_mem_cons.mpr ⟨⟨_, rfl, rfl, rfl, by decide +kernel⟩, (List.forall_mem_cons.mpr ⟨⟨_, rfl, rfl, rfl, by decide +kernel⟩, (fun _ h => nomatch h)⟩)⟩)) (pi_range1Q x0 rfl z_range (pa_cons (pe_callB call_len_seq rfl z_len bt_len (pa_cons (pv 0) pa_nil)) pa_nil)) (fun C E s2 H2 fp xe => (pe_callB (call_sumNQ hh) rfl z_sum bt_sum (pa_cons (pe_lcQ x0 [1, 0, 2] hh (LcOk.free ["_law_square_here", "_law_row", "_law_at"] rfl rfl (List.forall_mem_cons.mpr ⟨rfl, (List.forall_mem_cons.mpr ⟨rfl, (List.forall_mem_cons.mpr ⟨rfl, (fun _ h => nomatch h)⟩)⟩)⟩) (by decide +kernel) rfl (by decide +kernel) rfl (by decide +kernel) (show (["_law_k", "_law_row", "_law_at", "_law_square_here"] : List Str).Nodup from by decide +kernel) (List.forall_mem_cons.mpr ⟨⟨"_law_row", rfl, rfl, rfl, by decide +kernel⟩, (List.forall_mem_cons.mpr ⟨⟨"_law_at", rfl, rfl, rfl, by decide +kernel⟩, (List.forall_mem_cons.mpr ⟨⟨"_law_square_here", rfl, rfl, rfl, by decide +kernel⟩, (fun _ h => nomatch h)⟩)⟩)⟩)) (pi_range1Q x0 rfl z_range (pa_cons (pe_callB call_lenN rfl z_len bt_len (pa_cons (pv 2) pa_nil)) pa_nil)) (fun C s2 H2 fp xe => (pe_op op_mulB (pe_ix ix_seqNC (pv 1) (pv 0) (fun _ _ => rfl)) (pe_ix ix_seqNC (pe_ix ix_seqNC (pv 3) (pv 0) (fun _ _ => rfl)) (pv 2) (fun _ _ => rfl))))) pa_nil)))))), ?_⟩
   have hline : 10 ^ 6 ≤ sizeLine := by decide
   have lz : (rws Z).length = Z.length := List.length_map ..
   refine ⟨_, rfl, a, _, rfl, .inl (SqL.of ha), _, rfl, ?_⟩
   rw [rfz_len]
   refine ⟨by omega, by omega, ?_⟩
   refine lc_rangeQ (x0 := x0) (lo := 0) (fun i ys H' => ys = ((List.range i).map (N45.mx (rws Z) r)).map V.int ∧ Same H H') ⟨rfl, same_refl _⟩ (by omega) ?_ (fun i ys H' h => ⟨_, _, h.2 _ _ hxx⟩) ?_ ?_
   · rintro i ys H' hi ⟨rfl, e⟩
     rw [List.length_map, List.length_map, List.length_range]
   · rintro i ys H' hi ⟨rfl, e⟩
     have hi6 : i < Z.length := by omega
     refine ⟨_, rfl, a, _, rfl, .inl (SqL.of (e _ _ ha)), _, rfl, ?_⟩
     rw [rfz_len]
     refine ⟨by omega, by omega, ?_⟩
     refine lc_rangeQ (x0 := x0) (lo := 0) (fun k zs H2 => zs = ((List.range k).map fun k => N45.gt r k * N45.gt ((rws Z).getD k []) i).map V.int ∧ H2 = H') ⟨rfl, rfl⟩ (by omega) ?_ (fun k zs H2 h => by rw [h.2]; exact ⟨_, _, e _ _ hxx⟩) ?_ ?_
     · rintro k zs H2 hk ⟨rfl, rfl⟩
       rw [List.length_map, List.length_map, List.length_range]
     · rintro k zs H2 hk ⟨rfl, rfl⟩
       have hk6 : k < Z.length := by omega
       have hz : Z[k]? = some Z[k] := List.getElem?_eq_getElem hk6
       have zm : Z[k] ∈ Z := List.getElem_mem _
       refine ⟨_, rfl, _, rfl, .inl ⟨c, _, _, _, rfl, rfl, SqL.of (e _ _ hc), at0 (by omega), ?_⟩⟩
       refine ⟨_, rfl, _, rfl, .inl ⟨a, _, _, _, rfl, rfl, SqL.of (e _ _ ha), at0z hz, ?_⟩⟩
       refine ⟨_, rfl, .inl ⟨Z[k].1, _, _, _, rfl, rfl, SqL.of (e _ _ (hZ _ zm)), at0 (by rw [hw _ zm]; exact hi6), ?_⟩⟩
       refine ⟨_, _, rfl, rfl, mulN (N45.bt_gt hbr k) (N45.bt_gt (hb _ zm) i) (by omega) (by omega), ?_, rfl⟩
       rw [List.range_succ, List.map_append, List.map_append, ← rws_at hz]
       rfl
     rintro zs H2 ⟨rfl, rfl⟩ l hl
     have f := same_upd (o := .lst (((List.range ((Z.length : Int) - 0).toNat).map fun k => N45.gt r k * N45.gt ((rws Z).getD k []) i).map V.int)) hl
     refine ⟨l, _, rfl, SqL.of upd_same, ⟨_, _, (e.trans f) _ _ hxx⟩, ?_, e.trans f⟩
     rw [List.range_succ, List.map_append, List.map_append]
     refine congrArg (fun v => _ ++ [V.int v]) ?_
     rw [N45.sm_sum]
     unfold N45.mx
     rw [lz]
     refine congrArg (fun n => N45.sm n _) ?_
     omega
   rintro ys H' ⟨rfl, e⟩ l hl
   have f := same_upd (o := .lst (((List.range ((Z.length : Int) - 0).toNat).map (N45.mx (rws Z) r)).map V.int)) hl
   refine q l _ (e.trans f) ?_
   rw [upd_same, Int.toNat_natCast]
theorem okH__law_mix_told (D : Def K mg "_law_mix_told" s__law_mix_told .none) (c__law_wholeF : Cal P w K mg base CX0 false 1 "_law_whole" ["_law_found"] [] spWhole) (c__law_mixedH : CalH P w K mg base 1 "_law_mixed" ["_law_square_here", "_law_row"] spMxdH) (z_isinstance : mg "isinstance" = none) (z_list : mg "list" = none) (z_len : mg "len" = none) (z_any : mg "any" = none) : CalH P w K mg base 2 "_law_mix_told" ["_law_square_here", "_law_mix_here"] spMTH := by
 obtain ⟨f, fd, F, hm⟩ := D
 obtain ⟨f__law_wholeF, fd__law_wholeF, d__law_wholeF, G__law_wholeF, m__law_wholeF, k__law_wholeF, b__law_wholeF, v__law_wholeF, b__law_wholeF1⟩ := c__law_wholeF
 obtain ⟨f__law_mixedH, fd__law_mixedH, G__law_mixedH, m__law_mixedH, k__law_mixedH, b__law_mixedH⟩ := c__law_mixedH
 refine ⟨f, fd, fun x0 => F.okH sc__law_mix_told (fun vs H Q E h => ?_) (fun cdv A outer s H vs Q E hh hr h => ?_), hm, F.kp, (F.binds fun _ _ _ _ _ _ us hl => match us, hl with | [_, _], _ => rfl)⟩
 · obtain ⟨a, c, Z, r, E, rfl, ha, hZ, hS, hE, hc, hrl, hbr, hne, h0, ⟨cx, dxx, hxx⟩, q⟩ := h
   rfl
 · obtain ⟨a, c, Z, r, E, rfl, ha, hZ, hS, hE, hc, hrl, hbr, hne, h0, ⟨cx, dxx, hxx⟩, q⟩ := h
   have nd := sc__law_mix_told.nd
   refine ⟨_, (pss_cons (ps_if (PW.pt (pw_or (pt_not (pt_val (pe_callB call_is rfl z_isinstance bt_isinstance (pa_cons (pv 1) (pa_cons (pe_bltn (v := .ty "list") rfl z_list bt_list rfl) pa_nil))))) (pw_or1 (pt_cmpR op_ne (pe_callB call_len_seq rfl z_len bt_len (pa_cons (pv 1) pa_nil)) (pe_callB call_len_seq rfl z_len bt_len (pa_cons (pv 0) pa_nil)) (nomark _))))) (pss_one (ps_ret pe_bl)) pss_nil)
     (pss_cons (ps_forQ x0 PassesOwn.never hh (pi_listQ x0 (pv 1)) (pg_name (i := 2) nd rfl (Or.inl rfl)) (pss_one (ps_if (pt_not (pt_val (pe_call G__law_wholeF (hr.mono (by decide)) rfl m__law_wholeF k__law_wholeF b__law_wholeF Paired.nil pass0 (pa_cons (pv 2) pa_nil)))) (pss_one (ps_ret pe_bl)) pss_nil)))
     (pss_one (ps_ret (pe_and (pe_callB (call_anyQ hh) rfl z_any bt_any (pa_cons (pe_lcQ x0 [] hh (LcOk.plain (by decide +kernel) (by decide +kernel) rfl (by decide +kernel) rfl) (pi_listQ x0 (pv 1)) (fun C s2 H2 fp xe => (pe_cmpR op_ne (pv 0) pe_int (nomark _)))) pa_nil)) (pe_one (pe_cmpR (op_eqD hr) (pe_callH (G__law_mixedH x0) hh (hr.mono (by decide)) rfl m__law_mixedH k__law_mixedH b__law_mixedH pass0 (pa_cons (pv 0) (pa_cons (pv 1) pa_nil))) (pe_op op_rep (pe_lst (pa_cons pe_int pa_nil)) (pe_callB call_len_seq rfl z_len bt_len (pa_cons (pv 0) pa_nil))) (nomark _)))))))), ?_⟩
   have hline : 10 ^ 6 ≤ sizeLine := by decide
   have lz : (rws Z).length = Z.length := List.length_map ..
   obtain ⟨hw, hbz⟩ := sqr_len hS
   have hbz := hbz hE
   obtain ⟨hq, h6, he⟩ := hS
   have lrm : (r.map V.int).length = r.length := List.length_map ..
   refine ⟨_, rfl, _, _, _, _, _, rfl, .of (.lst hc), rfl, rfl, true, rfl, iteF ?_⟩
   refine ⟨_, rfl, c, _, rfl, .inl (SqL.of hc), _, rfl, a, _, rfl, .inl (SqL.of ha), rfl, _, rfl, ndecF (congrArg V.int (by rw [lrm, rfz_len, hrl])) ?_⟩
   refine ⟨_, rfl, c, rfl, ⟨_, SqL.of hc⟩, ?_⟩
   refine for_listQ (x0 := x0) (xs := r.map V.int) (fun i σ H' => ∃ (o2 : Option V), σ = [some (.ref a), some (.ref c), o2] ∧ H' = H) ⟨_, rfl, rfl⟩ ?_ (fun i σ H' h => by obtain ⟨_, _, e⟩ := h; rw [e]; exact ⟨_, _, hxx⟩) ?_ ?_
   · rintro i σ H1 hi ⟨o2, rfl, rfl⟩
     exact SqL.of hc
   · rintro i x σ H1 hx ⟨o2, rfl, rfl⟩
     obtain ⟨w, hw2, rfl⟩ := ints_at hx
     exact ⟨_, rfl, w, rfl, true, rfl, iteF ⟨_, rfl, rfl⟩⟩
   rintro σ H1 ⟨o2, rfl, rfl⟩
   refine ⟨_, rfl, c, rfl, ⟨_, SqL.of hc⟩, ?_⟩
   refine lc_listQ (x0 := x0) (xs := r.map V.int) (fun i ys H' => ys = ((r.take i).map fun x => !decide (V.int x = V.int 0)).map V.bl ∧ H' = H1) ⟨rfl, rfl⟩ (by omega) ?_ (fun i ys H' h => by rw [h.2]; exact ⟨_, _, hxx⟩) ?_ ?_
   · rintro i ys H' hi ⟨rfl, rfl⟩
     refine ⟨SqL.of hc, ?_⟩
     rw [List.length_map, List.length_map, List.length_take]
     omega
   · rintro i x ys H' hx ⟨rfl, rfl⟩
     obtain ⟨w, hw2, rfl⟩ := ints_at hx
     refine ⟨_, rfl, rfl, ?_, rfl⟩
     rw [take_nz hw2, List.map_append, List.map_append]
     rfl
   rintro ys H' ⟨rfl, rfl⟩ l hl
   rw [lrm, List.take_length]
   have f := same_upd (o := .lst ((r.map fun x => !decide (V.int x = V.int 0)).map V.bl)) hl
   refine ⟨l, _, rfl, SqL.of upd_same, ⟨_, _, f _ _ hxx⟩, ?_⟩
   have hany : ((r.map fun x => !decide (V.int x = V.int 0)).any id) = true := by
     obtain ⟨j, hj, hj0⟩ := hne
     rw [List.any_eq_true]
     refine ⟨true, List.mem_map.mpr ⟨N45.gt r j, N45.gt_mem (by omega), ?_⟩, rfl⟩
     rw [decide_eq_false (fun w => hj0 (V.int.inj w))]
     rfl
   rw [hany]
   refine ⟨true, rfl, iteT ?_⟩
   refine ⟨_, rfl, _, rfl, a, c, Z, r, rfl, f _ _ ha, hZ.same f, f _ _ hc, h6, hrl, hw, hbz, (fun x hx => (hbr x hx).mono (by omega)), ⟨_, _, f _ _ hxx⟩, fun p H2 e2 hp => ?_⟩
   have hz0 : (List.range Z.length).map (N45.mx (rws Z) r) = (List.range Z.length).map fun _ => (0 : Int) := List.map_congr_left fun k hk => h0 k (List.mem_range.mp hk)
   rw [hz0] at hp
   have e3 := f.trans e2
   refine ⟨(by show 1 ≤ sizeLine; decide), fun l1 hl1 => ?_⟩
   have f1 := same_upd (o := .lst [.int 0]) hl1
   have e4 := e3.trans f1
   refine ⟨_, rfl, a, _, rfl, .inl (SqL.of (e4 _ _ ha)), l1, _, _, rfl, rfl, upd_same, ?_⟩
   rw [rfz_len]
   refine ⟨by omega, by omega, by show 1 * _ ≤ _; omega, fun l2 hl2 => ?_⟩
   rw [uni_zero]
   have f2 := same_upd (o := .lst (((List.range Z.length).map fun _ => (0 : Int)).map V.int)) hl2
   exact ⟨p, l2, _, _, rfl, rfl, SqL.of (f2 _ _ (f1 _ _ hp)), SqL.of upd_same, EqLs.refl (ints_pl _), q _ (e4.trans f2)⟩
theorem pe_fldXS {X : Cx} {x : Addr} {e : Expr} {f : Str} {pos : Pos} {ta : TE} (he : PE (sup X x) e ta) (hb : attributeBase e f (sup X x).env (eval e (sup X x).env) = eval e (sup X x).env) : PE (sup X x) (.Attribute e f pos) (tFldX X.K ta f) := pe_fldX (X := sup X x) he hb
theorem sqr_eq {Y Z : List Lz} {E : Nat} (h : rws Y = rws Z) (hS : Sqr Z E) : Sqr Y E ∧ Y.length = Z.length := by
 have hl : Y.length = Z.length := by
   have := congrArg List.length h
   rw [List.length_map, List.length_map] at this
   exact this
 refine ⟨⟨by rw [h]; exact hS.1, by rw [hl]; exact hS.2.1, by rw [hl]; exact hS.2.2⟩, hl⟩
def spMA (C : Addr) : Sp := fun vs H Q _ => ∃ (a h : Addr) (Z Y : List Lz) (E : Nat) (r : List Int) (B : List (List Int)), vs = [.ref a, .ref h] ∧ H a = some (.lst (rfz Z)) ∧ LL H Z ∧ Sqr Z E ∧ E ≤ 1990 ∧ H h = some (.lst (rfz Y)) ∧ LL H Y ∧ rws Y = rws Z ∧ (N45.trn (rws Z) Z.length).2 = r :: B ∧ ∀ H', Same H H' → Q (.bl true) H'
def spBB (C : Addr) : Sp := fun vs H Q _ => ∃ (h : Addr) (Y : List Lz) (E : Nat) (r : List Int) (B : List (List Int)), vs = [.ref h] ∧ H h = some (.lst (rfz Y)) ∧ LL H Y ∧ Sqr Y E ∧ (N45.trn (rws Y) Y.length).2 = r :: B ∧ ∀ H', Same H H' → Q (.bl true) H'
theorem mix_ok {Z : List Lz} {E : Nat} {r : List Int} {B : List (List Int)} (hS : Sqr Z E) (hB : (N45.trn (rws Z) Z.length).2 = r :: B) : (r.drop Z.length).length = Z.length ∧ (∀ x ∈ r.drop Z.length, N45.Bt 1990 x) ∧ (∃ j, j < Z.length ∧ N45.gt (r.drop Z.length) j ≠ 0) ∧ ∀ j < Z.length, N45.mx (rws Z) (r.drop Z.length) j = 0 := by
 have lz : (rws Z).length = Z.length := List.length_map ..
 have h := N45.trn_mix hS.1 (r := r) (B := B) (by rw [lz]; exact hB)
 rw [lz] at h
 obtain ⟨h1, h2, h3, h4⟩ := h
 exact ⟨by rw [List.length_drop]; omega, fun x hx => (h2 x (List.mem_of_mem_drop hx)).mono hS.2.2, h3, h4⟩
theorem eqP_ll {K : PySem.W.Frag} {H : Hp} {Y Z : List Lz} (hY : LL H Y) (hZ : LL H Z) (h : rws Y = rws Z) : ∀ (j : Nat) x y, (rfz Y)[j]? = some x → (rfz Z)[j]? = some y → eqP K H x y := fun j x y h1 h2 => by
 obtain ⟨z1, m1, rfl⟩ := rfz_at h1
 obtain ⟨z2, m2, rfl⟩ := rfz_at h2
 have e : z1.2 = z2.2 := by
   have := congrArg (fun l => l[j]?) h
   simp only [List.getElem?_map, m1, m2] at this
   exact Option.some.inj this
 exact ⟨z1.1, z2.1, z1.2.map V.int, rfl, rfl, SqL.of (hY z1 (List.mem_of_getElem? m1)), SqL.of (by rw [e]; exact hZ z2 (List.mem_of_getElem? m2)), ints_pl _⟩
theorem eqTu_pp {K : PySem.W.Frag} {H : Hp} {Y Z : List Pr} (hY : PP H Y) (hZ : PP H Z) (h : prs Y = prs Z) : (rfp Y).length = (rfp Z).length ∧ ∀ (j : Nat) x y, (rfp Y)[j]? = some x → (rfp Z)[j]? = some y → eqTu K H x y := by
 refine ⟨by rw [rfp_len, rfp_len]; have := congrArg List.length h; rw [List.length_map, List.length_map] at this; exact this, fun j x y h1 h2 => ?_⟩
 obtain ⟨z1, m1, rfl⟩ := rfp_at h1
 obtain ⟨z2, m2, rfl⟩ := rfp_at h2
 have e : (z1.2.1, z1.2.2.2) = (z2.2.1, z2.2.2.2) := by
   have := congrArg (fun l => l[j]?) h
   simp only [List.getElem?_map, m1, m2] at this
   exact Option.some.inj this
 obtain ⟨e1, e2⟩ := Prod.mk.inj e
 obtain ⟨t1, l1⟩ := hY z1 (List.mem_of_getElem? m1)
 obtain ⟨t2, l2⟩ := hZ z2 (List.mem_of_getElem? m2)
 refine ⟨z1.1, z2.1, _, _, rfl, rfl, SqT.of t1, SqT.of t2, rfl, fun k u v hu hv => ?_⟩
 rcases k with _ | _ | k
 · cases hu
   cases hv
   exact .inl (.inl ⟨by rw [e1], rfl⟩)
 · cases hu
   cases hv
   exact .inr ⟨z1.2.2.1, z2.2.2.1, _, _, rfl, rfl, SqL.of l1, SqL.of l2, by rw [e2]; exact EqLs.refl (ints_pl _)⟩
 · simp at hu
theorem sc__law_mix_again : FnScope ["_law_square_here", "_law_handed", "_law_good", "e"] ["_law_square_here", "_law_handed"] (defScope s__law_mix_again) := ⟨rfl, rfl, rfl, by decide +kernel, rfl, by decide +kernel, by decide +kernel⟩
theorem ok__law_mix_again (D : Def K mg "_law_mix_again" s__law_mix_again .none) {C_Singular : Addr} (c_paper_of : Cal P w K mg base (CX1 P w) true 5 "paper_of" ["square"] [] (spPaper C_Singular)) (c__law_mix_toldH : CalH P w K mg base 2 "_law_mix_told" ["_law_square_here", "_law_mix_here"] spMTH) (m_Singular : mg "Singular" = some (.ref C_Singular)) (X_Singular : XCls K C_Singular) (q_ms : PySem.W.exmOne K (.ref C_Singular) (.ref C_Singular) = some true) (n_mix : NoAttr K C_Singular "mix") : Cal P w K mg base CX0 true 6 "_law_mix_again" ["_law_square_here", "_law_handed"] [] (spMA C_Singular) := by
 obtain ⟨f, fd, F, hm⟩ := D
 obtain ⟨f_paper_of, fd_paper_of, d_paper_of, G_paper_of, m_paper_of, k_paper_of, b_paper_of, v_paper_of, b_paper_of1⟩ := c_paper_of
 obtain ⟨f__law_mix_toldH, fd__law_mix_toldH, G__law_mix_toldH, m__law_mix_toldH, k__law_mix_toldH, b__law_mix_toldH⟩ := c__law_mix_toldH
 refine ⟨f, fd, _, F.ok sc__law_mix_again (fun vs H Q E h => ?_) (fun cdv A outer s H vs Q E hr h => ?_), hm, F.kp, (F.binds fun _ _ _ _ _ _ us hl => match us, hl with | [_, _], _ => rfl), .nil, F.binds fun _ _ _ _ _ _ us hl => match us, hl with | [_, _], _ => rfl⟩
 · obtain ⟨a, h, Z, Y, E, r, B, rfl, ha, hZ, hS, hE, hh, hY, hYZ, hB, q⟩ := h
   rfl
 obtain ⟨a, h, Z, Y, E, r, B, rfl, ha, hZ, hS, hE, hh, hY, hYZ, hB, q⟩ := h
 have nd := sc__law_mix_again.nd
 refine ⟨_, (pss_cons (ps_set (i := 2) nd rfl (Or.inl rfl) pe_bl)
   (pss_cons (ps_tryQ (i := 3) nd rfl rfl rfl rfl rfl m_Singular (fun pn E' R Ek hpo hxe => (pss_one (ps_expr (pe_callR G_paper_of (hr.mono (by decide)) rfl m_paper_of k_paper_of b_paper_of Paired.nil hxe (pa_cons (pv 1) pa_nil))))) (fun x0 => (pss_one (ps_set (i := 2) nd rfl (Or.inl rfl) (pe_callH (G__law_mix_toldH x0) rfl (Room.sup (hr.mono (by decide)) _) rfl m__law_mix_toldH k__law_mix_toldH b__law_mix_toldH pass0 (pa_cons (pv 0) (pa_cons (pe_fldXS (pv 3) rfl) pa_nil)))))))
   (pss_one (ps_ret (pv 2))))), ?_⟩
 obtain ⟨hSY, hl⟩ := sqr_eq hYZ hS
 have lz : (rws Z).length = Z.length := List.length_map ..
 refine ⟨_, rfl, rfl, h, Y, E, rfl, hh, hY, hSY, (fun hn => ?_), fun r2 B2 hB2 d l H1 e1 hl0 hd hl1 => ⟨q_ms, fun x hx => ?_⟩⟩
 · rw [hYZ, hl, hB] at hn
   cases hn
 · rw [hYZ, hl, hB] at hB2
   obtain ⟨rfl, rfl⟩ := List.cons.inj hB2
   rw [hl] at hl1
   have nx : d ≠ x := ne_of_none hd hx
   have fx := same_upd (o := excO x (.ref C_Singular) (some d)) hx
   have e2 := e1.trans fx
   obtain ⟨m1, m2, m3, m4⟩ := mix_ok hS hB
   refine ⟨_, rfl, _, rfl, x, C_Singular, d, _, _, rfl, upd_same, (by rw [upd_ne nx]; exact hd), X_Singular, n_mix, fM_mix _, a, l, Z, r.drop Z.length, E, rfl, e2 _ _ ha, hZ.same e2, hS, hE, fx _ _ hl1, m1, m2, m3, m4, ⟨_, _, upd_same⟩, fun H2 e3 => ?_⟩
   exact ⟨_, rfl, q _ (e2.trans e3)⟩
theorem sc__law_by_base : FnScope ["_law_square_here", "_law_good", "e"] ["_law_square_here"] (defScope s__law_by_base) := ⟨rfl, rfl, rfl, by decide +kernel, rfl, by decide +kernel, by decide +kernel⟩
theorem ok__law_by_base (D : Def K mg "_law_by_base" s__law_by_base .none) {C_BooksError C_NoNumber C_Ringed C_Singular : Addr} (c_paper_of : Cal P w K mg base (CX1 P w) true 5 "paper_of" ["square"] [] (spPaper C_Singular)) (z_isinstance : mg "isinstance" = none) (z_ValueError : mg "ValueError" = none) (m_BooksError : mg "BooksError" = some (.ref C_BooksError)) (m_Singular : mg "Singular" = some (.ref C_Singular)) (m_Ringed : mg "Ringed" = some (.ref C_Ringed)) (m_NoNumber : mg "NoNumber" = some (.ref C_NoNumber)) (X_Singular : XCls K C_Singular) (q_mb : PySem.W.exmOne K (.ref C_Singular) (.ref C_BooksError) = some true) (q_sv : PySem.W.kitOne K (.ref C_Singular) (.type "ValueError") = some true) (q_sSingular : PySem.W.kitOne K (.ref C_Singular) (.ref C_Singular) = some true) (q_sRinged : PySem.W.kitOne K (.ref C_Singular) (.ref C_Ringed) = some false) (q_sNoNumber : PySem.W.kitOne K (.ref C_Singular) (.ref C_NoNumber) = some false) : Cal P w K mg base CX0 true 6 "_law_by_base" ["_law_square_here"] [] (spBB C_Singular) := by
 obtain ⟨f, fd, F, hm⟩ := D
 obtain ⟨f_paper_of, fd_paper_of, d_paper_of, G_paper_of, m_paper_of, k_paper_of, b_paper_of, v_paper_of, b_paper_of1⟩ := c_paper_of
 refine ⟨f, fd, _, F.ok sc__law_by_base (fun vs H Q E h => ?_) (fun cdv A outer s H vs Q E hr h => ?_), hm, F.kp, (F.binds fun _ _ _ _ _ _ us hl => match us, hl with | [_], _ => rfl), .nil, F.binds fun _ _ _ _ _ _ us hl => match us, hl with | [_], _ => rfl⟩
 · obtain ⟨h, Y, E, r, B, rfl, hh, hY, hS, hB, q⟩ := h
   rfl
 obtain ⟨h, Y, E, r, B, rfl, hh, hY, hS, hB, q⟩ := h
 have nd := sc__law_by_base.nd
 refine ⟨_, (pss_cons (ps_set (i := 1) nd rfl (Or.inl rfl) pe_bl)
   (pss_cons (ps_try (i := 2) nd rfl rfl rfl rfl rfl m_BooksError (fun pn E' R Ek hpo hxe => (pss_one (ps_expr (pe_callR G_paper_of (hr.mono (by decide)) rfl m_paper_of k_paper_of b_paper_of Paired.nil hxe (pa_cons (pv 0) pa_nil))))) (fun _ => (pss_cons (ps_set (i := 1) nd rfl (Or.inl rfl) (pe_and (pe_callB call_isS rfl z_isinstance bt_isinstance (pa_cons (pv 2) (pa_cons (pe_bltn (v := .ty "ValueError") rfl z_ValueError bt_ValueError rfl) pa_nil))) (pe_one (pe_callB call_isS rfl z_isinstance bt_isinstance (pa_cons (pv 2) (pa_cons (pe_glob (v := .ref C_Singular) rfl m_Singular rfl) pa_nil))))))
   (pss_one (ps_set (i := 1) nd rfl (Or.inl rfl) (pe_and (pv 1) (pe_and (pe_not (pe_callB call_isS rfl z_isinstance bt_isinstance (pa_cons (pv 2) (pa_cons (pe_glob (v := .ref C_Ringed) rfl m_Ringed rfl) pa_nil)))) (pe_one (pe_not (pe_callB call_isS rfl z_isinstance bt_isinstance (pa_cons (pv 2) (pa_cons (pe_glob (v := .ref C_NoNumber) rfl m_NoNumber rfl) pa_nil))))))))))))
   (pss_one (ps_ret (pv 1))))), ?_⟩
 refine ⟨_, rfl, rfl, h, Y, E, rfl, hh, hY, hS, (fun hn => ?_), fun r2 B2 hB2 d l H1 e1 hl0 hd hl1 => ⟨q_mb, fun x hx => ?_⟩⟩
 · rw [hB] at hn
   cases hn
 · refine ⟨_, rfl, _, _, _, _, _, rfl, .exc upd_same X_Singular, rfl, q_sv, true, rfl, iteT ?_⟩
   refine ⟨_, rfl, _, _, _, _, _, rfl, .exc upd_same X_Singular, rfl, q_sSingular, ?_⟩
   refine ⟨_, rfl, true, rfl, iteT ?_⟩
   refine ⟨_, rfl, _, _, _, _, _, rfl, .exc upd_same X_Singular, rfl, q_sRinged, false, rfl, true, rfl, iteT ?_⟩
   refine ⟨_, rfl, _, _, _, _, _, rfl, .exc upd_same X_Singular, rfl, q_sNoNumber, ?_⟩
   exact ⟨false, rfl, _, rfl, q _ (e1.trans (same_upd hx))⟩
def KeepA (As : List Addr) (H H' : Hp) : Prop := (∀ b o, H b = some o → b ∉ As → H' b = some o) ∧ ∀ b ∈ As, ∃ xs, H' b = some (.lst xs)
theorem KeepA.clear {As : List Addr} {H H' : Hp} {b : Addr} (h : KeepA As H H') (hb : b ∈ As) : KeepA As H (upd H' b (.lst [])) := by
 refine ⟨fun c o hc hn => ?_, fun c hc => ?_⟩
 · rw [upd_ne (fun w => hn (by rw [w]; exact hb))]
   exact h.1 c o hc hn
 · by_cases w : c = b
   · rw [w]
     exact ⟨_, upd_same⟩
   · rw [upd_ne w]
     exact h.2 c hc
theorem ref_ne {Y : List Pr} {r : List Int} (h : Y ≠ []) (e : rfp Y = r.map V.int) : False := by
 cases Y with
 | nil => exact h rfl
 | cons y Y =>
   cases r with
   | nil => cases e
   | cons a r => cases e
theorem sc_law : FnScope ["_law_script", "_law_square_here", "_law_handed", "_law_mix_here", "_law_paper", "e", "_law_kept", "_law_row", "_law_pair", "_law_again"] ["_law_script"] (defScope s_law) := ⟨rfl, rfl, rfl, by decide +kernel, rfl, by decide +kernel, by decide +kernel⟩
theorem ok_law {f : Addr} {fd : FuncData} (F : FunD K "law" "law" s_law f fd .none) {C_Singular : Addr} (c__law_square : Cal P w K mg base CX0 true 2 "_law_square" ["_law_script"] [] (spSquare K)) (c_paper_of : Cal P w K mg base (CX1 P w) true 5 "paper_of" ["square"] [] (spPaper C_Singular)) (c__law_mix_told : Cal P w K mg base CX0 true 2 "_law_mix_told" ["_law_square_here", "_law_mix_here"] [] spMT) (c__law_mix_again : Cal P w K mg base CX0 true 6 "_law_mix_again" ["_law_square_here", "_law_handed"] [] (spMA C_Singular)) (c__law_by_base : Cal P w K mg base CX0 true 6 "_law_by_base" ["_law_square_here"] [] (spBB C_Singular)) (c__law_paper_told : Cal P w K mg base CX0 true 2 "_law_paper_told" ["_law_square_here", "_law_paper"] [] spPT) (z_list : mg "list" = none) (m_Singular : mg "Singular" = some (.ref C_Singular)) (X_Singular : XCls K C_Singular) (q_ms : PySem.W.exmOne K (.ref C_Singular) (.ref C_Singular) = some true) (n_mix : NoAttr K C_Singular "mix") : FnOk P w K mg base CX0 true 7 f fd ["_law_script"] (spLaw K) := by
 obtain ⟨f__law_square, fd__law_square, d__law_square, G__law_square, m__law_square, k__law_square, b__law_square, v__law_square, b__law_square1⟩ := c__law_square
 obtain ⟨f_paper_of, fd_paper_of, d_paper_of, G_paper_of, m_paper_of, k_paper_of, b_paper_of, v_paper_of, b_paper_of1⟩ := c_paper_of
 obtain ⟨f__law_mix_told, fd__law_mix_told, d__law_mix_told, G__law_mix_told, m__law_mix_told, k__law_mix_told, b__law_mix_told, v__law_mix_told, b__law_mix_told1⟩ := c__law_mix_told
 obtain ⟨f__law_mix_again, fd__law_mix_again, d__law_mix_again, G__law_mix_again, m__law_mix_again, k__law_mix_again, b__law_mix_again, v__law_mix_again, b__law_mix_again1⟩ := c__law_mix_again
 obtain ⟨f__law_by_base, fd__law_by_base, d__law_by_base, G__law_by_base, m__law_by_base, k__law_by_base, b__law_by_base, v__law_by_base, b__law_by_base1⟩ := c__law_by_base
 obtain ⟨f__law_paper_told, fd__law_paper_told, d__law_paper_told, G__law_paper_told, m__law_paper_told, k__law_paper_told, b__law_paper_told, v__law_paper_told, b__law_paper_told1⟩ := c__law_paper_told
 refine F.ok sc_law (fun vs H Q E h => ?_) (fun cdv A outer s H vs Q E hr h => ?_)
 · obtain ⟨a, ns, rfl, hS, hlen, hb, q⟩ := h
   rfl
 obtain ⟨a, ns, rfl, hS, hlen, hb, q⟩ := h
 have nd := sc_law.nd
 refine ⟨_, (pss_cons (ps_set (i := 1) nd rfl (Or.inl rfl) (pe_call G__law_square (hr.mono (by decide)) rfl m__law_square k__law_square b__law_square Paired.nil pass0 (pa_cons (pv 0) pa_nil)))
   (pss_cons (ps_setLC [] (i := 2) nd rfl (Or.inl rfl) rfl (LcOk.plain (by decide +kernel) (by decide +kernel) rfl (by decide +kernel) rfl) (pi_list (pv 1)) (fun C s2 H2 fp xe => (pe_callTy call_list_ofC rfl z_list bt_list (pa_cons (pv 0) pa_nil))))
   (pss_cons (ps_set (i := 3) nd rfl (Or.inl rfl) pe_non)
   (pss_cons (ps_set (i := 4) nd rfl (Or.inl rfl) pe_non)
   (pss_cons (ps_try (i := 5) nd rfl rfl rfl rfl rfl m_Singular (fun pn E' R Ek hpo hxe => (pss_one (ps_set (i := 4) nd rfl (Or.inl rfl) (pe_callR G_paper_of (hr.mono (by decide)) rfl m_paper_of k_paper_of b_paper_of Paired.nil hxe (pa_cons (pv 2) pa_nil))))) (fun _ => (pss_one (ps_set (i := 3) nd rfl (Or.inl rfl) (pe_lst (pa_cons (pe_fldXS (pv 5) rfl) pa_nil))))))
   (pss_cons (ps_if (pt_cmpR (op_neP hr) (pv 2) (pv 1) (nomark _)) (pss_one (ps_ret pe_bl)) pss_nil)
   (pss_cons (ps_if (pt_cmpR op_notN (pv 3) pe_non (nomark _)) (pss_cons (ps_if (pt_not (pt_val (pe_call G__law_mix_told (hr.mono (by decide)) rfl m__law_mix_told k__law_mix_told b__law_mix_told Paired.nil pass0 (pa_cons (pv 1) (pa_cons (pe_ix ix_seq (pv 3) pe_int (fun _ _ => rfl)) pa_nil))))) (pss_one (ps_ret pe_bl)) pss_nil)
   (pss_cons (ps_expr (pe_bm0 PySem.F.plainAttrs_list PySem.F.slot_list_clear PySem.F.type_list_clear mt_clear (pe_ix ix_seq (pv 3) pe_int (fun _ _ => rfl))))
   (pss_one (ps_ret (pe_and (pe_call G__law_mix_again (hr.mono (by decide)) rfl m__law_mix_again k__law_mix_again b__law_mix_again Paired.nil pass0 (pa_cons (pv 1) (pa_cons (pv 2) pa_nil))) (pe_one (pe_call G__law_by_base (hr.mono (by decide)) rfl m__law_by_base k__law_by_base b__law_by_base Paired.nil pass0 (pa_cons (pv 2) pa_nil)))))))) pss_nil)
   (pss_cons (ps_if (pt_not (pt_val (pe_call G__law_paper_told (hr.mono (by decide)) rfl m__law_paper_told k__law_paper_told b__law_paper_told Paired.nil pass0 (pa_cons (pv 1) (pa_cons (pv 4) pa_nil))))) (pss_one (ps_ret pe_bl)) pss_nil)
   (pss_cons (ps_setLCT (xs := ["_law_d", "_law_row"]) [] (i := 6) nd rfl (Or.inl rfl) rfl (LcOkT.plain (xs := ["_law_d", "_law_row"]) (by decide +kernel) (by decide +kernel) rfl (by decide +kernel) (by decide +kernel) (by decide +kernel)) (pi_list (pv 4)) (pg_tup2T rfl (LcOkT.plain (xs := ["_law_d", "_law_row"]) (by decide +kernel) (by decide +kernel) rfl (by decide +kernel) (by decide +kernel) (by decide +kernel))) (fun C s2 H2 fp xe => (pe_tup (pa_cons (pv 0) (pa_cons (pe_callTy call_list_ofC rfl z_list bt_list (pa_cons (pv 1) pa_nil)) pa_nil)))))
   (pss_cons (ps_for PassesOwn.never rfl (pi_list (pv 2)) (pg_name (i := 7) nd rfl (Or.inl rfl)) (pss_one (ps_expr (pe_bm0 PySem.F.plainAttrs_list PySem.F.slot_list_clear PySem.F.type_list_clear mt_clear (pv 7)))))
   (pss_cons (ps_if (pt_cmpR (op_neV hr) (pv 4) (pv 6) (nomark _)) (pss_one (ps_ret pe_bl)) pss_nil)
   (pss_cons (ps_for PassesOwn.never rfl (pi_list (pv 4)) (pg_name (i := 8) nd rfl (Or.inl rfl)) (pss_one (ps_expr (pe_bm0 PySem.F.plainAttrs_list PySem.F.slot_list_clear PySem.F.type_list_clear mt_clear (pe_ix ix_seq (pv 8) pe_int (fun _ _ => rfl))))))
   (pss_cons (ps_set (i := 9) nd rfl (Or.inl rfl) (pe_callR G_paper_of (hr.mono (by decide)) rfl m_paper_of k_paper_of b_paper_of Paired.nil xe_off (pa_cons (pe_lc [] rfl (LcOk.plain (by decide +kernel) (by decide +kernel) rfl (by decide +kernel) rfl) (pi_list (pv 1)) (fun C s2 H2 fp xe => (pe_callTy call_list_ofC rfl z_list bt_list (pa_cons (pv 0) pa_nil)))) pa_nil)))
   (pss_one (ps_ret (pe_and (pe_call G__law_paper_told (hr.mono (by decide)) rfl m__law_paper_told k__law_paper_told b__law_paper_told Paired.nil pass0 (pa_cons (pv 1) (pa_cons (pv 9) pa_nil))) (pe_one (pe_cmpR (op_eqV hr) (pv 9) (pv 6) (nomark _))))))))))))))))))), ?_⟩
 rw [show ∀ x0 : V, L2.start ["_law_script", "_law_square_here", "_law_handed", "_law_mix_here", "_law_paper", "e", "_law_kept", "_law_row", "_law_pair", "_law_again"] [x0] = [some x0, none, none, none, none, none, none, none, none, none] from fun _ => rfl]
 have hline : 10 ^ 6 ≤ sizeLine := by decide
 refine ⟨_, rfl, a, ns, rfl, hS, hlen, hb, fun sp Z E H1 e1 hsp0 hsp hZ hSq hE => ?_⟩
 have lz : (rws Z).length = Z.length := List.length_map ..
 have h6 := hSq.2.1
 refine ⟨_, rfl, sp, rfl, ⟨_, SqL.of hsp⟩, ?_⟩
 refine lc_list (xs := rfz Z) (fun i ys H' => ∃ Y : List Lz, ys = rfz Y ∧ Same H1 H' ∧ LL H' Y ∧ rws Y = rws (Z.take i) ∧ ∀ y ∈ Y, H1 y.1 = none) ⟨[], rfl, same_refl _, (fun y hy => nomatch hy), rfl, fun y hy => nomatch hy⟩ (by rw [rfz_len]; omega) ?_ ?_ ?_
 · rintro i ys H' hi ⟨Y, rfl, e, hY, hYv, hY0⟩
   refine ⟨SqL.of (e _ _ hsp), ?_⟩
   have := congrArg List.length hYv
   rw [List.length_map, List.length_map, List.length_take] at this
   rw [rfz_len] at hi ⊢
   omega
 · rintro i x ys H' hx ⟨Y, rfl, e, hY, hYv, hY0⟩
   obtain ⟨z, hz, rfl⟩ := rfz_at hx
   have zm := List.mem_of_getElem? hz
   refine ⟨_, rfl, z.1, _, rfl, .inl (SqL.of (e _ _ (hZ z zm))), fun p hp => ?_⟩
   have f := same_upd (o := .lst (z.2.map V.int)) hp
   refine ⟨Y ++ [(p, z.2)], by rw [rfz_app]; rfl, e.trans f, (hY.same f).app (fun y hy => ?_), ?_, fun y hy => ?_⟩
   · rw [List.mem_singleton.mp hy]
     exact upd_same
   · rw [rws_app, hYv, take_nz hz, rws_app]
     rfl
   · rcases List.mem_append.mp hy with c | c
     · exact hY0 y c
     · rw [List.mem_singleton.mp c]
       exact e.free hp
 rintro ys H2 ⟨Y, rfl, e2, hY, hYv, hY0⟩ hd hhd
 rw [rfz_len, List.take_length] at hYv
 have f2 := same_upd (o := .lst (rfz Y)) hhd
 have e13 := e2.trans f2
 have hd3 : upd H2 hd (.lst (rfz Y)) hd = some (.lst (rfz Y)) := upd_same
 have hY3 := hY.same f2
 have hsp3 := e13 _ _ hsp
 have hZ3 := hZ.same e13
 have hdY : hd ∉ Y.map (·.1) := fun hm => by
   obtain ⟨y, hy, e⟩ := List.mem_map.mp hm
   rw [← e, hY y hy] at hhd
   cases hhd
 generalize upd H2 hd (.lst (rfz Y)) = H3 at f2 e13 hd3 hY3 hsp3 hZ3 ⊢
 obtain ⟨hSY, hYl⟩ := sqr_eq hYv hSq
 cases hB : (N45.trn (rws Z) Z.length).2 with
 | cons r B =>
   refine ⟨_, rfl, rfl, hd, Y, E, rfl, hd3, hY3, hSY, (fun hn => by rw [hYv, hYl, hB] at hn; cases hn), fun r2 B2 hB2 d l H4 e4 hl0 hd4 hl4 => ⟨q_ms, fun x hx => ?_⟩⟩
   rw [hYv, hYl, hB] at hB2
   obtain ⟨rfl, rfl⟩ := List.cons.inj hB2
   rw [hYl] at hl4
   have nx : d ≠ x := ne_of_none hd4 hx
   have fx := same_upd (o := excO x (.ref C_Singular) (some d)) hx
   refine ⟨_, rfl, x, C_Singular, d, _, _, rfl, upd_same, (by rw [upd_ne nx]; exact hd4), X_Singular, n_mix, fM_mix _, (by show 1 ≤ sizeLine; decide), fun ml hml => ?_⟩
   have f5 := same_upd (o := .lst [.ref l]) hml
   have e5 := (e4.trans fx).trans f5
   have hml5 : upd (upd H4 x (excO x (.ref C_Singular) (some d))) ml (.lst [.ref l]) ml = some (.lst [.ref l]) := upd_same
   have hl5 := f5 _ _ (fx _ _ hl4)
   generalize upd (upd H4 x (excO x (.ref C_Singular) (some d))) ml (.lst [.ref l]) = H5 at f5 e5 hml5 hl5 ⊢
   simp only [List.set_cons_zero, List.set_cons_succ]
   refine ⟨_, rfl, _, rfl, hd, sp, _, _, rfl, rfl, SqL.of (e5 _ _ hd3), SqL.of (e5 _ _ hsp3), by rw [rfz_len, rfz_len, hYl], eqP_ll (hY3.same e5) (hZ3.same e5) hYv, _, rfl, iteF ?_⟩
   refine ⟨_, rfl, rfl, _, rfl, ndecT (fun z => by cases z) ?_⟩
   obtain ⟨m1, m2, m3, m4⟩ := mix_ok hSq hB
   refine ⟨_, rfl, _, rfl, .inl ⟨ml, _, 0, _, rfl, rfl, SqL.of hml5, atI_nat (j := 0) rfl, sp, l, Z, r.drop Z.length, E, rfl, e5 _ _ hsp3, hZ3.same e5, hSq, hE, hl5, m1, m2, m3, m4, fun H6 e6 => ⟨true, rfl, iteF ?_⟩⟩⟩
   have hml6 := e6 _ _ hml5
   have hl6 := e6 _ _ hl5
   refine ⟨_, rfl, .inl ⟨ml, _, 0, _, rfl, rfl, SqL.of hml6, atI_nat (j := 0) rfl, .inl ⟨rfl, _, SqL.of hl6⟩, l, _, rfl, rfl, hl6, ?_⟩⟩
   have e7 : Same H3 (upd H6 l (.lst [])) := same_set (e5.trans e6) hl0
   refine ⟨_, rfl, _, rfl, sp, hd, Z, Y, E, r, B, rfl, e7 _ _ hsp3, hZ3.same e7, hSq, hE, e7 _ _ hd3, hY3.same e7, hYv, hB, fun H8 e8 => ⟨true, rfl, iteT ?_⟩⟩
   have e9 := e7.trans e8
   exact ⟨_, rfl, hd, Y, E, r, B, rfl, e9 _ _ hd3, hY3.same e9, hSY, (by rw [hYv, hYl]; exact hB), fun H9 _ => q _⟩
 | nil =>
   refine ⟨_, rfl, rfl, hd, Y, E, rfl, hd3, hY3, hSY, (fun hn t P H4 e4 ht hP hPv ht0 hP0 => ?_), fun r2 B2 hB2 => by rw [hYv, hYl, hB] at hB2; cases hB2⟩
   rw [hYv] at hPv
   simp only [List.set_cons_zero, List.set_cons_succ]
   refine ⟨_, rfl, _, rfl, hd, sp, _, _, rfl, rfl, SqL.of (e4 _ _ hd3), SqL.of (e4 _ _ hsp3), by rw [rfz_len, rfz_len, hYl], eqP_ll (hY3.same e4) (hZ3.same e4) hYv, _, rfl, iteF ?_⟩
   refine ⟨_, rfl, rfl, _, rfl, ndecF rfl ?_⟩
   refine ⟨_, rfl, _, rfl, sp, t, Z, P, E, rfl, e4 _ _ hsp3, hZ3.same e4, hSq, hE, ht, hP, hB, hPv, fun H5 e5 => ⟨true, rfl, iteF ?_⟩⟩
   have e45 := e4.trans e5
   have ht5 := e5 _ _ ht
   have hP5 := hP.same e5
   have lP : P.length ≤ 6 := by
     have := congrArg List.length hPv
     rw [List.length_map, pap_len, lz] at this
     omega
   refine ⟨_, rfl, t, rfl, ⟨_, SqL.of ht5⟩, ?_⟩
   refine lc_list (xs := rfp P) (fun i ys H' => ∃ W : List Pr, ys = rfp W ∧ Same H5 H' ∧ PP H' W ∧ prs W = prs (P.take i) ∧ ∀ w ∈ W, H5 w.1 = none ∧ H5 w.2.2.1 = none) ⟨[], rfl, same_refl _, (fun y hy => nomatch hy), rfl, fun y hy => nomatch hy⟩ (by rw [rfp_len]; omega) ?_ ?_ ?_
   · rintro i ys H' hi ⟨W, rfl, e, hW, hWv, hW0⟩
     refine ⟨SqL.of (e _ _ ht5), ?_⟩
     have := congrArg List.length hWv
     rw [List.length_map, List.length_map, List.length_take] at this
     rw [rfp_len] at hi ⊢
     omega
   · rintro i x ys H' hx ⟨W, rfl, e, hW, hWv, hW0⟩ σ0 h0
     obtain ⟨y, hy, rfl⟩ := rfp_at hx
     obtain ⟨u, v, rfl⟩ := two_of h0
     obtain ⟨yt, yl⟩ := hP5.same e y (List.mem_of_getElem? hy)
     refine ⟨y.1, _, rfl, SqT.of yt, rfl, _, _, rfl, _, _, rfl, rfl, [_, _], rfl, rfl, ?_⟩
     refine ⟨_, rfl, _, rfl, y.2.2.1, _, rfl, .inl (SqL.of yl), fun p hp => ⟨(by show 2 ≤ sizeLine; decide), fun tt htt => ?_⟩⟩
     have f1 := same_upd (o := .lst (y.2.2.2.map V.int)) hp
     have f2 := same_upd (o := .tup [.int y.2.1, .ref p]) htt
     have f12 := f1.trans f2
     refine ⟨W ++ [(tt, y.2.1, p, y.2.2.2)], by rw [rfp_app]; rfl, e.trans f12, fun w hw => ?_, ?_, fun w hw => ?_⟩
     · rcases List.mem_append.mp hw with c | c
       · exact hW.same f12 w c
       · rw [List.mem_singleton.mp c]
         exact ⟨upd_same, f2 _ _ upd_same⟩
     · rw [prs_app, hWv, take_nz hy, prs_app]
       rfl
     · rcases List.mem_append.mp hw with c | c
       · exact hW0 w c
       · rw [List.mem_singleton.mp c]
         exact ⟨(e.trans f1).free htt, e.free hp⟩
   rintro ys H6 ⟨W, rfl, e6, hW, hWv, hW0⟩ kp hkp
   rw [rfp_len, List.take_length] at hWv
   have f7 := same_upd (o := .lst (rfp W)) hkp
   have e57 := e6.trans f7
   have hkp7 : upd H6 kp (.lst (rfp W)) kp = some (.lst (rfp W)) := upd_same
   have hW7 := hW.same f7
   have hkp5 : H5 kp = none := e6.free hkp
   generalize upd H6 kp (.lst (rfp W)) = H7 at f7 e57 hkp7 hW7 ⊢
   have e37 := e45.trans e57
   have out3 : ∀ b, H3 b = none → b ∉ Y.map (·.1) := fun b hb hm => by
     obtain ⟨y, hy, rfl⟩ := List.mem_map.mp hm
     rw [hY3 y hy] at hb
     cases hb
   have out1 : ∀ b o, H1 b = some o → b ∉ Y.map (·.1) := fun b o hb hm => by
     obtain ⟨y, hy, rfl⟩ := List.mem_map.mp hm
     rw [hY0 y hy] at hb
     cases hb
   simp only [List.set_cons_zero, List.set_cons_succ]
   refine ⟨_, rfl, hd, rfl, ⟨_, SqL.of (e37 _ _ hd3)⟩, ?_⟩
   refine for_list (xs := rfz Y) (fun i σ H' => ∃ (o7 : Option V), σ = [some (.ref a), some (.ref sp), some (.ref hd), some .non, some (.ref t), none, some (.ref kp), o7, none, none] ∧ KeepA (Y.map (·.1)) H7 H') ⟨_, rfl, ⟨fun b o hb _ => hb, fun b hb => ?_⟩⟩ ?_ ?_ ?_
   · obtain ⟨y, hy, rfl⟩ := List.mem_map.mp hb
     exact ⟨_, e37 _ _ (hY3 y hy)⟩
   · rintro i σ H' hi ⟨o7, rfl, kp7⟩
     exact SqL.of (kp7.1 _ _ (e37 _ _ hd3) hdY)
   · rintro i x σ H' hx ⟨o7, rfl, kp7⟩
     obtain ⟨y, hy, rfl⟩ := rfz_at hx
     have ym : y.1 ∈ Y.map (·.1) := List.mem_map.mpr ⟨y, List.mem_of_getElem? hy, rfl⟩
     obtain ⟨xs, hxs⟩ := kp7.2 _ ym
     exact ⟨_, rfl, .inl ⟨rfl, _, SqL.of hxs⟩, y.1, _, rfl, rfl, hxs, _, rfl, kp7.clear ym⟩
   rintro σ H8 ⟨o7, rfl, k8⟩
   have hP8 : PP H8 P := fun w hw => ⟨k8.1 _ _ (e57 _ _ (hP5 w hw).1) (out3 _ (hP0 w hw).2), k8.1 _ _ (e57 _ _ (hP5 w hw).2) (out3 _ (hP0 w hw).1)⟩
   have hW8 : PP H8 W := fun w hw => ⟨k8.1 _ _ (hW7 w hw).1 (out3 _ (e45.free (hW0 w hw).1)), k8.1 _ _ (hW7 w hw).2 (out3 _ (e45.free (hW0 w hw).2))⟩
   have ht8 := k8.1 _ _ (e57 _ _ ht5) (out3 _ ht0)
   have hkp8 := k8.1 _ _ hkp7 (out3 _ (e45.free hkp5))
   have hsp8 := k8.1 _ _ (e37 _ _ hsp3) (out1 _ _ hsp)
   have hZ8 : LL H8 Z := fun z hz => k8.1 _ _ (e37 _ _ (hZ3 z hz)) (out1 _ _ (hZ z hz))
   obtain ⟨tl, tq⟩ := eqTu_pp (K := K) hP8 hW8 hWv.symm
   refine ⟨_, rfl, _, rfl, t, kp, _, _, rfl, rfl, SqL.of ht8, SqL.of hkp8, tl, tq, _, rfl, iteF ?_⟩
   have o3 : ∀ b o, H1 b = some o → b ∉ P.map (fun w => w.2.2.1) := fun b o hb hm => by
     obtain ⟨w, hw, rfl⟩ := List.mem_map.mp hm
     rw [e13.free (hP0 w hw).1] at hb
     cases hb
   have o5 : ∀ b, H5 b = none → b ∉ P.map (fun w => w.2.2.1) := fun b hb hm => by
     obtain ⟨w, hw, rfl⟩ := List.mem_map.mp hm
     rw [(hP5 w hw).2] at hb
     cases hb
   have oT : t ∉ P.map (fun w => w.2.2.1) := fun hm => by
     obtain ⟨w, hw, e⟩ := List.mem_map.mp hm
     have h1 := (hP8 w hw).2
     rw [e, ht8] at h1
     exact ref_ne (fun z => by rw [z] at hw; cases hw) (HO.lst.inj (Option.some.inj h1))
   have oP : ∀ y ∈ P, y.1 ∉ P.map (fun w => w.2.2.1) := fun y hy hm => by
     obtain ⟨w, hw, e⟩ := List.mem_map.mp hm
     have h1 := (hP8 w hw).2
     rw [e, (hP8 y hy).1] at h1
     cases h1
   refine ⟨_, rfl, t, rfl, ⟨_, SqL.of ht8⟩, ?_⟩
   refine for_list (xs := rfp P) (fun i σ H' => ∃ (o8 : Option V), σ = [some (.ref a), some (.ref sp), some (.ref hd), some .non, some (.ref t), none, some (.ref kp), o7, o8, none] ∧ KeepA (P.map fun w => w.2.2.1) H8 H') ⟨_, rfl, ⟨fun b o hb _ => hb, fun b hb => ?_⟩⟩ ?_ ?_ ?_
   · obtain ⟨y, hy, rfl⟩ := List.mem_map.mp hb
     exact ⟨_, (hP8 y hy).2⟩
   · rintro i σ H' hi ⟨o8, rfl, k9⟩
     exact SqL.of (k9.1 _ _ ht8 oT)
   · rintro i x σ H' hx ⟨o8, rfl, k9⟩
     obtain ⟨y, hy, rfl⟩ := rfp_at hx
     have ymm := List.mem_of_getElem? hy
     have ym : y.2.2.1 ∈ P.map (fun w => w.2.2.1) := List.mem_map.mpr ⟨y, ymm, rfl⟩
     obtain ⟨xs, hxs⟩ := k9.2 _ ym
     exact ⟨_, rfl, .inr (.inl ⟨y.1, _, 1, _, rfl, rfl, SqT.of (k9.1 _ _ (hP8 y ymm).1 (oP y ymm)), rfl, .inl ⟨rfl, _, SqL.of hxs⟩, y.2.2.1, _, rfl, rfl, hxs, _, rfl, k9.clear ym⟩)⟩
   rintro σ H9 ⟨o8, rfl, k9⟩
   have hsp9 := k9.1 _ _ hsp8 (o3 _ _ hsp)
   have hZ9 : LL H9 Z := fun z hz => k9.1 _ _ (hZ8 z hz) (o3 _ _ (hZ z hz))
   have hkp9 := k9.1 _ _ hkp8 (o5 _ hkp5)
   have hW9 : PP H9 W := fun w hw => ⟨k9.1 _ _ (hW8 w hw).1 (o5 _ (hW0 w hw).1), k9.1 _ _ (hW8 w hw).2 (o5 _ (hW0 w hw).2)⟩
   refine ⟨_, rfl, sp, rfl, ⟨_, SqL.of hsp9⟩, ?_⟩
   refine lc_list (xs := rfz Z) (fun i ys H' => ∃ Y : List Lz, ys = rfz Y ∧ Same H9 H' ∧ LL H' Y ∧ rws Y = rws (Z.take i) ∧ ∀ y ∈ Y, H9 y.1 = none) ⟨[], rfl, same_refl _, (fun y hy => nomatch hy), rfl, fun y hy => nomatch hy⟩ (by rw [rfz_len]; omega) ?_ ?_ ?_
   · rintro i ys H' hi ⟨Y, rfl, e, hY, hYv, hY0⟩
     refine ⟨SqL.of (e _ _ hsp9), ?_⟩
     have := congrArg List.length hYv
     rw [List.length_map, List.length_map, List.length_take] at this
     rw [rfz_len] at hi ⊢
     omega
   · rintro i x ys H' hx ⟨Y, rfl, e, hY, hYv, hY0⟩
     obtain ⟨z, hz, rfl⟩ := rfz_at hx
     have zm := List.mem_of_getElem? hz
     refine ⟨_, rfl, z.1, _, rfl, .inl (SqL.of (e _ _ (hZ9 z zm))), fun p hp => ?_⟩
     have f := same_upd (o := .lst (z.2.map V.int)) hp
     refine ⟨Y ++ [(p, z.2)], by rw [rfz_app]; rfl, e.trans f, (hY.same f).app (fun y hy => ?_), ?_, fun y hy => ?_⟩
     · rw [List.mem_singleton.mp hy]
       exact upd_same
     · rw [rws_app, hYv, take_nz hz, rws_app]
       rfl
     · rcases List.mem_append.mp hy with c | c
       · exact hY0 y c
       · rw [List.mem_singleton.mp c]
         exact e.free hp
   rintro ys HA ⟨V2, rfl, eA, hV, hVv, hV0⟩ cp hcp
   rw [rfz_len, List.take_length] at hVv
   have fA := same_upd (o := .lst (rfz V2)) hcp
   obtain ⟨hSV, hVl⟩ := sqr_eq hVv hSq
   refine ⟨True.intro, cp, V2, E, rfl, upd_same, hV.same fA, hSV, (fun hn t2 P2 HB eB ht2 hP2 hPv2 _ _ => ?_), fun r2 B2 hB2 => by rw [hVv, hVl, hB] at hB2; cases hB2⟩
   rw [hVv] at hPv2
   have eAB := (eA.trans fA).trans eB
   refine ⟨_, rfl, _, rfl, sp, t2, Z, P2, E, rfl, eAB _ _ hsp9, hZ9.same eAB, hSq, hE, ht2, hP2, hB, hPv2, fun HC eC => ⟨true, rfl, iteT ?_⟩⟩
   have eAC := eAB.trans eC
   obtain ⟨tl2, tq2⟩ := eqTu_pp (K := K) (hP2.same eC) (hW9.same eAC) (hPv2.trans (hWv.trans hPv).symm)
   exact ⟨_, rfl, _, rfl, t2, kp, _, _, rfl, rfl, SqL.of (eC _ _ ht2), SqL.of (eAC _ _ hkp9), tl2, tq2, q _⟩
end
theorem all_mk {l : PySem.W.OpenLaw} {w : World} {K : PySem.W.Frag} {h : Heap} {mg : Str → Option Value} {fa : Addr} {C_BooksError C_NoNumber C_Ringed C_Singular : Addr} {f_divisor : Addr} {oc_divisor kV_divisor dc_divisor pm_divisor cd_divisor ct_divisor : Value} {od_divisor an_divisor : Option Addr} {sl_divisor : Array (Option Value)} {f_only_at : Addr} {oc_only_at kV_only_at dc_only_at pm_only_at cd_only_at ct_only_at : Value} {od_only_at an_only_at : Option Addr} {sl_only_at : Array (Option Value)} {f_widened : Addr} {oc_widened kV_widened dc_widened pm_widened cd_widened ct_widened : Value} {od_widened an_widened : Option Addr} {sl_widened : Array (Option Value)} {f_lean : Addr} {oc_lean kV_lean dc_lean pm_lean cd_lean ct_lean : Value} {od_lean an_lean : Option Addr} {sl_lean : Array (Option Value)} {f_cleared : Addr} {oc_cleared kV_cleared dc_cleared pm_cleared cd_cleared ct_cleared : Value} {od_cleared an_cleared : Option Addr} {sl_cleared : Array (Option Value)} {f_first_with : Addr} {oc_first_with kV_first_with dc_first_with pm_first_with cd_first_with ct_first_with : Value} {od_first_with an_first_with : Option Addr} {sl_first_with : Array (Option Value)} {f_turned : Addr} {oc_turned kV_turned dc_turned pm_turned cd_turned ct_turned : Value} {od_turned an_turned : Option Addr} {sl_turned : Array (Option Value)} {f_pair_of : Addr} {oc_pair_of kV_pair_of dc_pair_of pm_pair_of cd_pair_of ct_pair_of : Value} {od_pair_of an_pair_of : Option Addr} {sl_pair_of : Array (Option Value)} {f_Singular__init__ : Addr} {oc_Singular__init__ kV_Singular__init__ dc_Singular__init__ pm_Singular__init__ cd_Singular__init__ ct_Singular__init__ : Value} {od_Singular__init__ an_Singular__init__ : Option Addr} {sl_Singular__init__ : Array (Option Value)} {f_paper_of : Addr} {oc_paper_of kV_paper_of dc_paper_of pm_paper_of cd_paper_of ct_paper_of : Value} {od_paper_of an_paper_of : Option Addr} {sl_paper_of : Array (Option Value)} {f__law_cell_at : Addr} {oc__law_cell_at kV__law_cell_at dc__law_cell_at pm__law_cell_at cd__law_cell_at ct__law_cell_at : Value} {od__law_cell_at an__law_cell_at : Option Addr} {sl__law_cell_at : Array (Option Value)} {f__law_whole : Addr} {oc__law_whole kV__law_whole dc__law_whole pm__law_whole cd__law_whole ct__law_whole : Value} {od__law_whole an__law_whole : Option Addr} {sl__law_whole : Array (Option Value)} {f__law_mix : Addr} {oc__law_mix kV__law_mix dc__law_mix pm__law_mix cd__law_mix ct__law_mix : Value} {od__law_mix an__law_mix : Option Addr} {sl__law_mix : Array (Option Value)} {f__law_divisor : Addr} {oc__law_divisor kV__law_divisor dc__law_divisor pm__law_divisor cd__law_divisor ct__law_divisor : Value} {od__law_divisor an__law_divisor : Option Addr} {sl__law_divisor : Array (Option Value)} {f__law_mixed : Addr} {oc__law_mixed kV__law_mixed dc__law_mixed pm__law_mixed cd__law_mixed ct__law_mixed : Value} {od__law_mixed an__law_mixed : Option Addr} {sl__law_mixed : Array (Option Value)} {f__law_entry : Addr} {oc__law_entry kV__law_entry dc__law_entry pm__law_entry cd__law_entry ct__law_entry : Value} {od__law_entry an__law_entry : Option Addr} {sl__law_entry : Array (Option Value)} {f__law_square : Addr} {oc__law_square kV__law_square dc__law_square pm__law_square cd__law_square ct__law_square : Value} {od__law_square an__law_square : Option Addr} {sl__law_square : Array (Option Value)} {f__law_paper_told : Addr} {oc__law_paper_told kV__law_paper_told dc__law_paper_told pm__law_paper_told cd__law_paper_told ct__law_paper_told : Value} {od__law_paper_told an__law_paper_told : Option Addr} {sl__law_paper_told : Array (Option Value)} {f__law_mix_told : Addr} {oc__law_mix_told kV__law_mix_told dc__law_mix_told pm__law_mix_told cd__law_mix_told ct__law_mix_told : Value} {od__law_mix_told an__law_mix_told : Option Addr} {sl__law_mix_told : Array (Option Value)} {f__law_mix_again : Addr} {oc__law_mix_again kV__law_mix_again dc__law_mix_again pm__law_mix_again cd__law_mix_again ct__law_mix_again : Value} {od__law_mix_again an__law_mix_again : Option Addr} {sl__law_mix_again : Array (Option Value)} {f__law_by_base : Addr} {oc__law_by_base kV__law_by_base dc__law_by_base pm__law_by_base cd__law_by_base ct__law_by_base : Value} {od__law_by_base an__law_by_base : Option Addr} {sl__law_by_base : Array (Option Value)} {f_law : Addr} {oc_law kV_law dc_law pm_law cd_law ct_law : Value} {od_law an_law : Option Addr} {sl_law : Array (Option Value)} (X : K.In h) (G : h.Ns mainGlobals mg) (hfa : mg "law" = some (.ref fa))
   (a_BooksError : PySem.W.nsIn K mainGlobals "BooksError" = some (some (.ref C_BooksError))) (a_NoNumber : PySem.W.nsIn K mainGlobals "NoNumber" = some (some (.ref C_NoNumber))) (a_Ringed : PySem.W.nsIn K mainGlobals "Ringed" = some (some (.ref C_Ringed))) (a_Singular : PySem.W.nsIn K mainGlobals "Singular" = some (some (.ref C_Singular))) (xs_Singular : xclsIn K C_Singular = true) (xga_Singular : PySem.W.findIn K (.ref C_Singular) "__getattribute__" = some (some (.builtin "BaseException.__getattribute__"))) (xgh_Singular : PySem.W.findIn K (.ref C_Singular) "__getattr__" = some (none)) (xsa_Singular : PySem.W.findIn K (.ref C_Singular) "__setattr__" = some (some (.builtin "object.__setattr__"))) (xcl_Singular : PySem.W.findIn K (.ref C_Singular) "__class__" = some (some (.builtin "object.__class__"))) (nz_abs : PySem.W.nsIn K mainGlobals "abs" = some none) (nz_range : PySem.W.nsIn K mainGlobals "range" = some none) (nz_len : PySem.W.nsIn K mainGlobals "len" = some none) (nz_enumerate : PySem.W.nsIn K mainGlobals "enumerate" = some none) (nz_list : PySem.W.nsIn K mainGlobals "list" = some none) (nz_zip : PySem.W.nsIn K mainGlobals "zip" = some none) (nz_isinstance : PySem.W.nsIn K mainGlobals "isinstance" = some none) (nz_int : PySem.W.nsIn K mainGlobals "int" = some none) (nz_bool : PySem.W.nsIn K mainGlobals "bool" = some none) (nz_sum : PySem.W.nsIn K mainGlobals "sum" = some none) (nz_tuple : PySem.W.nsIn K mainGlobals "tuple" = some none) (nz_any : PySem.W.nsIn K mainGlobals "any" = some none) (nz_ValueError : PySem.W.nsIn K mainGlobals "ValueError" = some none) (q_ib : PySem.W.kitOne K (.type "int") (.type "bool") = some false) (q_ms : PySem.W.exmOne K (.ref C_Singular) (.ref C_Singular) = some true) (q_mb : PySem.W.exmOne K (.ref C_Singular) (.ref C_BooksError) = some true) (q_sv : PySem.W.kitOne K (.ref C_Singular) (.type "ValueError") = some true) (q_sSingular : PySem.W.kitOne K (.ref C_Singular) (.ref C_Singular) = some true) (q_sRinged : PySem.W.kitOne K (.ref C_Singular) (.ref C_Ringed) = some false) (q_sNoNumber : PySem.W.kitOne K (.ref C_Singular) (.ref C_NoNumber) = some false) (n_mix : PySem.W.findIn K (.ref C_Singular) "mix" = some none) (a_divisor : PySem.W.nsIn K mainGlobals "divisor" = some (some (.ref f_divisor))) (l_divisor : K.lookup f_divisor = some ⟨oc_divisor, od_divisor, .func (PySem.W.fnOf "divisor" "divisor" (defArgs s_divisor) (defBody s_divisor) (defScope s_divisor) .none kV_divisor dc_divisor pm_divisor an_divisor cd_divisor ct_divisor), sl_divisor⟩) (c_divisor : PySem.W.codeIn K cd_divisor "divisor" = true) (k_divisor : PySem.W.keepIn K (.ref f_divisor) = true) (a_only_at : PySem.W.nsIn K mainGlobals "only_at" = some (some (.ref f_only_at))) (l_only_at : K.lookup f_only_at = some ⟨oc_only_at, od_only_at, .func (PySem.W.fnOf "only_at" "only_at" (defArgs s_only_at) (defBody s_only_at) (defScope s_only_at) .none kV_only_at dc_only_at pm_only_at an_only_at cd_only_at ct_only_at), sl_only_at⟩) (c_only_at : PySem.W.codeIn K cd_only_at "only_at" = true) (k_only_at : PySem.W.keepIn K (.ref f_only_at) = true) (a_widened : PySem.W.nsIn K mainGlobals "widened" = some (some (.ref f_widened))) (l_widened : K.lookup f_widened = some ⟨oc_widened, od_widened, .func (PySem.W.fnOf "widened" "widened" (defArgs s_widened) (defBody s_widened) (defScope s_widened) .none kV_widened dc_widened pm_widened an_widened cd_widened ct_widened), sl_widened⟩) (c_widened : PySem.W.codeIn K cd_widened "widened" = true) (k_widened : PySem.W.keepIn K (.ref f_widened) = true) (a_lean : PySem.W.nsIn K mainGlobals "lean" = some (some (.ref f_lean))) (l_lean : K.lookup f_lean = some ⟨oc_lean, od_lean, .func (PySem.W.fnOf "lean" "lean" (defArgs s_lean) (defBody s_lean) (defScope s_lean) .none kV_lean dc_lean pm_lean an_lean cd_lean ct_lean), sl_lean⟩) (c_lean : PySem.W.codeIn K cd_lean "lean" = true) (k_lean : PySem.W.keepIn K (.ref f_lean) = true) (a_cleared : PySem.W.nsIn K mainGlobals "cleared" = some (some (.ref f_cleared))) (l_cleared : K.lookup f_cleared = some ⟨oc_cleared, od_cleared, .func (PySem.W.fnOf "cleared" "cleared" (defArgs s_cleared) (defBody s_cleared) (defScope s_cleared) .none kV_cleared dc_cleared pm_cleared an_cleared cd_cleared ct_cleared), sl_cleared⟩) (c_cleared : PySem.W.codeIn K cd_cleared "cleared" = true) (k_cleared : PySem.W.keepIn K (.ref f_cleared) = true) (a_first_with : PySem.W.nsIn K mainGlobals "first_with" = some (some (.ref f_first_with))) (l_first_with : K.lookup f_first_with = some ⟨oc_first_with, od_first_with, .func (PySem.W.fnOf "first_with" "first_with" (defArgs s_first_with) (defBody s_first_with) (defScope s_first_with) .none kV_first_with dc_first_with pm_first_with an_first_with cd_first_with ct_first_with), sl_first_with⟩) (c_first_with : PySem.W.codeIn K cd_first_with "first_with" = true) (k_first_with : PySem.W.keepIn K (.ref f_first_with) = true) (a_turned : PySem.W.nsIn K mainGlobals "turned" = some (some (.ref f_turned))) (l_turned : K.lookup f_turned = some ⟨oc_turned, od_turned, .func (PySem.W.fnOf "turned" "turned" (defArgs s_turned) (defBody s_turned) (defScope s_turned) .none kV_turned dc_turned pm_turned an_turned cd_turned ct_turned), sl_turned⟩) (c_turned : PySem.W.codeIn K cd_turned "turned" = true) (k_turned : PySem.W.keepIn K (.ref f_turned) = true) (a_pair_of : PySem.W.nsIn K mainGlobals "pair_of" = some (some (.ref f_pair_of))) (l_pair_of : K.lookup f_pair_of = some ⟨oc_pair_of, od_pair_of, .func (PySem.W.fnOf "pair_of" "pair_of" (defArgs s_pair_of) (defBody s_pair_of) (defScope s_pair_of) .none kV_pair_of dc_pair_of pm_pair_of an_pair_of cd_pair_of ct_pair_of), sl_pair_of⟩) (c_pair_of : PySem.W.codeIn K cd_pair_of "pair_of" = true) (k_pair_of : PySem.W.keepIn K (.ref f_pair_of) = true) (at_Singular__init__ : PySem.W.findIn K (.ref C_Singular) "__init__" = some (some (.ref f_Singular__init__))) (fn_Singular__init__ : PySem.W.isFn K (.ref f_Singular__init__) = true) (l_Singular__init__ : K.lookup f_Singular__init__ = some ⟨oc_Singular__init__, od_Singular__init__, .func (PySem.W.fnOf "__init__" "Singular.__init__" (defArgs s_Singular__init__) (defBody s_Singular__init__) (defScope s_Singular__init__) .none kV_Singular__init__ dc_Singular__init__ pm_Singular__init__ an_Singular__init__ cd_Singular__init__ ct_Singular__init__), sl_Singular__init__⟩) (c_Singular__init__ : PySem.W.codeIn K cd_Singular__init__ "Singular.__init__" = true) (k_Singular__init__ : PySem.W.keepIn K (.ref f_Singular__init__) = true) (a_paper_of : PySem.W.nsIn K mainGlobals "paper_of" = some (some (.ref f_paper_of))) (l_paper_of : K.lookup f_paper_of = some ⟨oc_paper_of, od_paper_of, .func (PySem.W.fnOf "paper_of" "paper_of" (defArgs s_paper_of) (defBody s_paper_of) (defScope s_paper_of) .none kV_paper_of dc_paper_of pm_paper_of an_paper_of cd_paper_of ct_paper_of), sl_paper_of⟩) (c_paper_of : PySem.W.codeIn K cd_paper_of "paper_of" = true) (k_paper_of : PySem.W.keepIn K (.ref f_paper_of) = true) (a__law_cell_at : PySem.W.nsIn K mainGlobals "_law_cell_at" = some (some (.ref f__law_cell_at))) (l__law_cell_at : K.lookup f__law_cell_at = some ⟨oc__law_cell_at, od__law_cell_at, .func (PySem.W.fnOf "_law_cell_at" "_law_cell_at" (defArgs s__law_cell_at) (defBody s__law_cell_at) (defScope s__law_cell_at) .none kV__law_cell_at dc__law_cell_at pm__law_cell_at an__law_cell_at cd__law_cell_at ct__law_cell_at), sl__law_cell_at⟩) (c__law_cell_at : PySem.W.codeIn K cd__law_cell_at "_law_cell_at" = true) (k__law_cell_at : PySem.W.keepIn K (.ref f__law_cell_at) = true) (a__law_whole : PySem.W.nsIn K mainGlobals "_law_whole" = some (some (.ref f__law_whole))) (l__law_whole : K.lookup f__law_whole = some ⟨oc__law_whole, od__law_whole, .func (PySem.W.fnOf "_law_whole" "_law_whole" (defArgs s__law_whole) (defBody s__law_whole) (defScope s__law_whole) .none kV__law_whole dc__law_whole pm__law_whole an__law_whole cd__law_whole ct__law_whole), sl__law_whole⟩) (c__law_whole : PySem.W.codeIn K cd__law_whole "_law_whole" = true) (k__law_whole : PySem.W.keepIn K (.ref f__law_whole) = true) (a__law_mix : PySem.W.nsIn K mainGlobals "_law_mix" = some (some (.ref f__law_mix))) (l__law_mix : K.lookup f__law_mix = some ⟨oc__law_mix, od__law_mix, .func (PySem.W.fnOf "_law_mix" "_law_mix" (defArgs s__law_mix) (defBody s__law_mix) (defScope s__law_mix) .none kV__law_mix dc__law_mix pm__law_mix an__law_mix cd__law_mix ct__law_mix), sl__law_mix⟩) (c__law_mix : PySem.W.codeIn K cd__law_mix "_law_mix" = true) (k__law_mix : PySem.W.keepIn K (.ref f__law_mix) = true) (a__law_divisor : PySem.W.nsIn K mainGlobals "_law_divisor" = some (some (.ref f__law_divisor))) (l__law_divisor : K.lookup f__law_divisor = some ⟨oc__law_divisor, od__law_divisor, .func (PySem.W.fnOf "_law_divisor" "_law_divisor" (defArgs s__law_divisor) (defBody s__law_divisor) (defScope s__law_divisor) .none kV__law_divisor dc__law_divisor pm__law_divisor an__law_divisor cd__law_divisor ct__law_divisor), sl__law_divisor⟩) (c__law_divisor : PySem.W.codeIn K cd__law_divisor "_law_divisor" = true) (k__law_divisor : PySem.W.keepIn K (.ref f__law_divisor) = true) (a__law_mixed : PySem.W.nsIn K mainGlobals "_law_mixed" = some (some (.ref f__law_mixed))) (l__law_mixed : K.lookup f__law_mixed = some ⟨oc__law_mixed, od__law_mixed, .func (PySem.W.fnOf "_law_mixed" "_law_mixed" (defArgs s__law_mixed) (defBody s__law_mixed) (defScope s__law_mixed) .none kV__law_mixed dc__law_mixed pm__law_mixed an__law_mixed cd__law_mixed ct__law_mixed), sl__law_mixed⟩) (c__law_mixed : PySem.W.codeIn K cd__law_mixed "_law_mixed" = true) (k__law_mixed : PySem.W.keepIn K (.ref f__law_mixed) = true) (a__law_entry : PySem.W.nsIn K mainGlobals "_law_entry" = some (some (.ref f__law_entry))) (l__law_entry : K.lookup f__law_entry = some ⟨oc__law_entry, od__law_entry, .func (PySem.W.fnOf "_law_entry" "_law_entry" (defArgs s__law_entry) (defBody s__law_entry) (defScope s__law_entry) .none kV__law_entry dc__law_entry pm__law_entry an__law_entry cd__law_entry ct__law_entry), sl__law_entry⟩) (c__law_entry : PySem.W.codeIn K cd__law_entry "_law_entry" = true) (k__law_entry : PySem.W.keepIn K (.ref f__law_entry) = true) (a__law_square : PySem.W.nsIn K mainGlobals "_law_square" = some (some (.ref f__law_square))) (l__law_square : K.lookup f__law_square = some ⟨oc__law_square, od__law_square, .func (PySem.W.fnOf "_law_square" "_law_square" (defArgs s__law_square) (defBody s__law_square) (defScope s__law_square) .none kV__law_square dc__law_square pm__law_square an__law_square cd__law_square ct__law_square), sl__law_square⟩) (c__law_square : PySem.W.codeIn K cd__law_square "_law_square" = true) (k__law_square : PySem.W.keepIn K (.ref f__law_square) = true) (a__law_paper_told : PySem.W.nsIn K mainGlobals "_law_paper_told" = some (some (.ref f__law_paper_told))) (l__law_paper_told : K.lookup f__law_paper_told = some ⟨oc__law_paper_told, od__law_paper_told, .func (PySem.W.fnOf "_law_paper_told" "_law_paper_told" (defArgs s__law_paper_told) (defBody s__law_paper_told) (defScope s__law_paper_told) .none kV__law_paper_told dc__law_paper_told pm__law_paper_told an__law_paper_told cd__law_paper_told ct__law_paper_told), sl__law_paper_told⟩) (c__law_paper_told : PySem.W.codeIn K cd__law_paper_told "_law_paper_told" = true) (k__law_paper_told : PySem.W.keepIn K (.ref f__law_paper_told) = true) (a__law_mix_told : PySem.W.nsIn K mainGlobals "_law_mix_told" = some (some (.ref f__law_mix_told))) (l__law_mix_told : K.lookup f__law_mix_told = some ⟨oc__law_mix_told, od__law_mix_told, .func (PySem.W.fnOf "_law_mix_told" "_law_mix_told" (defArgs s__law_mix_told) (defBody s__law_mix_told) (defScope s__law_mix_told) .none kV__law_mix_told dc__law_mix_told pm__law_mix_told an__law_mix_told cd__law_mix_told ct__law_mix_told), sl__law_mix_told⟩) (c__law_mix_told : PySem.W.codeIn K cd__law_mix_told "_law_mix_told" = true) (k__law_mix_told : PySem.W.keepIn K (.ref f__law_mix_told) = true) (a__law_mix_again : PySem.W.nsIn K mainGlobals "_law_mix_again" = some (some (.ref f__law_mix_again))) (l__law_mix_again : K.lookup f__law_mix_again = some ⟨oc__law_mix_again, od__law_mix_again, .func (PySem.W.fnOf "_law_mix_again" "_law_mix_again" (defArgs s__law_mix_again) (defBody s__law_mix_again) (defScope s__law_mix_again) .none kV__law_mix_again dc__law_mix_again pm__law_mix_again an__law_mix_again cd__law_mix_again ct__law_mix_again), sl__law_mix_again⟩) (c__law_mix_again : PySem.W.codeIn K cd__law_mix_again "_law_mix_again" = true) (k__law_mix_again : PySem.W.keepIn K (.ref f__law_mix_again) = true) (a__law_by_base : PySem.W.nsIn K mainGlobals "_law_by_base" = some (some (.ref f__law_by_base))) (l__law_by_base : K.lookup f__law_by_base = some ⟨oc__law_by_base, od__law_by_base, .func (PySem.W.fnOf "_law_by_base" "_law_by_base" (defArgs s__law_by_base) (defBody s__law_by_base) (defScope s__law_by_base) .none kV__law_by_base dc__law_by_base pm__law_by_base an__law_by_base cd__law_by_base ct__law_by_base), sl__law_by_base⟩) (c__law_by_base : PySem.W.codeIn K cd__law_by_base "_law_by_base" = true) (k__law_by_base : PySem.W.keepIn K (.ref f__law_by_base) = true) (a_law : PySem.W.nsIn K mainGlobals "law" = some (some (.ref f_law))) (l_law : K.lookup f_law = some ⟨oc_law, od_law, .func (PySem.W.fnOf "law" "law" (defArgs s_law) (defBody s_law) (defScope s_law) .none kV_law dc_law pm_law an_law cd_law ct_law), sl_law⟩) (c_law : PySem.W.codeIn K cd_law "law" = true) (k_law : PySem.W.keepIn K (.ref f_law) = true) :
   ∃ fd : FuncData, (∀ (s : Shared) (v : Value), BindsTo s fd ⟨[v], []⟩ [("_law_script", v)]) ∧ ∀ base : Heap, K.In base → base.Ns mainGlobals mg → FnOk l.prog w K mg base CX0 true 7 fa fd ["_law_script"] (spLaw K) := by
 have e := hfa.symm.trans (PySem.W.mg_of X G a_law)
 cases e
 have m_BooksError := PySem.W.mg_of X G a_BooksError
 have m_NoNumber := PySem.W.mg_of X G a_NoNumber
 have m_Ringed := PySem.W.mg_of X G a_Ringed
 have m_Singular := PySem.W.mg_of X G a_Singular
 have X_Singular : XCls K C_Singular := ⟨xs_Singular, xga_Singular, xgh_Singular, xsa_Singular, xcl_Singular⟩
 have z_abs := PySem.W.mg_none_of X G nz_abs
 have z_range := PySem.W.mg_none_of X G nz_range
 have z_len := PySem.W.mg_none_of X G nz_len
 have z_enumerate := PySem.W.mg_none_of X G nz_enumerate
 have z_list := PySem.W.mg_none_of X G nz_list
 have z_zip := PySem.W.mg_none_of X G nz_zip
 have z_isinstance := PySem.W.mg_none_of X G nz_isinstance
 have z_int := PySem.W.mg_none_of X G nz_int
 have z_bool := PySem.W.mg_none_of X G nz_bool
 have z_sum := PySem.W.mg_none_of X G nz_sum
 have z_tuple := PySem.W.mg_none_of X G nz_tuple
 have z_any := PySem.W.mg_none_of X G nz_any
 have z_ValueError := PySem.W.mg_none_of X G nz_ValueError
 refine ⟨PySem.W.fnOf "law" "law" (defArgs s_law) (defBody s_law) (defScope s_law) .none kV_law dc_law pm_law an_law cd_law ct_law, fun s v => .of_eq rfl, fun base _ _ => ?_⟩
 have q_divisor := ok_divisor (P := l.prog) (w := w) (base := base) (cm := true) ⟨f_divisor, _, funD_mk (st := s_divisor) l_divisor c_divisor k_divisor, PySem.W.mg_of X G a_divisor⟩ z_abs
 have q_only_at := ok_only_at (P := l.prog) (w := w) (base := base) ⟨f_only_at, _, funD_mk (st := s_only_at) l_only_at c_only_at k_only_at, PySem.W.mg_of X G a_only_at⟩ z_range
 have q_widened := ok_widened (P := l.prog) (w := w) (base := base) ⟨f_widened, _, funD_mk (st := s_widened) l_widened c_widened k_widened, PySem.W.mg_of X G a_widened⟩ q_only_at z_len z_enumerate z_list
 have q_lean := ok_lean (P := l.prog) (w := w) (base := base) ⟨f_lean, _, funD_mk (st := s_lean) l_lean c_lean k_lean, PySem.W.mg_of X G a_lean⟩ q_divisor
 have q_cleared := ok_cleared (P := l.prog) (w := w) (base := base) ⟨f_cleared, _, funD_mk (st := s_cleared) l_cleared c_cleared k_cleared, PySem.W.mg_of X G a_cleared⟩ q_lean z_zip
 have q_first_with := ok_first_with (P := l.prog) (w := w) (base := base) ⟨f_first_with, _, funD_mk (st := s_first_with) l_first_with c_first_with k_first_with, PySem.W.mg_of X G a_first_with⟩ z_enumerate
 have q_turned := ok_turned (P := l.prog) (w := w) (base := base) ⟨f_turned, _, funD_mk (st := s_turned) l_turned c_turned k_turned, PySem.W.mg_of X G a_turned⟩ q_widened q_first_with q_cleared z_range z_len
 have q_pair_of := ok_pair_of (P := l.prog) (w := w) (base := base) ⟨f_pair_of, _, funD_mk (st := s_pair_of) l_pair_of c_pair_of k_pair_of, PySem.W.mg_of X G a_pair_of⟩
 have q_Singular__init__ := ok_Singular__init__ (P := l.prog) (w := w) (mg := mg) (base := base) z_list X_Singular n_mix ⟨f_Singular__init__, _, funD_mk (st := s_Singular__init__) l_Singular__init__ c_Singular__init__ k_Singular__init__, at_Singular__init__, fn_Singular__init__⟩
 have q_paper_of := ok_paper_of (P := l.prog) (w := w) (base := base) ⟨f_paper_of, _, funD_mk (st := s_paper_of) l_paper_of c_paper_of k_paper_of, PySem.W.mg_of X G a_paper_of⟩ q_turned q_Singular__init__ q_pair_of z_len z_enumerate m_Singular X_Singular
 have q__law_cell_at := ok__law_cell_at (P := l.prog) (w := w) (base := base) (cm := true) ⟨f__law_cell_at, _, funD_mk (st := s__law_cell_at) l__law_cell_at c__law_cell_at k__law_cell_at, PySem.W.mg_of X G a__law_cell_at⟩ z_len
 have q__law_wholeF := ok__law_whole (P := l.prog) (w := w) (base := base) (cm := false) ⟨f__law_whole, _, funD_mk (st := s__law_whole) l__law_whole c__law_whole k__law_whole, PySem.W.mg_of X G a__law_whole⟩ z_isinstance z_int z_bool q_ib
 have q__law_whole := ok__law_whole (P := l.prog) (w := w) (base := base) (cm := true) ⟨f__law_whole, _, funD_mk (st := s__law_whole) l__law_whole c__law_whole k__law_whole, PySem.W.mg_of X G a__law_whole⟩ z_isinstance z_int z_bool q_ib
 have q__law_mix := ok__law_mix (P := l.prog) (w := w) (base := base) (cm := true) ⟨f__law_mix, _, funD_mk (st := s__law_mix) l__law_mix c__law_mix k__law_mix, PySem.W.mg_of X G a__law_mix⟩
 have q__law_divisor := ok__law_divisor (P := l.prog) (w := w) (base := base) (cm := true) ⟨f__law_divisor, _, funD_mk (st := s__law_divisor) l__law_divisor c__law_divisor k__law_divisor, PySem.W.mg_of X G a__law_divisor⟩ z_abs
 have q__law_mixed := ok__law_mixed (P := l.prog) (w := w) (base := base) ⟨f__law_mixed, _, funD_mk (st := s__law_mixed) l__law_mixed c__law_mixed k__law_mixed, PySem.W.mg_of X G a__law_mixed⟩ z_range z_len z_sum
 have q__law_mixedH := okH__law_mixed (P := l.prog) (w := w) (base := base) ⟨f__law_mixed, _, funD_mk (st := s__law_mixed) l__law_mixed c__law_mixed k__law_mixed, PySem.W.mg_of X G a__law_mixed⟩ z_range z_len z_sum
 have q__law_entry := ok__law_entry (P := l.prog) (w := w) (base := base) (cm := true) ⟨f__law_entry, _, funD_mk (st := s__law_entry) l__law_entry c__law_entry k__law_entry, PySem.W.mg_of X G a__law_entry⟩
 have q__law_square := ok__law_square (P := l.prog) (w := w) (base := base) ⟨f__law_square, _, funD_mk (st := s__law_square) l__law_square c__law_square k__law_square, PySem.W.mg_of X G a__law_square⟩ q__law_cell_at q__law_entry q__law_mix z_range z_len z_int
 have q__law_paper_told := ok__law_paper_told (P := l.prog) (w := w) (base := base) ⟨f__law_paper_told, _, funD_mk (st := s__law_paper_told) l__law_paper_told c__law_paper_told k__law_paper_told, PySem.W.mg_of X G a__law_paper_told⟩ q__law_whole q__law_divisor q__law_mixed z_len z_isinstance z_list z_range z_tuple z_int
 have q__law_mix_told := ok__law_mix_told (P := l.prog) (w := w) (base := base) ⟨f__law_mix_told, _, funD_mk (st := s__law_mix_told) l__law_mix_told c__law_mix_told k__law_mix_told, PySem.W.mg_of X G a__law_mix_told⟩ q__law_whole q__law_mixed z_isinstance z_list z_len z_any
 have q__law_mix_toldH := okH__law_mix_told (P := l.prog) (w := w) (base := base) ⟨f__law_mix_told, _, funD_mk (st := s__law_mix_told) l__law_mix_told c__law_mix_told k__law_mix_told, PySem.W.mg_of X G a__law_mix_told⟩ q__law_wholeF q__law_mixedH z_isinstance z_list z_len z_any
 have q__law_mix_again := ok__law_mix_again (P := l.prog) (w := w) (base := base) ⟨f__law_mix_again, _, funD_mk (st := s__law_mix_again) l__law_mix_again c__law_mix_again k__law_mix_again, PySem.W.mg_of X G a__law_mix_again⟩ q_paper_of q__law_mix_toldH m_Singular X_Singular q_ms n_mix
 have q__law_by_base := ok__law_by_base (P := l.prog) (w := w) (base := base) ⟨f__law_by_base, _, funD_mk (st := s__law_by_base) l__law_by_base c__law_by_base k__law_by_base, PySem.W.mg_of X G a__law_by_base⟩ q_paper_of z_isinstance z_ValueError m_BooksError m_Singular m_Ringed m_NoNumber X_Singular q_mb q_sv q_sSingular q_sRinged q_sNoNumber
 exact ok_law (P := l.prog) (w := w) (base := base) (funD_mk (st := s_law) l_law c_law k_law) q__law_square q_paper_of q__law_mix_told q__law_mix_again q__law_by_base q__law_paper_told z_list m_Singular X_Singular q_ms n_mix
theorem walk {l : PySem.W.OpenLaw} {q : Program} {loose : List Str} {XP : (Str → Option Value) → Heap → Prop} {YP : World → Heap → Prop} {d : DefRec} {K : Params → PySem.W.Frag} (hn : l.most = some 63) (hdf : d.params.defaults = [])
   (hY : ∀ (w : World) (h : Heap), YP w h → (K w.params).In h)
   (F : ∀ (w : World) (mg : Str → Option Value) (fa : Addr) (h : Heap), (K w.params).In h → h.Ns mainGlobals mg → mg d.name = some (.ref fa) →
     ∃ fd : FuncData, (∀ (s : Shared) (u : Value), BindsTo s fd ⟨[u], []⟩ [("_law_script", u)]) ∧ ∀ base : Heap, (K w.params).In base → base.Ns mainGlobals mg → FnOk l.prog w (K w.params) mg base CX0 true 7 fa fd ["_law_script"] (spLaw (K w.params))) :
   PySem.W.WalkO q loose XP YP l.row.toRowW d [] (fun f vs => PySem.call f vs) :=
 L2.walk_ofB (n := 63) (k := 7) (x := "_law_script") (CX := fun _ => CX0) (sp := fun w => spLaw (K w.params)) hn (by decide) hdf ⟨fun _ => rfl, by decide, by decide⟩ hY F (fun _ _ a ns hl hb _ hS => ⟨a, ns, rfl, hS, hl, hb, fun _ => rfl⟩) fun _ _ _ _ _ z => z
end K45
open PySem PySem.W PyProof.Rows
set_option maxRecDepth 100000 in
set_option maxHeartbeats 0 in
theorem PySem.Challenge.cw_groupbooks_k45_whole_paper_or_mix_holds : PySem.Challenge.rw_groupbooks_k45_whole_paper_or_mix.Holds := by
 refine K45.headTop ?_
 k_fill
 refine K45.walk (l := PySem.Challenge.rw_groupbooks_k45_whole_paper_or_mix) rfl rfl (fun w h Y => PySem.W.kIn_of Y) ?F
 case F =>
   intro w mg fa h KX G hmg
   refine' K45.all_mk KX G hmg ?a_BooksError ?a_NoNumber ?a_Ringed ?a_Singular ?xs_Singular ?xga_Singular ?xgh_Singular ?xsa_Singular ?xcl_Singular ?nz_abs ?nz_range ?nz_len ?nz_enumerate ?nz_list ?nz_zip ?nz_isinstance ?nz_int ?nz_bool ?nz_sum ?nz_tuple ?nz_any ?nz_ValueError ?q_ib ?q_ms ?q_mb ?q_sv ?q_sSingular ?q_sRinged ?q_sNoNumber ?n_mix ?a_divisor ?l_divisor ?c_divisor ?k_divisor ?a_only_at ?l_only_at ?c_only_at ?k_only_at ?a_widened ?l_widened ?c_widened ?k_widened ?a_lean ?l_lean ?c_lean ?k_lean ?a_cleared ?l_cleared ?c_cleared ?k_cleared ?a_first_with ?l_first_with ?c_first_with ?k_first_with ?a_turned ?l_turned ?c_turned ?k_turned ?a_pair_of ?l_pair_of ?c_pair_of ?k_pair_of ?at_Singular__init__ ?fn_Singular__init__ ?l_Singular__init__ ?c_Singular__init__ ?k_Singular__init__ ?a_paper_of ?l_paper_of ?c_paper_of ?k_paper_of ?a__law_cell_at ?l__law_cell_at ?c__law_cell_at ?k__law_cell_at ?a__law_whole ?l__law_whole ?c__law_whole ?k__law_whole ?a__law_mix ?l__law_mix ?c__law_mix ?k__law_mix ?a__law_divisor ?l__law_divisor ?c__law_divisor ?k__law_divisor ?a__law_mixed ?l__law_mixed ?c__law_mixed ?k__law_mixed ?a__law_entry ?l__law_entry ?c__law_entry ?k__law_entry ?a__law_square ?l__law_square ?c__law_square ?k__law_square ?a__law_paper_told ?l__law_paper_told ?c__law_paper_told ?k__law_paper_told ?a__law_mix_told ?l__law_mix_told ?c__law_mix_told ?k__law_mix_told ?a__law_mix_again ?l__law_mix_again ?c__law_mix_again ?k__law_mix_again ?a__law_by_base ?l__law_by_base ?c__law_by_base ?k__law_by_base ?a_law ?l_law ?c_law ?k_law
   (case a_BooksError => k_is)
   (case a_NoNumber => k_is)
   (case a_Ringed => k_is)
   (case a_Singular => k_is)
   (case xga_Singular => k_is)
   (case xgh_Singular => k_is)
   (case xsa_Singular => k_is)
   (case xcl_Singular => k_is)
   (case nz_abs => k_is)
   (case nz_range => k_is)
   (case nz_len => k_is)
   (case nz_enumerate => k_is)
   (case nz_list => k_is)
   (case nz_zip => k_is)
   (case nz_isinstance => k_is)
   (case nz_int => k_is)
   (case nz_bool => k_is)
   (case nz_sum => k_is)
   (case nz_tuple => k_is)
   (case nz_any => k_is)
   (case nz_ValueError => k_is)
   (case n_mix => k_is)
   (case a_divisor => k_is)
   (case l_divisor => k_is)
   (case c_divisor => k_is)
   (case k_divisor => k_is)
   (case a_only_at => k_is)
   (case l_only_at => k_is)
   (case c_only_at => k_is)
   (case k_only_at => k_is)
   (case a_widened => k_is)
   (case l_widened => k_is)
   (case c_widened => k_is)
   (case k_widened => k_is)
   (case a_lean => k_is)
   (case l_lean => k_is)
   (case c_lean => k_is)
   (case k_lean => k_is)
   (case a_cleared => k_is)
   (case l_cleared => k_is)
   (case c_cleared => k_is)
   (case k_cleared => k_is)
   (case a_first_with => k_is)
   (case l_first_with => k_is)
   (case c_first_with => k_is)
   (case k_first_with => k_is)
   (case a_turned => k_is)
   (case l_turned => k_is)
   (case c_turned => k_is)
   (case k_turned => k_is)
   (case a_pair_of => k_is)
   (case l_pair_of => k_is)
   (case c_pair_of => k_is)
   (case k_pair_of => k_is)
   (case at_Singular__init__ => k_is)
   (case fn_Singular__init__ => k_is)
   (case l_Singular__init__ => k_is)
   (case c_Singular__init__ => k_is)
   (case k_Singular__init__ => k_is)
   (case a_paper_of => k_is)
   (case l_paper_of => k_is)
   (case c_paper_of => k_is)
   (case k_paper_of => k_is)
   (case a__law_cell_at => k_is)
   (case l__law_cell_at => k_is)
   (case c__law_cell_at => k_is)
   (case k__law_cell_at => k_is)
   (case a__law_whole => k_is)
   (case l__law_whole => k_is)
   (case c__law_whole => k_is)
   (case k__law_whole => k_is)
   (case a__law_mix => k_is)
   (case l__law_mix => k_is)
   (case c__law_mix => k_is)
   (case k__law_mix => k_is)
   (case a__law_divisor => k_is)
   (case l__law_divisor => k_is)
   (case c__law_divisor => k_is)
   (case k__law_divisor => k_is)
   (case a__law_mixed => k_is)
   (case l__law_mixed => k_is)
   (case c__law_mixed => k_is)
   (case k__law_mixed => k_is)
   (case a__law_entry => k_is)
   (case l__law_entry => k_is)
   (case c__law_entry => k_is)
   (case k__law_entry => k_is)
   (case a__law_square => k_is)
   (case l__law_square => k_is)
   (case c__law_square => k_is)
   (case k__law_square => k_is)
   (case a__law_paper_told => k_is)
   (case l__law_paper_told => k_is)
   (case c__law_paper_told => k_is)
   (case k__law_paper_told => k_is)
   (case a__law_mix_told => k_is)
   (case l__law_mix_told => k_is)
   (case c__law_mix_told => k_is)
   (case k__law_mix_told => k_is)
   (case a__law_mix_again => k_is)
   (case l__law_mix_again => k_is)
   (case c__law_mix_again => k_is)
   (case k__law_mix_again => k_is)
   (case a__law_by_base => k_is)
   (case l__law_by_base => k_is)
   (case c__law_by_base => k_is)
   (case k__law_by_base => k_is)
   (case a_law => k_is)
   (case l_law => k_is)
   (case c_law => k_is)
   (case k_law => k_is)
   (case xs_Singular => kernel_rfl)
   (case q_ib => kernel_rfl)
   (case q_ms => kernel_rfl)
   (case q_mb => kernel_rfl)
   (case q_sv => kernel_rfl)
   (case q_sSingular => kernel_rfl)
   (case q_sRinged => kernel_rfl)
   (case q_sNoNumber => kernel_rfl)
#print axioms PySem.Challenge.cw_groupbooks_k45_whole_paper_or_mix_holds
