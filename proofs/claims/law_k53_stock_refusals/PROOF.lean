import PyProof.Rows.All
import Wide.All
import OpenK.AllK
import Wide.FinOn
import Lean
import PyProof.EqAt
import PyProof.EqKinds
import PyProof.TupleCall
import PyProof.StationsW
import PyProof.RulesAs
import PyProof.ExcClass2
import PyProof.ExcInit
import PyProof.InstStore
import PyProof.ExcBaseAll.ValueError
import PyProof.ExcArgs
import PyProof.IsiBase
import PyProof.NsDelKeeps
import PyProof.CompFree
import PyProof.CompUse
import KE.LcSums
import PyProof.Rows.SortWalk
import PyProof.DictWalks
import PyProof.Rows.MinMaxN
import PyProof.Rows.DictUnroll
import PyProof.StrBlockI
import PyProof.NeKinds
import PyProof.AutoListH
import KE.KItemsList
import KE.RegMulBits
import KE.KDictOf
import PyProof.AttrMissHeap
import KE.KDictList
import KE.KRevIter
import KE.KSortTup
import PyProof.Rows.EnumRows
import PyProof.EnumFor
import PyProof.ConsumeWalk
import PyProof.TupleOfSeq
import PyProof.Draws
import PyProof.FactsAll.set
import PyProof.DictItems
import KE.KPairComp
import PyProof.DictValues
import PySem.Challenge.RW_groupbooks_k53_stock_refusals
set_option Elab.async false
set_option linter.all false
set_option maxRecDepth 100000
set_option maxHeartbeats 4000000
section
open PySem PySem.W PyProof.Rows
set_option maxHeartbeats 0
noncomputable def K53.runTop (p : Program) (w : World) (m : Nat) : Nat → SharedT → Thread → Option SharedT
 | 0, _, _ => none
 | k + 1, s, t => match through t with
   | true => some s
   | false => match PySem.W.Fast.tw6613529449190102663 m (some (.ref 6)) t with
     | false => none
     | true => match PySem.W.Fast.tw10156331382660048174 (PySem.W.Fast.tw11892475500146522536 treeTable) p w s t with
       | some x => K53.runTop p w m k x.1 x.2
       | none => none
theorem K53.runTop_eq (p : Program) (w : World) (m : Nat) : ∀ (k : Nat) (s s' : SharedT) (t : Thread),
   K53.runTop p w m k s t = some s' → topRun treeTable p w m (some (.ref 6)) k s.abs t = some s'.abs
 | 0, _, _, _, h => by cases h
 | k + 1, s, s', t, h => by
   unfold K53.runTop at h
   unfold topRun
   cases hT : through t with
   | true => rw [hT] at h; cases h; rfl
   | false =>
     rw [hT] at h
     dsimp only at h ⊢
     rw [← PySem.W.Fast.te6613529449190102663] at h
     cases hk : stepOk m (some (.ref 6)) t with
     | false => rw [hk] at h; exact absurd h (by simp)
     | true =>
       rw [hk] at h
       dsimp only at h ⊢
       rw [← PySem.W.Fast.te10156331382660048174, ← PySem.W.Fast.te11892475500146522536] at h
       cases hs : stepT (denote treeTable) p w s t with
       | none => rw [hs] at h; exact absurd h (by simp)
       | some x =>
         rw [hs] at h
         rw [stepT_spec (s' := x.1) (t' := x.2) hs]
         exact K53.runTop_eq p w m k _ _ _ h
noncomputable def K53.bootT (P : Params) : BT := ((boot_heap P).objs.toList.foldl (fun a o => (a.1.ins a.2 o, a.2 + 1)) (BT.nil, 0)).1
theorem K53.boot_is (P : Params) : absHeap (K53.bootT P) 11 (boot_heap P).life = boot_heap P := by kernel_rfl
theorem K53.boot_has (P : Params) : ((boot_heap P).isNs mainGlobals, (boot_heap P).objs.size, (boot_heap P).nsMap mainGlobals "__annotations__") = (true, 11, some (.ref 6)) := by kernel_rfl
theorem K53.leftAtOnce {p q : Program} {lo : List Str} {A : Shared → Bool} {β : Type} {B : Shared → β} {D : World → β} {N : Nat} {g : Bool}
   (e : opening p = plainProg p.main.scope.names) (f : ∀ s, fenceModules? p s = some s) (hN : Nat.ble 600 N = true)
   (h : ∀ (w : World) (os : OsState), (K53.runTop p w 11 N ⟨K53.bootT w.params, 11, (boot_heap w.params).life, Array.mk [], boot_drawn, boot_toks, os⟩ (topStub p)).map
     (fun s => (staticsOk (importedModules p.main.body) (boot_heap w.params) s.abs.heap && namesBound p s.abs.heap && gensDone s.abs && laidKept (boot_heap w.params) s.abs.heap,
       openSeen q lo (importedModules p.main.body) A g s.abs, B s.abs)) = some (true, openGood q lo, D w)) : LeftO p q lo A B D N g := by
 intro w
 obtain ⟨⟨hh, gs, d, k, os⟩, e1, e2⟩ := Option.map_eq_some_iff.mp (boot_open e hN f w)
 obtain ⟨rfl, rfl, rfl, rfl⟩ : hh = boot_heap w.params ∧ gs = Array.mk [] ∧ d = boot_drawn ∧ k = boot_toks := by simpa using e2
 obtain ⟨s, h1, h2⟩ := Option.map_eq_some_iff.mp (h w os)
 have h3 := K53.runTop_eq _ _ _ _ _ _ _ h1
 have h4 := K53.boot_has w.params
 simp only [Prod.mk.injEq] at h2 h4
 unfold openEnds
 rw [e1]
 change Option.map _ (topFrom treeTable p w N _) = _
 unfold topFrom
 dsimp only
 rw [h4.1, h4.2.1, h4.2.2]
 have h5 : SharedT.abs ⟨K53.bootT w.params, 11, (boot_heap w.params).life, Array.mk [], boot_drawn, boot_toks, os⟩ = ⟨boot_heap w.params, Array.mk [], boot_drawn, boot_toks, os⟩ := by
   unfold SharedT.abs
   rw [K53.boot_is]
 rw [h5] at h3
 show ((topRun treeTable p w 11 (some (.ref 6)) N _ _).bind _).map _ = _
 rw [h3]
 dsimp only [Option.bind]
 rw [h2.1]
 show some (_, _) = _
 rw [h2.2.1, h2.2.2]
def K53.sieve {α : Type} : List α → List Bool → List α
 | a :: l, b :: m => bif b then a :: sieve l m else sieve l m
 | _, _ => []
def K53.headView : Program := { PySem.Challenge.pw_groupbooks_k53_stock_refusals with main := { PySem.Challenge.pw_groupbooks_k53_stock_refusals.main with
 body := K53.sieve PySem.Challenge.pw_groupbooks_k53_stock_refusals.main.body [false, false, false, false, false, false, false, false, false, false, false, false, false, false, false, false, false, false, false, false, false, false, false, false, false, false, false, false, false, false, false, false, true] } }
set_option hygiene false in
local macro_rules | `(tactic| o_head $H) => `(tactic|
 refine holds_open (q := K53.headView) (loose := [PySem.Str.ofString "_wall", PySem.Str.ofString "BooksError", PySem.Str.ofString "NoNumber", PySem.Str.ofString "BadAmount", PySem.Str.ofString "NoGoods", PySem.Str.ofString "TooFew", PySem.Str.ofString "portion", PySem.Str.ofString "layer_cost", PySem.Str.ofString "chain_costs", PySem.Str.ofString "chain_gains", PySem.Str.ofString "Holding", PySem.Str.ofString "Stock", PySem.Str.ofString "_law_cell", PySem.Str.ofString "_law_draw", PySem.Str.ofString "_law_names", PySem.Str.ofString "_law_whole", PySem.Str.ofString "_law_refusal", PySem.Str.ofString "_law_asked", PySem.Str.ofString "_law_due", PySem.Str.ofString "_law_done", PySem.Str.ofString "_law_held", PySem.Str.ofString "_law_costs", PySem.Str.ofString "_law_sums", PySem.Str.ofString "_law_summed", PySem.Str.ofString "_law_many", PySem.Str.ofString "_law_deed", PySem.Str.ofString "_law_alike"]) (N := 20000)
   (Yf := Hook.obs $H) (Ya := Hook.val $H) (YP := Hook.says $H)
   (XP := XL K53.headView []) (Xt := fun s => xlAt K53.headView [] s && recOk (RowW.records (OpenRow.toRowW (OpenLaw.row PySem.Challenge.rw_groupbooks_k53_stock_refusals))) s)
   (K53.leftAtOnce (by kernel_rfl) (fun s => by kernel_rfl) rfl (fun w os => by kernel_rfl)) (Hook.of $H) (Hook.keeps $H)
   (fun s e => xl_of s (Bool.and_eq_true_iff.mp e).1)
   XL.keeps (by rfl) (by rfl) (by rfl)
   (fun s e => recFacts_of (Bool.and_eq_true_iff.mp e).2) (by rfl) (by assumption) (by decide +kernel)
   ⟨rfl, rfl, rfl, rfl, rfl, by decide +kernel⟩ ?hw ?hc)
open_top K53.headTop for PySem.Challenge.rw_groupbooks_k53_stock_refusals
end
namespace L2
open PySem PySem.Spec PyProof.Rows
abbrev Key := Sum Int Str
def keyIs : Key → Value → Bool
 | .inl k, v => Value.isInt k v
 | .inr x, v => Value.isStrOf x v
def keyH (w : World) : Key → Int
 | .inl k => hashInt k
 | .inr x => hashStr w x
theorem keyIs_shape : ∀ {k : Key} {v : Value}, keyIs k v = true → (∃ i t, k = Sum.inl i ∧ v = Value.int i t) ∨ (∃ x t, k = Sum.inr x ∧ v = Value.str x t)
 | .inl i, v, h => by
   obtain ⟨t, e⟩ := Value.isInt_shape (k := i) (v := v) h
   exact .inl ⟨i, t, rfl, e⟩
 | .inr x, v, h => by
   obtain ⟨t, e⟩ := Value.isStrOf_shape (x := x) (v := v) h
   exact .inr ⟨x, t, rfl, e⟩
theorem keyIs_int (i : Int) (t : Tok) : keyIs (.inl i) (.int i t) = true := by simp [keyIs, Value.isInt]
theorem keyIs_str (x : Str) (t : Tok) : keyIs (.inr x) (.str x t) = true := by simp [keyIs, Value.isStrOf]
theorem key_ll (a b : Int) : decide ((Sum.inl a : Key) = Sum.inl b) = (a == b) := by
 by_cases e : a = b
 · subst e; simp
 · have h : ¬ (Sum.inl a : Key) = Sum.inl b := fun q => e (Sum.inl.inj q)
   rw [decide_eq_false h]
   exact (beq_eq_false_iff_ne.mpr e).symm
theorem key_rr (a b : Str) : decide ((Sum.inr a : Key) = Sum.inr b) = decide (a = b) := by
 by_cases e : a = b
 · subst e; simp
 · have h : ¬ (Sum.inr a : Key) = Sum.inr b := fun q => e (Sum.inr.inj q)
   rw [decide_eq_false h, decide_eq_false e]
theorem key_lr (a : Int) (b : Str) : decide ((Sum.inl a : Key) = Sum.inr b) = false := decide_eq_false (fun q => nomatch q)
theorem key_rl (a : Str) (b : Int) : decide ((Sum.inr a : Key) = Sum.inl b) = false := decide_eq_false (fun q => nomatch q)
def mixKind (prog : Program) (w : World) : PySem.KeyKind prog w Key where
 is := keyIs
 hash := keyH w
 inj := fun v a b ha hb => by
   rcases keyIs_shape ha with ⟨i, t, rfl, rfl⟩ | ⟨x, t, rfl, rfl⟩
   · rcases keyIs_shape hb with ⟨j, u, rfl, e⟩ | ⟨y, u, rfl, e⟩
     · injection e with e1 _; rw [e1]
     · exact nomatch e
   · rcases keyIs_shape hb with ⟨j, u, rfl, e⟩ | ⟨y, u, rfl, e⟩
     · exact nomatch e
     · injection e with e1 _; rw [e1]
 byValue := fun k v h => by
   rcases keyIs_shape h with ⟨i, t, rfl, rfl⟩ | ⟨x, t, rfl, rfl⟩ <;> rfl
 pyHash := fun hv h => by
   rcases keyIs_shape hv with ⟨i, t, rfl, rfl⟩ | ⟨x, t, rfl, rfl⟩
   · exact wpAny_pyHash_int h
   · exact wpAny_pyHash_str h
 eqBool := fun hu hv h => by
   rcases keyIs_shape hu with ⟨i, t, rfl, rfl⟩ | ⟨x, t, rfl, rfl⟩
   · rcases keyIs_shape hv with ⟨j, u, rfl, rfl⟩ | ⟨y, u, rfl, rfl⟩
     · rw [key_ll] at h; exact wpAny_eqBool_int h
     · rw [key_lr] at h; exact SeqAt.EqAt.int_str i t y u _ _ _ _ h
   · rcases keyIs_shape hv with ⟨j, u, rfl, rfl⟩ | ⟨y, u, rfl, rfl⟩
     · rw [key_rl] at h; exact SeqAt.EqAt.str_int x t j u _ _ _ _ h
     · rw [key_rr] at h; exact wpAny_eqBool_str h
 «strs» := fun k x t v h => by
   rcases keyIs_shape h with ⟨i, u, rfl, e⟩ | ⟨y, u, rfl, e⟩
   · exact nomatch e
   · injection e with e1 _
     subst e1
     cases v <;> rfl
theorem mixKind_int (prog : Program) (w : World) (i : Int) (t : Tok) : (mixKind prog w).is (.inl i) (.int i t) = true := keyIs_int i t
theorem mixKind_str (prog : Program) (w : World) (x : Str) (t : Tok) : (mixKind prog w).is (.inr x) (.str x t) = true := keyIs_str x t
end L2
namespace L2
open PySem PySem.Spec PyProof.Rows
inductive V where
 | non | bl (b : Bool) | int (i : Int) | str (x : Str) | byt (b : Array UInt8) | flt (b : UInt64) | ref (a : Addr) | ty (n : String)
 deriving DecidableEq
def RelV : V → Value → Prop
 | .non, u => u = Value.none
 | .bl b, u => u = Value.bool b
 | .int i, u => ∃ t, u = Value.int i t
 | .str x, u => ∃ t, u = Value.str x t
 | .byt b, u => ∃ t, u = Value.bytes b t
 | .flt b, u => ∃ t, u = Value.float b t
 | .ref a, u => u = Value.ref a
 | .ty n, u => u = Value.type n
abbrev Vals : List V → List Value → Prop := Paired RelV
theorem Vals.length {xs : List V} {us : List Value} (r : Vals xs us) : xs.length = us.length := Paired.length r
theorem Vals.get : ∀ {xs : List V} {us : List Value} {i : Nat} {x : V}, Vals xs us → xs[i]? = some x → ∃ u, us[i]? = some u ∧ RelV x u
 | _, _, _, _, .nil, e => by simp at e
 | _, _, 0, _, .cons r _, e => by simp at e; subst e; exact ⟨_, rfl, r⟩
 | _, _, i + 1, x, .cons _ t, e => by
   obtain ⟨u, h1, h2⟩ := Vals.get (i := i) (x := x) t (by simpa using e)
   exact ⟨u, by simpa using h1, h2⟩
theorem Vals.set {x : V} {u : Value} (r : RelV x u) : ∀ {xs : List V} {us : List Value} (i : Nat), Vals xs us → Vals (xs.set i x) (us.set i u)
 | _, _, _, .nil => .nil
 | _, _, 0, .cons _ t => .cons r t
 | _, _, i + 1, .cons q t => .cons q (Vals.set r i t)
theorem Vals.append : ∀ {xs ys : List V} {us ws : List Value}, Vals xs us → Vals ys ws → Vals (xs ++ ys) (us ++ ws)
 | _, _, _, _, .nil, s => s
 | _, _, _, _, .cons r t, s => .cons r (Vals.append t s)
theorem Vals.take : ∀ {xs : List V} {us : List Value} (n : Nat), Vals xs us → Vals (xs.take n) (us.take n)
 | _, _, 0, _ => .nil
 | _, _, _ + 1, .nil => .nil
 | _, _, n + 1, .cons r t => .cons r (Vals.take n t)
theorem Vals.drop : ∀ {xs : List V} {us : List Value} (n : Nat), Vals xs us → Vals (xs.drop n) (us.drop n)
 | _, _, 0, r => r
 | _, _, _ + 1, .nil => .nil
 | _, _, n + 1, .cons _ t => Vals.drop n t
theorem Vals.none_of : ∀ {xs : List V} {us : List Value} {i : Nat}, Vals xs us → xs[i]? = none → us[i]? = none := fun {xs us i} r e => by
 have h1 := r.length
 have h2 : xs.length ≤ i := List.getElem?_eq_none_iff.mp e
 exact List.getElem?_eq_none_iff.mpr (by omega)
def RelO : Option V → Option Value → Prop
 | some v, some u => RelV v u
 | none, none => True
 | _, _ => False
def KV {κ : Type} : List (κ × V) → List (κ × Value) → Prop := Paired fun (p : κ × V) (q : κ × Value) => p.1 = q.1 ∧ RelV p.2 q.2
def kV : Key → V
 | .inl i => .int i
 | .inr x => .str x
inductive HO where
 /-- a list -/
 | lst (xs : List V)
 /-- a tuple (never changes) -/
 | tup (xs : List V)
 /-- a dict whose keys are ints and texts; one whose keys are tuples of ints and texts (the empty one is both) -/
 | dK (kvs : List (Key × V)) | dT (kvs : List (List Key × V))
 /-- a set of ints: its members, its size -/
 | set (S : Int → Bool) (n : Nat)
 /-- an instance of the class at C, its dict at dx, its attributes -/
 | ins (C dx : Addr) (fs : List (Str × V))
 /-- the dict of the instance at x -/
 | own (x : Addr)
 /-- the dict of an exception -/
 | xd (fs : List (Str × V))
 /-- a bound method, f of x -/
 | met (f x : Addr)
 /-- a range object lo, lo + 1, .. below hi -/
 | rng (lo hi : Int)
 /-- a thing that is known to the object (the script; a dict while a loop walks it): read, never written while it is so -/
 | frz (o : Obj) (u : HO)
 /-- a code object's table -/
 | tbl (ps : Array Value)
 /-- any other thing, by what is true of its one object (a def of one's own: SetO a S n := HO.ext fun h => ..) -/
 | ext (φ : Heap → Prop)
abbrev Hp := Addr → Option HO
def upd (H : Hp) (a : Addr) (o : HO) : Hp := fun b => if b = a then some o else H b
theorem upd_same {H : Hp} {a : Addr} {o : HO} : upd H a o a = some o := by unfold upd; rw [if_pos rfl]
theorem upd_ne {H : Hp} {a b : Addr} {o : HO} (h : b ≠ a) : upd H a o b = H b := by unfold upd; rw [if_neg h]
theorem ne_of {H : Hp} {a b : Addr} {o u : HO} (h : H a = some o) (h' : H b = some u) (d : o ≠ u) : a ≠ b := by
 intro e; subst e; rw [h] at h'; exact d (Option.some.inj h')
theorem ne_of_none {H : Hp} {a b : Addr} {o : HO} (h : H a = some o) (h' : H b = none) : a ≠ b := by
 intro e; subst e; rw [h] at h'; cases h'
section
variable (P : Program) (w : World)
def ObjOk (H : Hp) (h : Heap) (a : Addr) : HO → Prop
 | .lst xs => xs.length ≤ sizeLine ∧ ∃ (its : List Value) (n : Nat), Vals xs its ∧ h.get? a = some { cls := .type "list", data := .seq its.toArray n }
 | .tup xs => xs.length ≤ sizeLine ∧ ∃ its : List Value, Vals xs its ∧ IsTup h a its.toArray
 | .dK kvs => kvs.length ≤ sizeLine ∧ (a == sysModules) = false ∧ ∃ vs, KV kvs vs ∧ h.DictOf (mixKind P w) a vs
 | .dT kvs => kvs.length ≤ sizeLine ∧ (a == sysModules) = false ∧ ∃ xs : List (List Key × Addr × Value),
     Paired (fun (p : List Key × V) (q : List Key × Addr × Value) => p.1 = q.1 ∧ H q.2.1 = some (.tup (p.1.map kV)) ∧ RelV p.2 q.2.2) kvs xs ∧
     ∃ o es ep, h.get? a = some o ∧ o.ExactDict ∧ o.data = .dict es ep ∧ es.toList = xs.map (entryOfKey (tupleKind (mixKind P w))) ∧ (xs.map (·.1)).Nodup
 | .set S n => h.SetOf (intKind P w) a S n
 | .ins C dx fs => H dx = some (.own a) ∧ fs.length ≤ 1000 ∧ dx ≠ a ∧ h.get? a = some (PySem.W.instObj C dx) ∧
     ∃ mA, h.Ns1 dx mA ∧ (∀ f, RelO (fs.lookup f) (mA f)) ∧ PySem.Within mA (fs.map (·.1))
 | .own _ => ∃ o, h.get? a = some o
 | .xd fs => ∃ mA, h.Ns1 a mA ∧ ∀ f, RelO (fs.lookup f) (mA f)
 | .rng lo hi => ∃ t u v, h.get? a = some { cls := .type "range", data := .fields #[.int lo t, .int hi u, .int 1 v] }
 | .frz o u => h.get? a = some o ∧ ObjOk H h a u
 | .tbl ps => h.get? a = some { cls := .none, data := .fields ps }
 | .met f x => h.get? a = some (PySem.W.methodObj (.ref f) (.ref x))
 | .ext φ => φ h ∧ (∃ o, h.get? a = some o) ∧ ∀ h1 h2 : Heap, φ h1 → (∀ o, h1.get? a = some o → h2.get? a = some o) → φ h2
def HOk (H : Hp) (h : Heap) : Prop := ∀ a o, H a = some o → ObjOk P w H h a o
end
section
variable {P : Program} {w : World} {H H' : Hp} {h h' : Heap} {a : Addr} {o : HO}
theorem ObjOk.lt (x : ObjOk P w H h a o) : a < h.objs.size := by
 cases o with
 | lst xs => obtain ⟨_, _, _, _, e⟩ := x; exact Heap.lt_size e
 | tup xs => obtain ⟨_, _, _, p⟩ := x; exact p.lt
 | dK kvs => obtain ⟨_, _, _, _, o, _, _, e, _⟩ := x; exact Heap.lt_size e
 | dT kvs => obtain ⟨_, _, _, _, o, _, _, e, _⟩ := x; exact Heap.lt_size e
 | set S n => obtain ⟨o, _, _, _, e, _⟩ := x; exact Heap.lt_size e
 | ins C dx fs => obtain ⟨_, _, _, e, _⟩ := x; exact Heap.lt_size e
 | own y => obtain ⟨_, e⟩ := x; exact Heap.lt_size e
 | xd fs => obtain ⟨_, ⟨_, _, _, e, _⟩, _⟩ := x; exact Heap.lt_size e
 | rng lo hi => obtain ⟨_, _, _, e⟩ := x; exact Heap.lt_size e
 | frz ob u => obtain ⟨e, _⟩ := x; exact Heap.lt_size e
 | tbl ps => exact Heap.lt_size (show h.get? a = some _ from x)
 | met f y => exact Heap.lt_size (show h.get? a = some _ from x)
 | ext φ => obtain ⟨_, ⟨_, e⟩, _⟩ := x; exact Heap.lt_size e
theorem Paired.mapP {α β : Type} {F G : α → β → Prop} : ∀ {l₁ : List α} {l₂ : List β}, Paired F l₁ l₂ → (∀ a b, F a b → G a b) → Paired G l₁ l₂
 | _, _, .nil, _ => .nil
 | _, _, .cons r t, f => .cons (f _ _ r) (Paired.mapP t f)
theorem ObjOk.stay (x : ObjOk P w H h a o) (k : ∀ b u, (b = a ∨ H b = some (.own a)) → h.get? b = some u → h'.get? b = some u)
   (ho : ∀ b, H b = some (.own a) → H' b = some (.own a)) (ht : ∀ b xs, H b = some (.tup xs) → H' b = some (.tup xs)) : ObjOk P w H' h' a o := by
 induction o with
 | lst xs => obtain ⟨z, its, n, r, e⟩ := x; exact ⟨z, its, n, r, k _ _ (.inl rfl) e⟩
 | tup xs => obtain ⟨z, its, r, ob, e, c⟩ := x; exact ⟨z, its, r, ob, k _ _ (.inl rfl) e, c⟩
 | dK kvs => obtain ⟨z, y, vs, r, ob, es, ep, e, c⟩ := x; exact ⟨z, y, vs, r, ob, es, ep, k _ _ (.inl rfl) e, c⟩
 | dT kvs =>
   obtain ⟨z, y, xs, r, ob, es, ep, e, c⟩ := x
   exact ⟨z, y, xs, Paired.mapP r fun p q z => ⟨z.1, ht _ _ z.2.1, z.2.2⟩, ob, es, ep, k _ _ (.inl rfl) e, c⟩
 | set S n => obtain ⟨ob, es, ep, t, e, c⟩ := x; exact ⟨ob, es, ep, t, k _ _ (.inl rfl) e, c⟩
 | ins C dx fs =>
   obtain ⟨d, z, ne, e, mA, ⟨od, es, ep, e2, c⟩, r⟩ := x
   exact ⟨ho _ d, z, ne, k _ _ (.inl rfl) e, mA, ⟨od, es, ep, k _ _ (.inr d) e2, c⟩, r⟩
 | own y => obtain ⟨ob, e⟩ := x; exact ⟨ob, k _ _ (.inl rfl) e⟩
 | xd fs => obtain ⟨mA, ⟨od, es, ep, e, c⟩, r⟩ := x; exact ⟨mA, ⟨od, es, ep, k _ _ (.inl rfl) e, c⟩, r⟩
 | rng lo hi => obtain ⟨t, u, v, e⟩ := x; exact ⟨t, u, v, k _ _ (.inl rfl) e⟩
 | frz ob u ih => obtain ⟨e, q⟩ := x; exact ⟨k _ _ (.inl rfl) e, ih q⟩
 | tbl ps =>
   have e : h.get? a = some { cls := .none, data := .fields ps } := x
   show h'.get? a = some { cls := .none, data := .fields ps }
   exact k a _ (.inl rfl) e
 | met f y =>
   have e : h.get? a = some (PySem.W.methodObj (.ref f) (.ref y)) := x
   show h'.get? a = some (PySem.W.methodObj (.ref f) (.ref y))
   exact k a _ (.inl rfl) e
 | ext φ => obtain ⟨p, ⟨o, e⟩, st⟩ := x; exact ⟨st _ _ p fun o q => k _ _ (.inl rfl) q, ⟨o, k _ _ (.inl rfl) e⟩, st⟩
theorem HOk.lt (x : HOk P w H h) (e : H a = some o) : a < h.objs.size := (x a o e).lt
theorem HOk.fresh (x : HOk P w H h) (e : h.objs.size ≤ a) : H a = none := by
 cases q : H a with
 | none => rfl
 | some u => exact absurd (Nat.lt_of_lt_of_le (x.lt q) e) (Nat.lt_irrefl _)
theorem HOk.kept (x : HOk P w H h) (k : ∀ b u, h.get? b = some u → h'.get? b = some u) : HOk P w H h' := fun a o e =>
 (x a o e).stay (fun b u _ q => k b u q) (fun _ q => q) fun _ _ q => q
theorem HOk.laid (x : HOk P w H h) (k : ∀ b u, h.get? b = some u → h'.get? b = some u) (hp : h.objs.size ≤ a) (new : ObjOk P w (upd H a o) h' a o) : HOk P w (upd H a o) h' := fun b u e => by
 have hn := x.fresh hp
 by_cases hb : b = a
 · subst hb; rw [upd_same] at e; cases e; exact new
 · rw [upd_ne hb] at e
   exact (x b u e).stay (fun c v _ q => k c v q) (fun c q => by rw [upd_ne (ne_of_none q hn)]; exact q) fun c xs q => by rw [upd_ne (ne_of_none q hn)]; exact q
end
def Rd (H : Hp) (a : Addr) (u : HO) : Prop := H a = some u ∨ ∃ o, H a = some (.frz o u)
theorem Rd.of {H : Hp} {a : Addr} {u : HO} (h : H a = some u) : Rd H a u := .inl h
theorem Rd.ok {P : Program} {w : World} {H : Hp} {h : Heap} {a : Addr} {u : HO} (r : Rd H a u) (x : HOk P w H h) : ObjOk P w H h a u := by
 rcases r with r | ⟨o, r⟩
 · exact x a u r
 · obtain ⟨_, q⟩ := x a _ r
   exact q
def Mut : Option HO → Prop
 | some (.lst _) => True
 | some (.dK _) => True
 | some (.dT _) => True
 | some (.set _ _) => True
 | some (.ins _ _ _) => True
 | some (.ext _) => True
 | _ => False
section
variable {P : Program} {w : World} {H : Hp} {h h' : Heap} {x e : Addr} {o' : HO}
theorem HOk.write (ok : HOk P w H h) (mu : Mut (H x)) (he : e = x ∨ H e = some (.own x)) (k : ∀ b u, b ≠ e → h.get? b = some u → h'.get? b = some u) (heo : ∃ u, h'.get? e = some u)
   (new : ObjOk P w (upd H x o') h' x o') : HOk P w (upd H x o') h' := fun b u q => by
 have nown : ∀ c y, H c = some (.own y) → c ≠ x := fun c y r z => by subst z; rw [r] at mu; exact mu
 have ntup : ∀ c xs, H c = some (.tup xs) → c ≠ x := fun c xs r z => by subst z; rw [r] at mu; exact mu
 by_cases hb : b = x
 · subst hb; rw [upd_same] at q; cases q; exact new
 · rw [upd_ne hb] at q
   by_cases hbe : b = e
   · have q' : H b = some (.own x) := by
       rcases he with z | z
       · exact absurd (hbe.trans z) hb
       · rw [hbe]; exact z
     rw [q] at q'; cases q'
     obtain ⟨v, hv⟩ := heo
     exact ⟨v, by rw [hbe]; exact hv⟩
   · refine (ok b u q).stay (fun c v hc r => k c v ?_ r) (fun c r => by rw [upd_ne (nown c b r)]; exact r) fun c xs r => by rw [upd_ne (ntup c xs r)]; exact r
     rcases hc with rfl | hc
     · exact hbe
     · rintro rfl
       rcases he with z | z
       · exact nown c b hc z
       · rw [hc] at z; cases z; exact hb rfl
end
structure Un (fs ex : List Addr) (H H' : Hp) (h h' : Heap) : Prop where
 keep : ∀ b o, h.get? b = some o → H b = none → b ∉ fs → b ∉ ex → h'.get? b = some o
 slot : ∀ b o, h.get? b = some o → H b = none → b ∈ fs → b ∉ ex → ∃ sl, h'.get? b = some { o with slots := sl }
 free : ∀ b o, h.get? b = some o → H b = none → b ∉ ex → H' b = none
 there : ∀ b o, h.get? b = some o → b ∉ ex → ∃ o', h'.get? b = some o'
 tups : ∀ b xs, H b = some (.tup xs) → H' b = some (.tup xs)
 frzs : ∀ b o u, H b = some (.frz o u) → H' b = some (.frz o u)
 tbls : ∀ b ps, H b = some (.tbl ps) → ∃ more, H' b = some (.tbl (ps ++ more))
section
variable {fs fs' ex ex' : List Addr} {H H1 H2 : Hp} {h h1 h2 h' : Heap} {a x e : Addr} {o : HO}
theorem Un.any (u : Un fs ex H H1 h h1) {b : Addr} {ob : Obj} (q : h.get? b = some ob) (n : H b = none) (hx : b ∉ ex) : ∃ sl, h1.get? b = some { ob with slots := sl } := by
 by_cases hb : b ∈ fs
 · exact u.slot b ob q n hb hx
 · exact ⟨ob.slots, u.keep b ob q n hb hx⟩
theorem Un.trans (a : Un fs ex H H1 h h1) (b : Un fs ex H1 H2 h1 h2) : Un fs ex H H2 h h2 where
 keep := fun c ob q n hc hx => b.keep c ob (a.keep c ob q n hc hx) (a.free c ob q n hx) hc hx
 slot := fun c ob q n hc hx => by
   obtain ⟨sl, e1⟩ := a.slot c ob q n hc hx
   obtain ⟨sl', e2⟩ := b.slot c _ e1 (a.free c ob q n hx) hc hx
   exact ⟨sl', e2⟩
 free := fun c ob q n hx => by
   obtain ⟨o', e1⟩ := a.there c ob q hx
   exact b.free c o' e1 (a.free c ob q n hx) hx
 there := fun c ob q hx => by
   obtain ⟨o', e1⟩ := a.there c ob q hx
   exact b.there c o' e1 hx
 tups := fun c xs q => b.tups c xs (a.tups c xs q)
 frzs := fun c ob xs q => b.frzs c ob xs (a.frzs c ob xs q)
 tbls := fun c ps q => by
   obtain ⟨m1, e1⟩ := a.tbls c ps q
   obtain ⟨m2, e2⟩ := b.tbls c _ e1
   exact ⟨m1 ++ m2, by rw [e2, Array.append_assoc]⟩
theorem Un.kept (k : ∀ b u, h.get? b = some u → h'.get? b = some u) : Un fs ex H H h h' :=
 ⟨fun b ob q _ _ _ => k b ob q, fun b ob q _ _ _ => ⟨ob.slots, k b ob q⟩, fun _ _ _ n _ => n, fun b ob q _ => ⟨ob, k b ob q⟩, fun _ _ q => q, fun _ _ _ q => q, fun _ ps q => ⟨#[], by rw [q]; simp⟩⟩
theorem Un.refl : Un fs ex H H h h := Un.kept fun _ _ q => q
theorem Un.laid (k : ∀ b u, h.get? b = some u → h'.get? b = some u) (hp : h.objs.size ≤ a) (hn : H a = none) : Un fs ex H (upd H a o) h h' where
 keep := fun b u q _ _ _ => k b u q
 slot := fun b u q _ _ _ => ⟨u.slots, k b u q⟩
 free := fun b u q n _ => by rw [upd_ne (Nat.ne_of_lt (Nat.lt_of_lt_of_le (Heap.lt_size q) hp))]; exact n
 there := fun b u q _ => ⟨u, k b u q⟩
 tups := fun b xs q => by rw [upd_ne (ne_of_none q hn)]; exact q
 frzs := fun b u xs q => by rw [upd_ne (ne_of_none q hn)]; exact q
 tbls := fun b ps q => ⟨#[], by rw [upd_ne (ne_of_none q hn), q]; simp⟩
theorem Un.write (mu : Mut (H x)) (he : e = x ∨ H e = some (.own x)) (k : ∀ b u, b ≠ e → h.get? b = some u → h'.get? b = some u) (heo : ∃ u, h'.get? e = some u) : Un fs ex H (upd H x o) h h' := by
 have hx : ∀ b, H b = none → b ≠ x := fun b n z => by subst z; rw [n] at mu; exact mu
 have hb : ∀ b, H b = none → b ≠ e := fun b n z => by
   subst z
   rcases he with r | r
   · exact hx b n r
   · rw [n] at r; cases r
 have hm : ∀ b u, H b = some u → ¬ Mut (some u) → b ≠ x := fun b u q nm z => by subst z; rw [q] at mu; exact nm mu
 refine ⟨fun b u q n _ _ => k b u (hb b n) q, fun b u q n _ _ => ⟨u.slots, k b u (hb b n) q⟩, fun b u q n _ => by rw [upd_ne (hx b n)]; exact n, fun b u q _ => ?_,
   fun b xs q => by rw [upd_ne (hm b _ q fun z => z)]; exact q, fun b u xs q => by rw [upd_ne (hm b _ q fun z => z)]; exact q, fun b ps q => ⟨#[], by rw [upd_ne (hm b _ q fun z => z), q]; simp⟩⟩
 by_cases hbe : b = e
 · subst hbe; exact heo
 · exact ⟨u, k b u hbe q⟩
theorem Un.mono (u : Un fs ex H H1 h h1) (hs : ∀ b ∈ fs, b ∈ fs') (hx : ∀ b ∈ ex, b ∈ ex') : Un fs' ex' H H1 h h1 :=
 ⟨fun b ob q n hb he => u.keep b ob q n (fun z => hb (hs b z)) fun z => he (hx b z), fun _ _ q n _ he => u.any q n fun z => he (hx _ z), fun b ob q n he => u.free b ob q n fun z => he (hx b z), fun b ob q he => u.there b ob q fun z => he (hx b z), u.tups, u.frzs, u.tbls⟩
end
def trk (h : Heap) (H : Hp) : List Addr := (List.range h.objs.size).filter fun a => (H a).isSome
def hidT (h : Heap) (H : Hp) : Heap := PySem.W.hideAll h (trk h H)
theorem hidT_size (h : Heap) (H : Hp) : (hidT h H).objs.size = h.objs.size := PySem.W.hideAll_size _ _
theorem hidT_get {h : Heap} {H : Hp} {b : Addr} {o : Obj} (e : h.get? b = some o) (n : H b = none) : (hidT h H).get? b = some o :=
 PySem.W.hideAll_get _ e fun hm => by
   have q : (H b).isSome = true := (List.mem_filter.mp hm).2
   rw [n] at q; simp at q
theorem of_hidT {h : Heap} {H : Hp} {b : Addr} {o : Obj} (e : (hidT h H).get? b = some o) : h.get? b = some o ∧ H b = none := by
 have e' : h.get? b = some o := PySem.W.of_hideAll (trk h H) e
 refine ⟨e', ?_⟩
 cases q : H b with
 | none => rfl
 | some x =>
   have hm : b ∈ trk h H := List.mem_filter.mpr ⟨List.mem_range.mpr (Heap.lt_size e'), by simp [q]⟩
   have z : (hidT h H).get? b = none := PySem.W.hideAll_none (trk h H) hm
   rw [z] at e; cases e
def allNews (g h : Heap) (L : Addr) : List (Addr × Obj) := (List.range h.objs.size).filterMap fun a => if a = L ∨ (g.get? a).isSome = true then none else (h.get? a).map fun o => (a, o)
def rest (g h : Heap) (L d : Addr) : List (Addr × Obj) := (allNews g h L).filter fun p => decide (p.1 ≠ d)
end L2
namespace L2
open PySem PySem.Spec PyProof.Rows
structure Mod (K : PySem.W.Frag) (mg : Str → Option Value) (base : Heap) : Prop where
 kin : K.In base
 glob : base.Ns mainGlobals mg
 blt : ∃ mb, base.Ns builtinsNs mb ∧ ∀ x : Str, x ≠ "__name__" → mb x = bootBuiltins x
 nolimit : base.NoLimit
structure Cx where
 prog : Program
 w : World
 K : PySem.W.Frag
 mg : Str → Option Value
 base : Heap
 A : Around
 N : List Str
 s₀ : Shared
 H₀ : Hp
 env : Env
 outer : List Env
 stack : List Env
 ex : List Addr
 fn : Str → Bool
 calm : Bool
 pn : List (Addr × Obj)
 xe : Value → Shared → Prop
def frs (l : List Env) : List Addr := l.filterMap (·.frame)
abbrev Cx.fs (X : Cx) : List Addr := frs X.outer
def Vis (sc : Scope) (x : Str) : Prop := sc.names.lookup x = some .local ∨ sc.names.lookup x = some .cell ∨ sc.names.lookup x = some .free
def Loc (sc : Scope) (x : Str) : Prop := sc.names.lookup x = some .local ∨ sc.names.lookup x = some .cell
def Look (env : Env) (h : Heap) (m : Str → Option Value) (x : Str) (u : Value) : Prop :=
 (env.kindOf x = some .local ∧ m x = some u) ∨ ((env.kindOf x = some .cell ∨ env.kindOf x = some .free) ∧ ∃ c, env.cells.lookup x = some c ∧ h.IsCell c (some u))
structure Cx.Ok (X : Cx) : Prop where
 mod : Mod X.K X.mg X.base
 kind : X.env.scope.kind = .function
 glob : X.env.globals = mainGlobals
 blt : X.env.builtins = builtinsNs
 above : X.s₀.heap.objs.size ≤ X.env.locals
 inj : ∀ x y c, X.env.cells.lookup x = some c → X.env.cells.lookup y = some c → x = y
 has : ∀ x, (X.env.kindOf x = some .cell ∨ X.env.kindOf x = some .free) → ∃ c, X.env.cells.lookup x = some c
 cab : ∀ x c, X.fn x = true → X.env.cells.lookup x = some c → X.s₀.heap.objs.size ≤ c
 hd : X.calm = true → X.A.handled = none
 frames : X.A.frames = some X.stack
 stk : X.stack = X.outer ∨ (X.stack = X.env :: X.outer ∧ X.env.frame = some X.env.locals)
 exf : ∀ b ∈ X.ex, b ≠ X.env.locals ∧ ∀ x c, X.env.cells.lookup x = some c → c ≠ b
 bs : ∀ b o, X.base.get? b = some o → X.s₀.heap.get? b = some o ∧ X.H₀ b = none
 bsz : X.base.objs.size ≤ X.s₀.heap.objs.size
 noex : ∀ b o, X.base.get? b = some o → b ∉ X.ex
 exfs : ∀ b ∈ X.ex, b ∉ X.fs
 funs : X.s₀.heap.FunFrames X.base X.outer
 frf : ∀ b ∈ X.fs, X.H₀ b = none
structure Inv (X : Cx) (pins : List (Addr × Obj)) (σ : List (Option V)) (H : Hp) (s : Shared) : Prop where
 ok : X.Ok
 os : s.os = X.s₀.os
 bare : AllBare s.gens
 base : Un X.fs X.ex X.H₀ H X.s₀.heap s.heap
 loc : ∃ m, s.heap.Ns X.env.locals m ∧ ∀ (i : Nat) (x : Str) (v : V), X.N[i]? = some x → σ[i]? = some (some v) → Vis X.env.scope x → ∃ u, RelV v u ∧ Look X.env s.heap m x u
 cell : ∀ x c, X.env.cells.lookup x = some c → ∃ v, s.heap.IsCell c v
 free : H X.env.locals = none
 freeC : ∀ x c, X.env.cells.lookup x = some c → H c = none
 pin : ∀ p ∈ X.pn ++ pins, s.heap.get? p.1 = some p.2 ∧ H p.1 = none ∧ p.1 ≠ X.env.locals ∧ p.1 ∉ X.fs ∧ ∀ v, p.2.data ≠ .cell v
 hok : HOk X.prog X.w H s.heap
 len : σ.length = X.N.length
section
variable {X : Cx} {pins : List (Addr × Obj)} {σ : List (Option V)} {H H' : Hp} {s : Shared} {h' : Heap}
theorem Cx.Ok.nofr (ok : X.Ok) {b : Addr} {o : Obj} (e : X.base.get? b = some o) : b ∉ X.fs := fun hb => by
 have := (ok.funs.mem hb).1
 rw [e] at this; cases this
theorem Inv.bs (I : Inv X pins σ H s) : ∀ b o, X.base.get? b = some o → s.heap.get? b = some o ∧ H b = none := fun b o e =>
 ⟨I.base.keep b o (I.ok.bs b o e).1 (I.ok.bs b o e).2 (I.ok.nofr e) (I.ok.noex b o e), I.base.free b o (I.ok.bs b o e).1 (I.ok.bs b o e).2 (I.ok.noex b o e)⟩
theorem Inv.bk (I : Inv X pins σ H s) : ∀ b o, X.base.get? b = some o → s.heap.get? b = some o := fun b o e => (I.bs b o e).1
theorem Inv.mod (I : Inv X pins σ H s) : Mod X.K X.mg X.base := I.ok.mod
theorem Inv.kIn (I : Inv X pins σ H s) : X.K.In s.heap := I.ok.mod.kin.keeps I.bk
theorem Inv.nolimit (I : Inv X pins σ H s) : s.heap.NoLimit := I.ok.mod.nolimit.keeps I.bk
theorem Inv.fr (I : Inv X pins σ H s) : ∃ m, Fr X.base X.env.locals s.heap m :=
 let ⟨m, hn, _⟩ := I.loc
 ⟨m, hn, I.bk, Nat.le_trans I.ok.bsz I.ok.above⟩
theorem Inv.lt (I : Inv X pins σ H s) : X.env.locals < s.heap.objs.size := let ⟨_, hn, _⟩ := I.loc; hn.lt
theorem Inv.sz (I : Inv X pins σ H s) : X.s₀.heap.objs.size ≤ s.heap.objs.size := Nat.le_trans I.ok.above (Nat.le_of_lt I.lt)
theorem Inv.nofs (I : Inv X pins σ H s) {a : Addr} (h : s.heap.objs.size ≤ a) : a ∉ X.fs := fun hb => by
 obtain ⟨_, o, ho, _⟩ := I.ok.funs.mem hb
 exact absurd (Nat.lt_of_lt_of_le (Heap.lt_size ho) (Nat.le_trans I.sz h)) (Nat.lt_irrefl _)
theorem Inv.cne (I : Inv X pins σ H s) : ∀ x c, X.env.cells.lookup x = some c → c ≠ X.env.locals := fun x c e z => by
 obtain ⟨v, o, ho, hd⟩ := I.cell x c e
 obtain ⟨m, ⟨o', es, ep, ho', hd', _⟩, _⟩ := I.loc
 rw [z, ho'] at ho; cases ho; rw [hd'] at hd; cases hd
theorem Inv.funs (I : Inv X pins σ H s) : s.heap.FunFrames X.base X.outer := by
 have all : ∀ (l : List Env), (∀ b ∈ frs l, b ∈ X.fs) → X.s₀.heap.FunFrames X.base l → s.heap.FunFrames X.base l := by
   intro l
   induction l with
   | nil => intro _ _; trivial
   | cons env r ih =>
     intro hs hl
     obtain ⟨hk, ⟨L, o, hf, hn, ho, hd⟩, hr⟩ := hl
     have hL : L ∈ X.fs := hs L (by unfold frs; rw [List.filterMap_cons, hf]; exact List.mem_cons_self)
     obtain ⟨sl, e⟩ := I.base.slot L o ho (I.ok.frf L hL) hL fun z => I.ok.exfs L z hL
     exact ⟨hk, ⟨L, _, hf, hn, e, hd⟩, ih (fun b hb => hs b (by unfold frs; rw [List.filterMap_cons, hf]; exact List.mem_cons_of_mem _ hb)) hr⟩
 exact all X.outer (fun _ hb => hb) I.ok.funs
theorem Inv.stack (I : Inv X pins σ H s) : s.heap.FunFrames X.base X.stack := by
 rcases I.ok.stk with e | ⟨e, hf⟩
 · rw [e]; exact I.funs
 · rw [e]
   obtain ⟨m, hn, _⟩ := I.loc
   refine .cons (by rw [I.ok.kind]; decide) hf hn ?_ I.funs
   exact Heap.get?_none_of_le (Nat.le_trans I.ok.bsz I.ok.above)
theorem Inv.stkSub (I : Inv X pins σ H s) : ∀ b ∈ frs X.stack, b ∈ X.env.locals :: X.fs := fun b hb => by
 rcases I.ok.stk with e | ⟨e, hf⟩
 · rw [e] at hb; exact List.mem_cons_of_mem _ hb
 · rw [e] at hb
   unfold frs at hb
   rw [List.filterMap_cons, hf] at hb
   exact hb
theorem Inv.stkFree (I : Inv X pins σ H s) : ∀ b ∈ frs X.stack, H b = none := fun b hb => by
 rcases List.mem_cons.mp (I.stkSub b hb) with e | hb
 · rw [e]; exact I.free
 · obtain ⟨_, o, ho, _⟩ := I.ok.funs.mem hb
   exact I.base.free b o ho (I.ok.frf b hb) fun z => I.ok.exfs b z hb
theorem Inv.step {g' : Array GenState} {t' : Nat} {d' : Drawn} {ch : List Addr} (I : Inv X pins σ H s)
   (hch : ∀ b ∈ ch, (b ∈ X.ex ∨ X.s₀.heap.objs.size ≤ b) ∧ b ≠ X.env.locals ∧ (∀ x c, X.env.cells.lookup x = some c → c ≠ b) ∧ ∀ p ∈ X.pn ++ pins, p.1 ≠ b)
   (keep : ∀ b o, b ≠ X.env.locals → b ∉ X.fs → b ∉ ch → s.heap.get? b = some o → H b = none → h'.get? b = some o)
   (slot : ∀ b o, b ≠ X.env.locals → b ∈ X.fs → b ∉ ch → s.heap.get? b = some o → H b = none → ∃ sl, h'.get? b = some { o with slots := sl }) (free : ∀ b o, b ∉ ch → s.heap.get? b = some o → H b = none → H' b = none)
   (there : ∀ b o, b ∉ ch → s.heap.get? b = some o → ∃ o', h'.get? b = some o')
   (tups : ∀ b xs, H b = some (.tup xs) → H' b = some (.tup xs)) (frzs : ∀ b o u, H b = some (.frz o u) → H' b = some (.frz o u)) (tbls : ∀ b ps, H b = some (.tbl ps) → ∃ more, H' b = some (.tbl (ps ++ more)))
   (ns : ∀ m, s.heap.Ns X.env.locals m → h'.Ns X.env.locals m) (hok : HOk X.prog X.w H' h') (hg : AllBare g') :
   Inv X pins σ H' { s with heap := h', gens := g', drawn := d', toks := t' } := by
 have neL : ∀ b o, X.s₀.heap.get? b = some o → b ≠ X.env.locals := fun b o e => Nat.ne_of_lt (Nat.lt_of_lt_of_le (Heap.lt_size e) I.ok.above)
 have neC : ∀ b o, X.s₀.heap.get? b = some o → b ∉ X.ex → b ∉ ch := fun b o e hx hb => by
   rcases (hch b hb).1 with z | z
   · exact hx z
   · exact absurd (Nat.lt_of_lt_of_le (Heap.lt_size e) z) (Nat.lt_irrefl _)
 have cellK : ∀ x c, X.env.cells.lookup x = some c → ∀ v, s.heap.IsCell c v → h'.IsCell c v := fun x c e v ⟨o, ho, hd⟩ => by
   have nch : c ∉ ch := fun z => (hch c z).2.2.1 x c e rfl
   by_cases hc : c ∈ X.fs
   · obtain ⟨sl, q⟩ := slot c o (I.cne x c e) hc nch ho (I.freeC x c e)
     exact ⟨_, q, hd⟩
   · exact ⟨o, keep c o (I.cne x c e) hc nch ho (I.freeC x c e), hd⟩
 refine ⟨I.ok, I.os, hg, ⟨fun b o e n hb hx => ?_, fun b o e n hb hx => ?_, fun b o e n hx => ?_, fun b o e hx => ?_, fun b xs e => tups b xs (I.base.tups b xs e), fun b o xs e => frzs b o xs (I.base.frzs b o xs e), fun b ps e => ?_⟩, ?_, fun x c e => ?_, ?_, fun x c e => ?_, fun p hp => ?_, hok, I.len⟩
 · exact keep b o (neL b o e) hb (neC b o e hx) (I.base.keep b o e n hb hx) (I.base.free b o e n hx)
 · obtain ⟨sl, e1⟩ := I.base.slot b o e n hb hx
   obtain ⟨sl', e2⟩ := slot b _ (neL b o e) hb (neC b o e hx) e1 (I.base.free b o e n hx)
   exact ⟨sl', e2⟩
 · obtain ⟨o', e1⟩ := I.base.there b o e hx
   exact free b o' (neC b o e hx) e1 (I.base.free b o e n hx)
 · obtain ⟨o', e1⟩ := I.base.there b o e hx
   exact there b o' (neC b o e hx) e1
 · obtain ⟨m1, e1⟩ := I.base.tbls b ps e
   obtain ⟨m2, e2⟩ := tbls b _ e1
   exact ⟨m1 ++ m2, by rw [e2, Array.append_assoc]⟩
 · obtain ⟨m, hn, hl⟩ := I.loc
   refine ⟨m, ns m hn, fun i x v e1 e2 e3 => ?_⟩
   obtain ⟨u, r, l⟩ := hl i x v e1 e2 e3
   refine ⟨u, r, ?_⟩
   rcases l with l | ⟨k, c, e, z⟩
   · exact .inl l
   · exact .inr ⟨k, c, e, cellK x c e _ z⟩
 · obtain ⟨v, z⟩ := I.cell x c e
   exact ⟨v, cellK x c e v z⟩
 · obtain ⟨m, ⟨o, _, _, ho, _⟩, _⟩ := I.loc
   exact free _ o (fun z => (hch _ z).2.1 rfl) ho I.free
 · obtain ⟨v, o, ho, hd⟩ := I.cell x c e
   exact free c o (fun z => (hch c z).2.2.1 x c e rfl) ho (I.freeC x c e)
 · obtain ⟨e, n, ne, nf, d⟩ := I.pin p hp
   have nch : p.1 ∉ ch := fun z => (hch p.1 z).2.2.2 p hp rfl
   exact ⟨keep p.1 p.2 ne nf nch e n, free p.1 p.2 nch e n, ne, nf, d⟩
theorem Inv.un {t' : Nat} (I : Inv X pins σ H s) (u : Un X.fs [] H H' s.heap h') (hok : HOk X.prog X.w H' h') : Inv X pins σ H' { s with heap := h', toks := t' } := by
 obtain ⟨m, ⟨o, es, ep, ho, r⟩, _⟩ := id I.loc
 obtain ⟨sl, hL⟩ := u.any ho I.free (by simp)
 exact I.step (g' := s.gens) (d' := s.drawn) (ch := []) (fun _ z => nomatch z) (fun b o _ hb _ e n => u.keep b o e n hb (by simp)) (fun b o _ hb _ e n => u.slot b o e n hb (by simp)) (fun b o _ e n => u.free b o e n (by simp)) (fun b o _ e => u.there b o e (by simp)) u.tups u.frzs u.tbls (fun m' hm => by
   obtain ⟨o', es', ep', ho', r'⟩ := hm
   rw [ho] at ho'; cases ho'
   exact ⟨_, es', ep', hL, r'⟩) hok I.bare
theorem Inv.call {g' : Array GenState} {t' : Nat} {d' : Drawn} {ch : List Addr} (I : Inv X pins σ H s) (u : Un (frs X.stack) ch H H' s.heap h') (hok : HOk X.prog X.w H' h') (hg : AllBare g')
   (hch : ∀ b ∈ ch, (b ∈ X.ex ∨ X.s₀.heap.objs.size ≤ b) ∧ b ≠ X.env.locals ∧ (∀ x c, X.env.cells.lookup x = some c → c ≠ b) ∧ ∀ p ∈ X.pn ++ pins, p.1 ≠ b) :
   Inv X pins σ H' { s with heap := h', gens := g', drawn := d', toks := t' } := by
 obtain ⟨m, ⟨o, es, ep, ho, r⟩, _⟩ := id I.loc
 obtain ⟨sl, hL⟩ := u.any ho I.free fun z => (hch _ z).2.1 rfl
 exact I.step (ch := ch) hch (fun b o hL hb hc e n => u.keep b o e n (fun z => (List.mem_cons.mp (I.stkSub b z)).elim hL hb) hc) (fun b o _ _ hc e n => u.any e n hc) (fun b o hc e n => u.free b o e n hc) (fun b o hc e => u.there b o e hc) u.tups u.frzs u.tbls (fun m' hm => by
   obtain ⟨o', es', ep', ho', r'⟩ := hm
   rw [ho] at ho'; cases ho'
   exact ⟨_, es', ep', hL, r'⟩) hok hg
theorem Inv.turned {t' : Nat} {it : Addr} (I : Inv X pins σ H s) (k : ∀ b o, b ≠ it → s.heap.get? b = some o → h'.get? b = some o) (hn : H it = none) (hL : it ≠ X.env.locals)
   (h1 : it ∈ X.ex ∨ X.s₀.heap.objs.size ≤ it) (h2 : ∀ x c, X.env.cells.lookup x = some c → c ≠ it) (h3 : ∀ p ∈ X.pn ++ pins, p.1 ≠ it) : Inv X pins σ H { s with heap := h', toks := t' } := by
 have nit : ∀ b u, H b = some u → b ≠ it := fun b u e z => by rw [z, hn] at e; cases e
 refine I.step (g' := s.gens) (d' := s.drawn) (ch := [it]) (fun b hb => ?_) (fun b o _ _ hc e _ => k b o (fun z => hc (by simp [z])) e) (fun b o _ _ hc e _ => ⟨o.slots, k b o (fun z => hc (by simp [z])) e⟩) (fun _ _ _ _ n => n)
   (fun b o hc e => ⟨o, k b o (fun z => hc (by simp [z])) e⟩) (fun _ _ e => e) (fun _ _ _ e => e) (fun b ps e => ⟨#[], by rw [e]; simp⟩) (fun m hm => ?_) (fun b u e => ?_) I.bare
 · have e : b = it := by simpa using hb
   subst e
   exact ⟨h1, hL, h2, h3⟩
 · obtain ⟨o, es, ep, ho, r⟩ := hm
   exact ⟨o, es, ep, k _ o (Ne.symm hL) ho, r⟩
 · refine (I.hok b u e).stay (fun c v hc q => k c v ?_ q) (fun _ q => q) fun _ _ q => q
   rcases hc with z | z
   · rw [z]; exact nit b u e
   · exact nit c _ z
theorem Inv.tok (I : Inv X pins σ H s) (t : Nat) : Inv X pins σ H { s with toks := t } := I.un (h' := s.heap) (t' := t) Un.refl I.hok
theorem Inv.kept {t' : Nat} (I : Inv X pins σ H s) (k : ∀ b u, s.heap.get? b = some u → h'.get? b = some u) : Inv X pins σ H { s with heap := h', toks := t' } := I.un (Un.kept k) (I.hok.kept k)
theorem Inv.laid {a : Addr} {o : HO} {t' : Nat} (I : Inv X pins σ H s) (k : ∀ b u, s.heap.get? b = some u → h'.get? b = some u) (hp : s.heap.objs.size ≤ a) (new : ObjOk X.prog X.w (upd H a o) h' a o) :
   Inv X pins σ (upd H a o) { s with heap := h', toks := t' } := I.un (Un.laid k hp (I.hok.fresh hp)) (I.hok.laid k hp new)
theorem Inv.write {x e : Addr} {o : HO} {t' : Nat} (I : Inv X pins σ H s) (mu : Mut (H x)) (he : e = x ∨ H e = some (.own x)) (k : ∀ b u, b ≠ e → s.heap.get? b = some u → h'.get? b = some u) (heo : ∃ u, h'.get? e = some u)
   (new : ObjOk X.prog X.w (upd H x o) h' x o) : Inv X pins σ (upd H x o) { s with heap := h', toks := t' } := I.un (Un.write mu he k heo) (I.hok.write mu he k heo new)
theorem Inv.pins_of {pins' : List (Addr × Obj)} (I : Inv X pins σ H s) (h : ∀ p ∈ pins', s.heap.get? p.1 = some p.2 ∧ H p.1 = none ∧ p.1 ≠ X.env.locals ∧ p.1 ∉ X.fs ∧ ∀ v, p.2.data ≠ .cell v) : Inv X pins' σ H s :=
 ⟨I.ok, I.os, I.bare, I.base, I.loc, I.cell, I.free, I.freeC, fun p hp => (List.mem_append.mp hp).elim (fun z => I.pin p (List.mem_append_left _ z)) (h p), I.hok, I.len⟩
theorem nodup_ix {N : List Str} (hN : N.Nodup) {i j : Nat} {x : Str} (a : N[i]? = some x) (b : N[j]? = some x) : i = j := by
 obtain ⟨h1, e1⟩ := List.getElem?_eq_some_iff.mp a
 obtain ⟨h2, e2⟩ := List.getElem?_eq_some_iff.mp b
 exact (List.getElem_inj hN).mp (e1.trans e2.symm)
theorem store_ok2 {M : Model} {A : Around} {E : Value → Shared → Prop} {i : Nat} {x : Str} {v : V} {u : Value} {Q : Unit → Shared → Prop} (I : Inv X pins σ H s) (hN : X.N.Nodup) (hi : X.N[i]? = some x) (hx : Loc X.env.scope x) (r : RelV v u)
   (h : ∀ s', Inv X pins (σ.set i (some v)) H s' → (∃ a, Heap.SameBut a s.heap s'.heap ∧ (a = X.env.locals ∨ X.env.cells.lookup x = some a)) → Q () s') (hf : X.fn x = true ∨ X.env.scope.names.lookup x = some .local := by first | exact .inl rfl | exact .inr rfl | assumption) : wpAny M A (storeName X.env x u) Q E s := by
 obtain ⟨m, hn, hl⟩ := id I.loc
 have hcls : (X.env.scope.kind == .class || (X.env.scope.kind == .module && X.env.locals != X.env.globals)) = false := by rw [I.ok.kind]; rfl
 have hiσ : i < σ.length := by rw [I.len]; exact (List.getElem?_eq_some_iff.mp hi).1
 have cne := I.cne
 have tracked : ∀ {a : Addr} {h' : Heap}, (∃ o, s.heap.get? a = some o ∧ H a = none) → Heap.SameBut a s.heap h' → HOk X.prog X.w H h' := fun {a h'} ha hs b ob e => by
   obtain ⟨_, _, hfree⟩ := ha
   refine (I.hok b ob e).stay (fun c w' hc q => (hs.2 c ?_).trans q) (fun _ q => q) fun _ _ q => q
   rintro rfl
   rcases hc with rfl | hc
   · rw [hfree] at e; cases e
   · rw [hfree] at hc; cases hc
 rcases hx with hk | hk
 · refine wpAny_storeName_local hk hn (fun h' hn' hs => ?_) hcls
   obtain ⟨oL, _, _, hoL, _⟩ := id hn
   refine h _ ⟨I.ok, I.os, I.bare, ⟨fun b o e n hb hx => ?_, fun b o e n hb hx => ?_, I.base.free, fun b o e hx => ?_, I.base.tups, I.base.frzs, I.base.tbls⟩, ⟨_, hn', fun j y v' e1 e2 e3 => ?_⟩, fun y c e => ?_, I.free, I.freeC, fun p hp => ?_, tracked ⟨oL, hoL, I.free⟩ hs, by simpa using I.len⟩ ⟨_, hs, .inl rfl⟩
   · exact (hs.2 b (Nat.ne_of_lt (Nat.lt_of_lt_of_le (Heap.lt_size e) I.ok.above))).trans (I.base.keep b o e n hb hx)
   · obtain ⟨sl, e1⟩ := I.base.slot b o e n hb hx
     exact ⟨sl, (hs.2 b (Nat.ne_of_lt (Nat.lt_of_lt_of_le (Heap.lt_size e) I.ok.above))).trans e1⟩
   · obtain ⟨o', e1⟩ := I.base.there b o e hx
     exact ⟨o', (hs.2 b (Nat.ne_of_lt (Nat.lt_of_lt_of_le (Heap.lt_size e) I.ok.above))).trans e1⟩
   · by_cases hj : j = i
     · subst hj
       rw [hi] at e1; cases e1
       rw [List.getElem?_set_self hiσ] at e2
       cases e2
       exact ⟨u, r, .inl ⟨hk, by simp⟩⟩
     · rw [List.getElem?_set_ne (Ne.symm hj)] at e2
       obtain ⟨u', r', q⟩ := hl j y v' e1 e2 e3
       refine ⟨u', r', ?_⟩
       rcases q with ⟨k, e⟩ | ⟨k, c, e, z⟩
       · refine .inl ⟨k, ?_⟩
         have : y ≠ x := fun e => hj (nodup_ix hN e1 (e ▸ hi))
         simp [this, e]
       · exact .inr ⟨k, c, e, z.sameBut hs (cne y c e)⟩
   · obtain ⟨w', z⟩ := I.cell y c e
     exact ⟨w', z.sameBut hs (cne y c e)⟩
   · obtain ⟨e, n, ne, nf, d⟩ := I.pin p hp
     exact ⟨(hs.2 p.1 ne).trans e, n, ne, nf, d⟩
 · have hfn : X.fn x = true := by
     rcases hf with z | z
     · exact z
     · rw [z] at hk; cases hk
   obtain ⟨c, hc⟩ := I.ok.has x (.inl hk)
   obtain ⟨w', z⟩ := I.cell x c hc
   refine wpAny_storeName_cell I.ok.kind hk hc z (fun h' hc' hs => ?_)
   obtain ⟨oc, hoc, hocd⟩ := id z
   refine h { s with heap := h' } ⟨I.ok, I.os, I.bare, ⟨fun b o e n hb hx => ?_, fun b o e n hb hx => ?_, I.base.free, fun b o e hx => ?_, I.base.tups, I.base.frzs, I.base.tbls⟩, ⟨m, hn.sameBut hs (Ne.symm (cne x c hc)), fun j y v' e1 e2 e3 => ?_⟩, fun y c' e => ?_, I.free, I.freeC, fun p hp => ?_, tracked ⟨oc, hoc, I.freeC x c hc⟩ hs, by simpa using I.len⟩ ⟨c, hs, .inr hc⟩
   · exact (hs.2 b (Nat.ne_of_lt (Nat.lt_of_lt_of_le (Heap.lt_size e) (I.ok.cab x c hfn hc)))).trans (I.base.keep b o e n hb hx)
   · obtain ⟨sl, e1⟩ := I.base.slot b o e n hb hx
     exact ⟨sl, (hs.2 b (Nat.ne_of_lt (Nat.lt_of_lt_of_le (Heap.lt_size e) (I.ok.cab x c hfn hc)))).trans e1⟩
   · obtain ⟨o', e1⟩ := I.base.there b o e hx
     exact ⟨o', (hs.2 b (Nat.ne_of_lt (Nat.lt_of_lt_of_le (Heap.lt_size e) (I.ok.cab x c hfn hc)))).trans e1⟩
   · by_cases hj : j = i
     · subst hj
       rw [hi] at e1; cases e1
       rw [List.getElem?_set_self hiσ] at e2
       cases e2
       exact ⟨u, r, .inr ⟨.inl hk, c, hc, hc'⟩⟩
     · rw [List.getElem?_set_ne (Ne.symm hj)] at e2
       obtain ⟨u', r', q⟩ := hl j y v' e1 e2 e3
       refine ⟨u', r', ?_⟩
       rcases q with q | ⟨k, c', e, z'⟩
       · exact .inl q
       · refine .inr ⟨k, c', e, z'.sameBut hs ?_⟩
         rintro rfl
         exact hj (nodup_ix hN e1 (I.ok.inj _ _ _ e hc ▸ hi))
   · by_cases hcc : c' = c
     · subst hcc; exact ⟨_, hc'⟩
     · obtain ⟨w2, z2⟩ := I.cell y c' e
       exact ⟨w2, z2.sameBut hs hcc⟩
   · obtain ⟨e, n, ne, nf, d⟩ := I.pin p hp
     refine ⟨(hs.2 p.1 ?_).trans e, n, ne, nf, d⟩
     intro q
     rw [q, hoc] at e
     have q' : oc = p.2 := Option.some.inj e
     exact d w' (by rw [← q']; exact hocd)
theorem store_ok {M : Model} {A : Around} {E : Value → Shared → Prop} {i : Nat} {x : Str} {v : V} {u : Value} {Q : Unit → Shared → Prop} (I : Inv X pins σ H s) (hN : X.N.Nodup) (hi : X.N[i]? = some x) (hx : Loc X.env.scope x) (r : RelV v u)
   (h : ∀ s', Inv X pins (σ.set i (some v)) H s' → Q () s') (hf : X.fn x = true ∨ X.env.scope.names.lookup x = some .local := by first | exact .inl rfl | exact .inr rfl | assumption) : wpAny M A (storeName X.env x u) Q E s :=
 store_ok2 I hN hi hx r (fun s' I' _ => h s' I') hf
theorem Inv.call' {s' : Shared} {ch : List Addr} (I : Inv X pins σ H s) (ho : s'.os = s.os) (u : Un (frs X.stack) ch H H' s.heap s'.heap) (hok : HOk X.prog X.w H' s'.heap) (hg : AllBare s'.gens)
   (hch : ∀ b ∈ ch, (b ∈ X.ex ∨ X.s₀.heap.objs.size ≤ b) ∧ b ≠ X.env.locals ∧ (∀ x c, X.env.cells.lookup x = some c → c ≠ b) ∧ ∀ p ∈ X.pn ++ pins, p.1 ≠ b) : Inv X pins σ H' s' := by
 obtain ⟨h', g', d', t', o'⟩ := s'
 have e : o' = s.os := ho
 subst e
 exact I.call (g' := g') (t' := t') (d' := d') u hok hg hch
end
abbrev XK := Value → Option Addr → Hp → Prop
abbrev St := List (Option V)
abbrev VK := V → Hp → Prop
abbrev TE := St → Hp → VK → Prop
abbrev TT := St → Hp → (Bool → Hp → Prop) → Prop
abbrev TA := St → Hp → (List V → Hp → Prop) → Prop
structure Ends where
 nx : St → Hp → Prop
 rt : VK
 bk : St → Hp → Prop := fun _ _ => False
 ct : St → Hp → Prop := fun _ _ => False
abbrev TS := Ends → St → Hp → Prop
def EP (X : Cx) (pins : List (Addr × Obj)) (σ : St) (Q : VK) (u : Value) (s' : Shared) : Prop := ∃ v H', Inv X pins σ H' s' ∧ RelV v u ∧ Q v H'
def TP (X : Cx) (pins : List (Addr × Obj)) (σ : St) (Q : Bool → Hp → Prop) (b : Bool) (s' : Shared) : Prop := ∃ H', Inv X pins σ H' s' ∧ Q b H'
def AP (X : Cx) (pins : List (Addr × Obj)) (σ : St) (Q : List V → Hp → Prop) (us : List Value) (s' : Shared) : Prop := ∃ vs H', Inv X pins σ H' s' ∧ Vals vs us ∧ Q vs H'
def SP (X : Cx) (pins : List (Addr × Obj)) (D : Ends) (f : Flow) (s' : Shared) : Prop :=
 match f with
 | .next => ∃ σ' H', Inv X pins σ' H' s' ∧ D.nx σ' H'
 | .brk => ∃ σ' H', Inv X pins σ' H' s' ∧ D.bk σ' H'
 | .cont => ∃ σ' H', Inv X pins σ' H' s' ∧ D.ct σ' H'
 | .ret u => ∃ v σ' H', Inv X pins σ' H' s' ∧ RelV v u ∧ D.rt v H'
def PE (X : Cx) (e : Expr) (t : TE) : Prop :=
 ∀ (pins : List (Addr × Obj)) (s : Shared) (σ : St) (H : Hp) (Q : VK), Inv X pins σ H s → t σ H Q → wpAny (model X.prog X.w) X.A (eval e X.env) (EP X pins σ Q) X.xe s
def PT (X : Cx) (e : Expr) (t : TT) : Prop :=
 ∀ (pins : List (Addr × Obj)) (s : Shared) (σ : St) (H : Hp) (Q : Bool → Hp → Prop), Inv X pins σ H s → t σ H Q → wpAny (model X.prog X.w) X.A (isTrue e X.env (eval e X.env)) (TP X pins σ Q) X.xe s
def PW (X : Cx) (e : Expr) (t : TT) : Prop :=
 ∀ (whole : Sem Value) (pins : List (Addr × Obj)) (s : Shared) (σ : St) (H : Hp) (Q : Bool → Hp → Prop), Inv X pins σ H s → t σ H Q → wpAny (model X.prog X.w) X.A (isTrue e X.env whole) (TP X pins σ Q) X.xe s
theorem PW.pt {X : Cx} {e : Expr} {t : TT} (h : PW X e t) : PT X e t := h _
def PA (X : Cx) (es : List Expr) (t : TA) : Prop :=
 ∀ (pos : Pos) (pins : List (Addr × Obj)) (s : Shared) (σ : St) (H : Hp) (Q : List V → Hp → Prop), Inv X pins σ H s → t σ H Q → wpAny (model X.prog X.w) X.A (spliced (backTo pos (starEach es X.env))) (AP X pins σ Q) X.xe s
def PS (X : Cx) (st : Stmt) (t : TS) : Prop :=
 ∀ (pins : List (Addr × Obj)) (s : Shared) (σ : St) (H : Hp) (D : Ends), Inv X pins σ H s → t D σ H → wpAny (model X.prog X.w) X.A (exec st X.env) (SP X pins D) X.xe s
def PSs (X : Cx) (st : List Stmt) (t : TS) : Prop :=
 ∀ (pins : List (Addr × Obj)) (s : Shared) (σ : St) (H : Hp) (D : Ends), Inv X pins σ H s → t D σ H → wpAny (model X.prog X.w) X.A (execs st X.env) (SP X pins D) X.xe s
theorem thn {α : Type} {t : Sem α} {Q Q' : α → Shared → Prop} {M : Model} {A : Around} {E : Value → Shared → Prop} {s : Shared} (h : wpAny M A t Q E s) (hQ : ∀ a s, Q a s → Q' a s) : wpAny M A t Q' E s := wpAny_mono h hQ fun _ _ x => x
end L2
namespace L2
open PySem PySem.Spec PyProof.Rows
section
variable {X : Cx}
def tVar (i : Nat) : TE := fun σ H Q => ∃ v, σ[i]? = some (some v) ∧ Q v H
def tC (v : V) : TE := fun _ H Q => Q v H
theorem pe_var {i : Nat} {x : Str} {pos : Pos} (hN : X.N[i]? = some x) (hv : Vis X.env.scope x) (hd : (x == ("__debug__" : Str)) = false := by decide) (hcd : (x == ("__classdict__" : Str)) = false := by decide) : PE X (.Name x pos) (tVar i) := by
 intro pins s σ H Q I h
 obtain ⟨v, e, h⟩ := h
 obtain ⟨m, hn, hl⟩ := I.loc
 obtain ⟨u, r, l⟩ := hl i x v hN e hv
 have fin : EP X pins σ Q u s := ⟨v, H, I, r, h⟩
 rcases l with ⟨hk, hm⟩ | ⟨hk, c, hc, hcell⟩
 · exact wpAny_Name (wpAny_loadName_local I.ok.kind hk hn hm fin) hd
 · rcases hk with hk | hk
   · exact wpAny_Name (wpAny_loadName_cell I.ok.kind hk hc hcell fin) hd
   · exact wpAny_Name (wpAny_loadName_free I.ok.kind hk hc hcell fin hcd) hd
theorem pe_int {i j pos} : PE X (.Constant (.int i) j pos) (tC (.int i)) := fun _ _ _ H _ I h => wpAny_Constant_int ⟨.int i, H, I.tok _, ⟨_, rfl⟩, h⟩
theorem pe_bl {b j pos} : PE X (.Constant (.bool b) j pos) (tC (.bl b)) := fun _ _ _ H _ I h => Constant_bool ⟨.bl b, H, I, rfl, h⟩
theorem pe_non {j pos} : PE X (.Constant .none j pos) (tC .non) := fun _ _ _ H _ I h => Constant_none ⟨.non, H, I, rfl, h⟩
theorem pe_str {x j pos} : PE X (.Constant (.str x) j pos) (tC (.str x)) := fun _ _ _ H _ I h => Calls.Constant_str ⟨.str x, H, I.tok _, ⟨_, rfl⟩, h⟩
def Gl (X : Cx) (x : Str) : Prop := X.env.kindOf x = some .globalImplicit
theorem ld_glob {E : Value → Shared → Prop} {pins : List (Addr × Obj)} {s : Shared} {σ : St} {H : Hp} {x : Str} {u : Value} {pos : Pos} {Q : Value → Shared → Prop} (I : Inv X pins σ H s) (hg : Gl X x) (hm : X.mg x = some u) (h : Q u s)
   (hd : (x == ("__debug__" : Str)) = false := by decide) : wpAny (model X.prog X.w) X.A (eval (.Name x pos) X.env) Q E s :=
 Calls.Name_function_global I.ok.kind hg (Calls.loadGlobal_global (by rw [I.ok.glob]; exact I.mod.glob.keeps I.bk) hm h) hd
theorem ld_blt {E : Value → Shared → Prop} {pins : List (Addr × Obj)} {s : Shared} {σ : St} {H : Hp} {x : Str} {u : Value} {pos : Pos} {Q : Value → Shared → Prop} (I : Inv X pins σ H s) (hg : Gl X x) (hm : X.mg x = none) (hv : bootBuiltins x = some u) (h : Q u s)
   (hn : x ≠ "__name__" := by decide) (hd : (x == ("__debug__" : Str)) = false := by decide) : wpAny (model X.prog X.w) X.A (eval (.Name x pos) X.env) Q E s := by
 obtain ⟨mb, h1, h2⟩ := I.mod.blt
 exact Calls.Name_function_global I.ok.kind hg (Calls.loadGlobal_builtin (by rw [I.ok.glob]; exact I.mod.glob.keeps I.bk) hm (by rw [I.ok.blt]; exact h1.keeps I.bk) ((h2 x hn).trans hv) h) hd
theorem pe_glob {x : Str} {v : V} {u : Value} {pos : Pos} (hg : Gl X x) (hm : X.mg x = some u) (r : RelV v u) (hd : (x == ("__debug__" : Str)) = false := by decide) : PE X (.Name x pos) (tC v) :=
 fun _ _ _ H _ I h => ld_glob I hg hm ⟨v, H, I, r, h⟩ hd
theorem pe_bltn {x : Str} {v : V} {u : Value} {pos : Pos} (hg : Gl X x) (hm : X.mg x = none) (hv : bootBuiltins x = some u) (r : RelV v u) (hn : x ≠ "__name__" := by decide) (hd : (x == ("__debug__" : Str)) = false := by decide) : PE X (.Name x pos) (tC v) :=
 fun _ _ _ H _ I h => ld_blt I hg hm hv ⟨v, H, I, r, h⟩ hn hd
variable {a b : Expr} {ta tb : TE} {pos : Pos}
def PC (X : Cx) (op : CmpOp) (a b : Expr) (t : TE) : Prop :=
 ∀ (pins : List (Addr × Obj)) (s : Shared) (σ : St) (H : Hp) (Q : VK), Inv X pins σ H s → t σ H Q →
   wpAny (model X.prog X.w) X.A (eval a X.env) (fun v s₁ => wpAny (model X.prog X.w) X.A (eval b X.env) (fun u s₂ => wpAny (model X.prog X.w) X.A (compareOp op v u) (EP X pins σ Q) X.xe s₂) X.xe s₁) X.xe s
theorem nobehind (b : Expr) {op : CmpOp} (h : op ≠ .In) (h2 : op ≠ .NotIn) : behindInMarks op b = false := by
 have e1 : (op == CmpOp.In) = false := by cases op <;> first | rfl | exact absurd rfl h
 have e2 : (op == CmpOp.NotIn) = false := by cases op <;> first | rfl | exact absurd rfl h2
 cases b <;> simp [behindInMarks, e1, e2]
def tB (t : TE) : TT := fun σ H Q => t σ H fun x H1 => ∃ c, x = .bl c ∧ Q c H1
theorem pt_cmp {op : CmpOp} {t : TE} (h : PC X op a b t) (h1 : behindInMarks op b = false := by first | exact nobehind _ (by decide) (by decide) | rfl) : PT X (.Compare a [op] [b] pos) (tB t) := by
 intro pins s σ H Q I hw
 refine wpAny_isTrue_Compare1 (thn (h pins s σ H _ I hw) fun v s1 h1 => thn h1 fun u s2 h2 => thn h2 fun c s3 ⟨x, H1, I1, r1, q1⟩ => ?_) h1
 obtain ⟨d, rfl, q⟩ := q1
 cases r1
 exact wpAny_truthy_bool ⟨H1, I1, q⟩
theorem pt_val {e : Expr} {t : TE} (h : PE X e t) (he : ∀ whole, isTrue e X.env whole = (do let v ← whole; standAt e.pos; holding [v] (truthy v)) := by intro _; rfl) : PT X e (tB t) := by
 intro pins s σ H Q I hw
 refine isTrue_plain (thn (h pins s σ H _ I hw) fun v s1 ⟨x, H1, I1, r1, q1⟩ => ?_) (he _)
 obtain ⟨d, rfl, q⟩ := q1
 cases r1
 exact wpAny_truthy_bool ⟨H1, I1, q⟩
variable {tA tB' : TT} {rest : List Expr}
def tAnd (t u : TT) : TT := fun σ H Q => t σ H fun c H1 => if c = true then u σ H1 Q else Q false H1
def tOr (t u : TT) : TT := fun σ H Q => t σ H fun c H1 => if c = true then Q true H1 else u σ H1 Q
def tNot (t : TT) : TT := fun σ H Q => t σ H fun c H1 => Q (!c) H1
theorem pw_and1 (ha : PT X a tA) : PW X (.BoolOp .And [a] pos) tA := by
 intro wh pins s σ H Q I h
 refine isTrue_and (thn (ha pins s σ H Q I h) fun c s1 e => ?_)
 cases c with
 | true => exact isTrue_and_nil e
 | false => exact e
theorem pw_or1 (ha : PT X a tA) : PW X (.BoolOp .Or [a] pos) tA := by
 intro wh pins s σ H Q I h
 refine isTrue_or (thn (ha pins s σ H Q I h) fun c s1 e => ?_)
 cases c with
 | false => exact isTrue_or_nil e
 | true => exact e
theorem pw_and (ha : PT X a tA) (hb : PW X (.BoolOp .And (b :: rest) pos) tB') : PW X (.BoolOp .And (a :: b :: rest) pos) (tAnd tA tB') := by
 intro wh pins s σ H Q I h
 refine isTrue_and (thn (ha pins s σ H _ I h) fun c s1 ⟨H1, I1, q1⟩ => ?_)
 cases c with
 | true => exact hb wh pins s1 σ H1 Q I1 q1
 | false => exact ⟨H1, I1, q1⟩
theorem pw_or (ha : PT X a tA) (hb : PW X (.BoolOp .Or (b :: rest) pos) tB') : PW X (.BoolOp .Or (a :: b :: rest) pos) (tOr tA tB') := by
 intro wh pins s σ H Q I h
 refine isTrue_or (thn (ha pins s σ H _ I h) fun c s1 ⟨H1, I1, q1⟩ => ?_)
 cases c with
 | true => exact ⟨H1, I1, q1⟩
 | false => exact hb wh pins s1 σ H1 Q I1 q1
theorem pt_not (ha : PT X a tA) : PT X (.UnaryOp .Not a pos) (tNot tA) := by
 intro pins s σ H Q I h
 exact isTrue_not (ha pins s σ H (fun c H1 => Q (!c) H1) I h)
def tAndV (ta tb : TE) : TE := fun σ H Q => ta σ H fun x H1 => ∃ c, x = .bl c ∧ if c = true then tb σ H1 Q else Q (.bl false) H1
def tOrV (ta tb : TE) : TE := fun σ H Q => ta σ H fun x H1 => ∃ c, x = .bl c ∧ if c = true then Q (.bl true) H1 else tb σ H1 Q
def tNotV (ta : TE) : TE := fun σ H Q => ta σ H fun x H1 => ∃ c, x = .bl c ∧ Q (.bl (!c)) H1
theorem pe_one {op} {t : TE} (h : PE X a t) : PE X (.BoolOp op [a] pos) t := fun pins s σ H Q I hw => BoolOp_one (h pins s σ H Q I hw)
theorem pe_and (ha : PE X a ta) (hb : PE X (.BoolOp .And (b :: rest) pos) tb) : PE X (.BoolOp .And (a :: b :: rest) pos) (tAndV ta tb) := by
 intro pins s σ H Q I h
 refine BoolOp_and (thn (ha pins s σ H _ I h) fun v s1 ⟨x, H1, I1, r1, q1⟩ => ?_)
 obtain ⟨c, rfl, q1⟩ := q1
 cases r1
 refine wpAny_truthy_bool ?_
 cases c with
 | true => exact hb pins s1 σ H1 Q I1 q1
 | false => exact ⟨.bl false, H1, I1, rfl, q1⟩
theorem pe_or (ha : PE X a ta) (hb : PE X (.BoolOp .Or (b :: rest) pos) tb) : PE X (.BoolOp .Or (a :: b :: rest) pos) (tOrV ta tb) := by
 intro pins s σ H Q I h
 refine BoolOp_or (thn (ha pins s σ H _ I h) fun v s1 ⟨x, H1, I1, r1, q1⟩ => ?_)
 obtain ⟨c, rfl, q1⟩ := q1
 cases r1
 refine wpAny_truthy_bool ?_
 cases c with
 | false => exact hb pins s1 σ H1 Q I1 q1
 | true => exact ⟨.bl true, H1, I1, rfl, q1⟩
theorem pe_not (ha : PE X a ta) : PE X (.UnaryOp .Not a pos) (tNotV ta) := by
 intro pins s σ H Q I h
 refine UnaryOp_ (thn (ha pins s σ H _ I h) fun v s1 ⟨x, H1, I1, r1, q1⟩ => ?_)
 obtain ⟨c, rfl, q1⟩ := q1
 cases r1
 exact not_of (wpAny_truthy_bool ⟨.bl (!c), H1, I1, rfl, q1⟩)
end
end L2
namespace L2
open PySem PySem.Spec PyProof.Rows
def SqL (K : PySem.W.Frag) (H : Hp) (a : Addr) (xs : List V) : Prop :=
 Rd H a (.lst xs) ∨
   ∃ (o : Obj) (its : Array Value) (n : Nat), K.lookup a = some o ∧ o.cls = .type "list" ∧ o.dict = none ∧ o.data = .seq its n ∧ its.size ≤ sizeLine ∧ Vals xs its.toList
def SqT (K : PySem.W.Frag) (H : Hp) (a : Addr) (xs : List V) : Prop :=
 Rd H a (.tup xs) ∨
   ∃ (o : Obj) (its : Array Value) (n : Nat), K.lookup a = some o ∧ o.cls = .type "tuple" ∧ o.data = .seq its n ∧ its.size ≤ sizeLine ∧ Vals xs its.toList
def absV : Value → Option V
 | .none => some .non
 | .bool b => some (.bl b)
 | .int i _ => some (.int i)
 | .str x _ => some (.str x)
 | .bytes b _ => some (.byt b)
 | .float b _ => some (.flt b)
 | .ref a => some (.ref a)
 | .type n => some (.ty n)
 | _ => none
theorem RelV.abs {x : V} {u : Value} (r : RelV x u) : absV u = some x := by
 cases x with
 | non => cases r; rfl
 | bl _ => cases r; rfl
 | int _ => obtain ⟨t, rfl⟩ := r; rfl
 | str _ => obtain ⟨t, rfl⟩ := r; rfl
 | byt _ => obtain ⟨t, rfl⟩ := r; rfl
 | flt _ => obtain ⟨t, rfl⟩ := r; rfl
 | ref _ => cases r; rfl
 | ty _ => cases r; rfl
theorem RelV.inj {x y : V} {u : Value} (r : RelV x u) (q : RelV y u) : x = y := Option.some.inj (r.abs.symm.trans q.abs)
theorem Vals.inj : ∀ {xs ys : List V} {us : List Value}, Vals xs us → Vals ys us → xs = ys
 | _, _, _, .nil, .nil => rfl
 | _, _, _, .cons r t, .cons r' t' => by rw [r.inj r', Vals.inj t t']
section
variable {X : Cx} {pins : List (Addr × Obj)} {σ : St} {H : Hp} {s : Shared} {a : Addr} {xs ys : List V}
theorem SqL.of {K : PySem.W.Frag} (h : H a = some (.lst xs)) : SqL K H a xs := .inl (.inl h)
theorem SqT.of {K : PySem.W.Frag} (h : H a = some (.tup xs)) : SqT K H a xs := .inl (.inl h)
theorem Inv.list (I : Inv X pins σ H s) (h : SqL X.K H a xs) : ∃ its : List Value, Vals xs its ∧ PlainL s.heap a its.toArray ∧ xs.length ≤ sizeLine := by
 rcases h with h | ⟨o, its, n, hk, hc, hd, hs, hz, r⟩
 · obtain ⟨z, its, n, r, e⟩ := h.ok I.hok
   exact ⟨its, r, ⟨_, n, e, rfl, rfl, rfl⟩, z⟩
 · refine ⟨its.toList, r, ⟨o, n, I.kIn a o hk, hc, hd, by simpa using hs⟩, ?_⟩
   have e := r.length
   simp only [Array.length_toList] at e
   omega
theorem Inv.tuple (I : Inv X pins σ H s) (h : SqT X.K H a xs) : ∃ its : List Value, Vals xs its ∧ IsTup s.heap a its.toArray ∧ xs.length ≤ sizeLine := by
 rcases h with h | ⟨o, its, n, hk, hc, hs, hz, r⟩
 · obtain ⟨z, its, r, p⟩ := h.ok I.hok
   exact ⟨its, r, p, z⟩
 · refine ⟨its.toList, r, ⟨o, I.kIn a o hk, hc, n, by simpa using hs⟩, ?_⟩
   have e := r.length
   simp only [Array.length_toList] at e
   omega
theorem Inv.list_inj (I : Inv X pins σ H s) (h : SqL X.K H a xs) (h' : SqL X.K H a ys) : xs = ys := by
 obtain ⟨its, r, ⟨o, n, e, _, _, d⟩, _⟩ := I.list h
 obtain ⟨its', r', ⟨o', n', e', _, _, d'⟩, _⟩ := I.list h'
 rw [e] at e'; cases e'
 rw [d] at d'
 injection d' with d1 _
 have : its = its' := by simpa using congrArg Array.toList d1
 subst this
 exact r.inj r'
theorem Inv.tuple_inj (I : Inv X pins σ H s) (h : SqT X.K H a xs) (h' : SqT X.K H a ys) : xs = ys := by
 obtain ⟨its, r, ⟨o, e, _, n, d⟩, _⟩ := I.tuple h
 obtain ⟨its', r', ⟨o', e', _, n', d'⟩, _⟩ := I.tuple h'
 rw [e] at e'; cases e'
 rw [d] at d'
 injection d' with d1 _
 have : its = its' := by simpa using congrArg Array.toList d1
 subst this
 exact r.inj r'
end
abbrev Cx.wish (X : Cx) (E : Value → Shared → Prop) : Cx := { X with xe := E }
abbrev Cx.nox (X : Cx) : Cx := X.wish fun _ _ => False
theorem Cx.Ok.wish {X : Cx} (ok : X.Ok) (E : Value → Shared → Prop) : (X.wish E).Ok :=
 ⟨ok.mod, ok.kind, ok.glob, ok.blt, ok.above, ok.inj, ok.has, ok.cab, ok.hd, ok.frames, ok.stk, ok.exf, ok.bs, ok.bsz, ok.noex, ok.exfs, ok.funs, ok.frf⟩
theorem Cx.Ok.unwish {X : Cx} {E : Value → Shared → Prop} (ok : (X.wish E).Ok) : X.Ok :=
 ⟨ok.mod, ok.kind, ok.glob, ok.blt, ok.above, ok.inj, ok.has, ok.cab, ok.hd, ok.frames, ok.stk, ok.exf, ok.bs, ok.bsz, ok.noex, ok.exfs, ok.funs, ok.frf⟩
section
variable {X : Cx} {pins : List (Addr × Obj)} {σ : St} {H : Hp} {s : Shared} {E : Value → Shared → Prop}
theorem Inv.wish (I : Inv X pins σ H s) (E : Value → Shared → Prop) : Inv (X.wish E) pins σ H s := ⟨I.ok.wish E, I.os, I.bare, I.base, I.loc, I.cell, I.free, I.freeC, I.pin, I.hok, I.len⟩
theorem Inv.unwish (I : Inv (X.wish E) pins σ H s) : Inv X pins σ H s := ⟨I.ok.unwish, I.os, I.bare, I.base, I.loc, I.cell, I.free, I.freeC, I.pin, I.hok, I.len⟩
theorem SP.unwish {D : Ends} {f : Flow} {s' : Shared} (h : SP (X.wish E) pins D f s') : SP X pins D f s' := by
 cases f with
 | next => obtain ⟨σ', H', I, q⟩ := h; exact ⟨σ', H', I.unwish, q⟩
 | brk => obtain ⟨σ', H', I, q⟩ := h; exact ⟨σ', H', I.unwish, q⟩
 | cont => obtain ⟨σ', H', I, q⟩ := h; exact ⟨σ', H', I.unwish, q⟩
 | ret u => obtain ⟨v, σ', H', I, r, q⟩ := h; exact ⟨v, σ', H', I.unwish, r, q⟩
theorem PE.nox {e : Expr} {t : TE} (h : PE X.nox e t) : PE X e t := fun pins s σ H Q I hw =>
 wpAny_mono (h pins s σ H Q (I.wish _) hw) (fun _ _ ⟨v, H', I', r, q⟩ => ⟨v, H', I'.unwish, r, q⟩) fun _ _ z => False.elim z
theorem PT.nox {e : Expr} {t : TT} (h : PT X.nox e t) : PT X e t := fun pins s σ H Q I hw =>
 wpAny_mono (h pins s σ H Q (I.wish _) hw) (fun _ _ ⟨H', I', q⟩ => ⟨H', I'.unwish, q⟩) fun _ _ z => False.elim z
theorem PSs.nox {st : List Stmt} {t : TS} (h : PSs X.nox st t) : PSs X st t := fun pins s σ H D I hw =>
 wpAny_mono (h pins s σ H D (I.wish _) hw) (fun _ _ q => q.unwish) fun _ _ z => False.elim z
end
section
variable {X : Cx} {st : Stmt} {rest : List Stmt} {t u : TS} {e : Expr} {te : TE} {pos : Pos}
def tNext : TS := fun D σ H => D.nx σ H
def tSeq (t u : TS) : TS := fun D σ H => t { D with nx := u D } σ H
theorem pss_nil : PSs X [] tNext := fun _ _ σ H _ I h => wpAny_execs_nil ⟨σ, H, I, h⟩
theorem pss_cons (h1 : PS X st t) (h2 : PSs X rest u) : PSs X (st :: rest) (tSeq t u) := by
 intro pins s σ H D I h
 refine wpAny_execs_cons (thn (h1 pins s σ H { D with nx := u D } I h) fun f s1 q => ?_)
 cases f with
 | next =>
   obtain ⟨σ', H', I', q⟩ := q
   exact h2 pins s1 σ' H' D I' q
 | ret v => exact q
 | brk => exact q
 | cont => exact q
theorem pss_one (h1 : PS X st t) : PSs X [st] t := by
 intro pins s σ H D I h
 refine wpAny_execs_cons (thn (h1 pins s σ H D I h) fun f s1 q => ?_)
 cases f with
 | next => exact wpAny_execs_nil q
 | ret v => exact q
 | brk => exact q
 | cont => exact q
theorem Inv.quiet {pins : List (Addr × Obj)} {σ : St} {H : Hp} {s : Shared} (I : Inv X pins σ H s) : interactive X.env = false := by simp [interactive, I.ok.kind]
def tDrop (te : TE) : TS := fun D σ H => te σ H fun _ H1 => D.nx σ H1
theorem ps_expr (he : PE X e te) (hs : swapsWith e none pos.line X.env = pure false := by rfl) : PS X (.Expr e pos) (tDrop te) := by
 intro pins s σ H D I h
 exact wpAny_Expr_any (thn (he pins s σ H _ I h) fun v s1 ⟨x, H1, I1, r1, q1⟩ => ⟨σ, H1, I1, q1⟩) I.quiet hs
def tRet (te : TE) : TS := fun D σ H => te σ H D.rt
theorem ps_ret (he : PE X e te) : PS X (.Return (some e) pos) (tRet te) := by
 intro pins s σ H D I h
 exact wpAny_Return_some (thn (he pins s σ H _ I h) fun v s1 ⟨x, H1, I1, r1, q1⟩ => ⟨x, σ, H1, I1, r1, q1⟩)
def tIfS (c : TT) (t u : TS) : TS := fun D σ H => c σ H fun b H1 => if b = true then t D σ H1 else u D σ H1
theorem ps_if {c : Expr} {a b : List Stmt} {tc : TT} (hc : PT X c tc) (ha : PSs X a t) (hb : PSs X b u) : PS X (.If c a b pos) (tIfS tc t u) := by
 intro pins s σ H D I h
 refine wpAny_If (thn (hc pins s σ H _ I h) fun d s1 ⟨H1, I1, q1⟩ => ?_)
 cases d with
 | true => exact ha pins s1 σ H1 D I1 q1
 | false => exact hb pins s1 σ H1 D I1 q1
end
abbrev TG := V → St → Hp → (St → Hp → Prop) → Prop
abbrev TGs := List V → St → Hp → (St → Hp → Prop) → Prop
def PG (X : Cx) (target : Expr) (t : TG) : Prop :=
 ∀ (pins : List (Addr × Obj)) (s : Shared) (σ : St) (H : Hp) (v : V) (u : Value) (Q : St → Hp → Prop), Inv X pins σ H s → RelV v u → t v σ H Q →
   wpAny (model X.prog X.w) X.A (assign target X.env u) (fun _ s' => ∃ σ' H', Inv X pins σ' H' s' ∧ Q σ' H') X.xe s
def PGs (X : Cx) (ts : List Expr) (t : TGs) : Prop :=
 ∀ (pins : List (Addr × Obj)) (s : Shared) (σ : St) (H : Hp) (vs : List V) (us : List Value) (Q : St → Hp → Prop), Inv X pins σ H s → Vals vs us → t vs σ H Q →
   wpAny (model X.prog X.w) X.A (assignInOrder ((assignEach ts X.env).map (·.2)) us) (fun _ s' => ∃ σ' H', Inv X pins σ' H' s' ∧ Q σ' H') X.xe s
section
variable {X : Cx} {pos : Pos}
def gName (i : Nat) : TG := fun v σ H Q => Q (σ.set i (some v)) H
theorem pg_name {i : Nat} {x : Str} (hN : X.N.Nodup) (hi : X.N[i]? = some x) (hx : Loc X.env.scope x) (hf : X.fn x = true ∨ X.env.scope.names.lookup x = some .local := by first | exact .inl rfl | exact .inr rfl | assumption) : PG X (.Name x pos) (gName i) := by
 intro pins s σ H v u Q I r h
 exact wpAny_assign_Name (store_ok I hN hi hx r (fun s' I' => ⟨_, H, I', h⟩) hf)
def gNil : TGs := fun vs σ H Q => vs = [] ∧ Q σ H
def gCons (t : TG) (u : TGs) : TGs := fun vs σ H Q => ∃ v r, vs = v :: r ∧ t v σ H fun σ' H' => u r σ' H' Q
theorem pgs_nil : PGs X [] gNil := by
 intro pins s σ H vs us Q I r h
 obtain ⟨e, h⟩ := h
 subst e
 cases r
 exact assignInOrder_nil ⟨σ, H, I, h⟩
theorem pgs_cons {e : Expr} {es : List Expr} {t : TG} {u : TGs} (h1 : PG X e t) (h2 : PGs X es u)
   (hs : (assignEach (e :: es) X.env).map (·.2) = assign e X.env :: (assignEach es X.env).map (·.2) := by rfl) : PGs X (e :: es) (gCons t u) := by
 intro pins s σ H vs us Q I r h
 obtain ⟨v, vr, e1, h⟩ := h
 subst e1
 cases r with
 | cons r rr =>
   rw [hs]
   refine assignInOrder_cons (thn (h1 pins s σ H _ _ _ I r h) fun _ s1 ⟨σ1, H1, I1, q1⟩ => ?_)
   exact h2 pins s1 σ1 H1 _ _ Q I1 rr q1
def gTup (K : PySem.W.Frag) (n : Nat) (t : TGs) : TG := fun v σ H Q => ∃ a xs, v = .ref a ∧ SqT K H a xs ∧ xs.length = n ∧ t xs σ H Q
theorem pg_tup {es : List Expr} {k : Nat} {t : TGs} {n : Nat} (hc : X.calm = true) (h : PGs X es t)
   (hn : (assignEach es X.env).length = n := by rfl) (hst : (assignEach es X.env).findIdx? (·.1) = none := by rfl) : PG X (.Tuple es k pos) (gTup X.K n t) := by
 intro pins s σ H v u Q I r hw
 obtain ⟨a, xs, e1, hq, hl, hw⟩ := hw
 subst e1
 cases r
 obtain ⟨its, rv, ht, hz⟩ := I.tuple hq
 refine assign_Tuple_tuple (I.ok.hd hc) ht (by simp [hn, ← hl, rv.length]) hst fun h' hx => ?_
 have I1 : Inv X pins σ H { s with heap := h' } := I.kept (t' := s.toks) fun b o e => hx b o (Nat.ne_of_lt (Heap.lt_size e)) e
 exact h pins _ σ H xs _ Q I1 (by simpa using rv) hw
def tAsg (te : TE) (g : TG) : TS := fun D σ H => te σ H fun x H1 => g x σ H1 D.nx
theorem ps_asg {tg e : Expr} {te : TE} {g : TG} (he : PE X e te) (hg : PG X tg g) (hs : swapsWithSole [tg] e pos.line X.env = pure false := by rfl) (hw : swappedStores [tg] e X.env = pure none := by rfl)
   (h1 : (assignEach [tg] X.env).map (·.2) = [assign tg X.env] := by rfl) : PS X (.Assign [tg] e pos) (tAsg te g) := by
 intro pins s σ H D I h
 refine wpAny_Assign_stores (thn (he pins s σ H _ I h) fun v s1 ⟨x, H1, I1, r1, q1⟩ => ?_) hs hw
 rw [h1]
 exact thn (hg pins s1 σ H1 x v _ I1 r1 q1) fun _ s2 q => q
theorem ps_set {i : Nat} {x : Str} {e : Expr} {te : TE} {pos' : Pos} (hN : X.N.Nodup) (hi : X.N[i]? = some x) (hx : Loc X.env.scope x) (he : PE X e te) (hs : swapsWith e (some (.Name x pos')) pos.line X.env = pure false := by rfl) (hf : X.fn x = true ∨ X.env.scope.names.lookup x = some .local := by first | exact .inl rfl | exact .inr rfl | assumption) :
   PS X (.Assign [.Name x pos'] e pos) (tAsg te (gName i)) := by
 intro pins s σ H D I h
 refine wpAny_Assign_Name (thn (he pins s σ H _ I h) fun v s1 ⟨y, H1, I1, r1, q1⟩ => ?_) hs
 exact store_ok I1 hN hi hx r1 (fun s2 I2 => ⟨_, H1, I2, q1⟩) hf
end
section
variable {X : Cx} {pos : Pos}
end
structure It where
 go : Nat → Hp → Prop
 yld : Nat → Hp → V → Hp → Prop
 stop : Nat → Hp → Prop
def FpOk (X : Cx) (pins : List (Addr × Obj)) (H : Hp) (b : Addr) : Prop :=
 H b = none ∧ b ≠ X.env.locals ∧ b ∉ X.fs ∧ (b ∈ X.ex ∨ X.s₀.heap.objs.size ≤ b) ∧ (∀ x c, X.env.cells.lookup x = some c → c ≠ b) ∧ ∀ p ∈ X.pn ++ pins, p.1 ≠ b
theorem Inv.fpOk {X : Cx} {pins : List (Addr × Obj)} {σ : St} {H H' : Hp} {s : Shared} {b : Addr} (I : Inv X pins σ H s) (hb : s.heap.objs.size ≤ b) (hn : H' b = none) : FpOk X pins H' b := by
 refine ⟨hn, Nat.ne_of_gt (Nat.lt_of_lt_of_le I.lt hb), I.nofs hb, .inr (Nat.le_trans I.sz hb), fun x c e z => ?_, fun p hp z => ?_⟩
 · obtain ⟨v, q⟩ := I.cell x c e
   exact absurd (Nat.lt_of_lt_of_le q.lt (by rw [z]; exact hb)) (Nat.lt_irrefl _)
 · exact absurd (Nat.lt_of_lt_of_le (Heap.lt_size (I.pin p hp).1) (by rw [z]; exact hb)) (Nat.lt_irrefl _)
structure Turn (P : Program) (w : World) (K : PySem.W.Frag) (tg : Expr) (J : It) (fp : List Addr) (it : Addr) (tn : Nat → Heap → Prop) : Prop where
 mem : it ∈ fp
 obj : ∀ i h, tn i h → ∀ b ∈ fp, ∃ o, h.get? b = some o ∧ ∀ v, o.data ≠ .cell v
 keep : ∀ i h h', tn i h → (∀ b ∈ fp, ∀ o, h.get? b = some o → h'.get? b = some o) → tn i h'
 item : ∀ (X : Cx), X.prog = P → X.w = w → X.K = K → X.calm = true → ∀ (i : Nat) (pins : List (Addr × Obj)) (s : Shared) (σ : St) (H : Hp) (E : Value → Shared → Prop), Inv X pins σ H s → (∀ b ∈ fp, FpOk X pins H b) → tn i s.heap → J.go i H →
   wpAny (model P w) X.A (pyNext (.ref it)) (fun r s1 => ∃ u, r = some u ∧
     wpAny (model P w) X.A (letOwnedTupleGo tg (.ref it) u) (fun _ s2 => ∃ x H', Inv X pins σ H' s2 ∧ RelV x u ∧ J.yld i H x H' ∧ tn (i + 1) s2.heap ∧ ∀ b ∈ fp, H' b = none) E s1) E s
 done : ∀ (X : Cx), X.prog = P → X.w = w → X.K = K → X.calm = true → ∀ (i : Nat) (pins : List (Addr × Obj)) (s : Shared) (σ : St) (H : Hp) (E : Value → Shared → Prop), Inv X pins σ H s → (∀ b ∈ fp, FpOk X pins H b) → tn i s.heap → J.stop i H →
   wpAny (model P w) X.A (pyNext (.ref it)) (fun r s1 => r = none ∧ Inv X pins σ H s1) E s
 self : ∀ (A : Around) (i : Nat) (s : Shared) (Q : Value → Shared → Prop) (E : Value → Shared → Prop), tn i s.heap → Q (.ref it) s → wpAny (model P w) A (pyIter (.ref it)) Q E s
abbrev TI := St → Hp → (It → Hp → Prop) → Prop
def PIE (X : Cx) (pins : List (Addr × Obj)) (σ : St) (tg : Expr) (R : It → Hp → Prop) (itv : Value) (s2 : Shared) : Prop :=
 ∃ (it : Addr) (fp : List Addr) (tn : Nat → Heap → Prop) (J : It) (H' : Hp), itv = .ref it ∧ Inv X pins σ H' s2 ∧ Turn X.prog X.w X.K tg J fp it tn ∧ tn 0 s2.heap ∧ (∀ b ∈ fp, FpOk X pins H' b) ∧ R J H'
def PI (X : Cx) (tg iter : Expr) (wi : TI) : Prop :=
 ∀ (pins : List (Addr × Obj)) (s : Shared) (σ : St) (H : Hp) (R : It → Hp → Prop), Inv X pins σ H s → wi σ H R →
   wpAny (model X.prog X.w) X.A (eval iter X.env) (fun v s1 => wpAny (model X.prog X.w) X.A (pyIter v) (PIE X pins σ tg R) X.xe s1) X.xe s
theorem go_of {M : Model} {A : Around} {E : Value → Shared → Prop} {s : Shared} {tg : Expr} {it : Addr} {u : Value} {o : Obj} {n : String} {vs : Array Value} {Q : Unit → Shared → Prop} (ho : s.heap.get? it = some o) (hc : o.cls = .type n) (hd : o.data = .fields vs)
   (hn : ["enumerate", "zip", "dict_itemiterator", "dict_reverseitemiterator", "odict_iterator", "itertools.zip_longest", "itertools.pairwise"].contains n = false) (hQ : Q () s) : wpAny M A (letOwnedTupleGo tg (.ref it) u) Q E s := by
 unfold letOwnedTupleGo
 cases tg <;> first
   | exact wpAny_pure hQ
   | (cases u <;> first
       | exact wpAny_pure hQ
       | (refine wpAny_bind (wpAny_load ho ?_)
          rw [hc, hd]
          show wpAny M A (if (["enumerate", "zip", "dict_itemiterator", "dict_reverseitemiterator", "odict_iterator", "itertools.zip_longest", "itertools.pairwise"].contains n && vs[0]? == some (rawInt _)) = true then _ else _) Q E s
          rw [if_neg (by intro h; rw [hn, Bool.false_and] at h; cases h)]
          exact wpAny_pure hQ))
def Itl (K : PySem.W.Frag) (a : Addr) : It :=
 ⟨fun i H => ∃ xs x, SqL K H a xs ∧ xs[i]? = some x, fun i H x H' => H' = H ∧ ∀ xs, SqL K H a xs → xs[i]? = some x, fun i H => ∃ xs, SqL K H a xs ∧ xs.length ≤ i⟩
def Itt (K : PySem.W.Frag) (a : Addr) : It :=
 ⟨fun i H => ∃ xs x, SqT K H a xs ∧ xs[i]? = some x, fun i H x H' => H' = H ∧ ∀ xs, SqT K H a xs → xs[i]? = some x, fun i H => ∃ xs, SqT K H a xs ∧ xs.length ≤ i⟩
def Itr (lo : Int) (n : Nat) : It := ⟨fun i _ => i < n, fun i H x H' => H' = H ∧ x = .int (lo + i), fun i _ => n ≤ i⟩
theorem turn_list {P : Program} {w : World} {K : PySem.W.Frag} {tg : Expr} (a it : Addr) : Turn P w K tg (Itl K a) [it] it (fun i h => h.IsListIter it a i) where
 mem := by simp
 obj := fun i h st b hb => by
   have e : b = it := by simpa using hb
   subst e
   obtain ⟨o, e, c, d⟩ := st
   exact ⟨o, e, fun v z => by rw [d] at z; cases z⟩
 keep := fun i h h' st k => st.at fun o e => k it (by simp) o e
 item := by
   intro X hP hw hK hc i pins s σ H E I hf st hg
   subst hP hw hK
   obtain ⟨xs, x, hq, hx⟩ := hg
   obtain ⟨its, rv, p, hz⟩ := I.list hq
   obtain ⟨u, hu, ru⟩ := rv.get hx
   obtain ⟨f0, f1, f2, f3, f4, f5⟩ := hf it (by simp)
   refine wpAny_pyNext_list_item st p.isList (x := u) (by simpa using hu) fun h' st' sb => ?_
   have I1 : Inv X pins σ H { s with heap := h' } := I.turned (t' := s.toks) (fun b o hb e => (sb.2 b hb).trans e) f0 f1 f3 f4 f5
   obtain ⟨o, e, c, d⟩ := id st'
   exact ⟨u, rfl, go_of (s := { s with heap := h' }) e c d (by decide) ⟨x, H, I1, ru, ⟨rfl, fun ys hy => by rw [I.list_inj hy hq]; exact hx⟩, st', fun b hb => (hf b hb).1⟩⟩
 done := by
   intro X hP hw hK hc i pins s σ H E I hf st hg
   subst hP hw hK
   obtain ⟨xs, hq, hx⟩ := hg
   obtain ⟨its, rv, p, hz⟩ := I.list hq
   obtain ⟨f0, f1, f2, f3, f4, f5⟩ := hf it (by simp)
   have hl := rv.length
   exact wpAny_pyNext_list_end (I.ok.hd hc) st p.isList (by simp; omega) fun h' eb => ⟨rfl, I.turned (t' := s.toks) (fun b o hb e => eb b o hb e) f0 f1 f3 f4 f5⟩
 self := fun _ _ _ _ _ st h => wpAny_pyIter_listiter st h
theorem turn_tuple {P : Program} {w : World} {K : PySem.W.Frag} {tg : Expr} (a it : Addr) : Turn P w K tg (Itt K a) [it] it (fun i h => h.IsTupleIter it a i) where
 mem := by simp
 obj := fun i h st b hb => by
   have e : b = it := by simpa using hb
   subst e
   obtain ⟨o, e, c, d⟩ := st
   exact ⟨o, e, fun v z => by rw [d] at z; cases z⟩
 keep := fun i h h' st k => st.at fun o e => k it (by simp) o e
 item := by
   intro X hP hw hK hc i pins s σ H E I hf st hg
   subst hP hw hK
   obtain ⟨xs, x, hq, hx⟩ := hg
   obtain ⟨its, rv, p, hz⟩ := I.tuple hq
   obtain ⟨u, hu, ru⟩ := rv.get hx
   obtain ⟨f0, f1, f2, f3, f4, f5⟩ := hf it (by simp)
   refine wpAny_pyNext_tuple_item st (show s.heap.IsTuple a its.toArray from p) (x := u) (by simpa using hu) fun h' st' sb => ?_
   have I1 : Inv X pins σ H { s with heap := h' } := I.turned (t' := s.toks) (fun b o hb e => (sb.2 b hb).trans e) f0 f1 f3 f4 f5
   obtain ⟨o, e, c, d⟩ := id st'
   exact ⟨u, rfl, go_of (s := { s with heap := h' }) e c d (by decide) ⟨x, H, I1, ru, ⟨rfl, fun ys hy => by rw [I.tuple_inj hy hq]; exact hx⟩, st', fun b hb => (hf b hb).1⟩⟩
 done := by
   intro X hP hw hK hc i pins s σ H E I hf st hg
   subst hP hw hK
   obtain ⟨xs, hq, hx⟩ := hg
   obtain ⟨its, rv, p, hz⟩ := I.tuple hq
   obtain ⟨f0, f1, f2, f3, f4, f5⟩ := hf it (by simp)
   have hl := rv.length
   exact wpAny_pyNext_tuple_end (I.ok.hd hc) st (show s.heap.IsTuple a its.toArray from p) (by simp; omega) fun h' eb => ⟨rfl, I.turned (t' := s.toks) (fun b o hb e => eb b o hb e) f0 f1 f3 f4 f5⟩
 self := fun _ _ _ _ _ st h => wpAny_pyIter_tupleiter st h
theorem turn_range {P : Program} {w : World} {K : PySem.W.Frag} {tg : Expr} (it : Addr) (lo : Int) (n : Nat) : Turn P w K tg (Itr lo n) [it] it (fun i h => IsRangeIter h it (lo + (i : Nat) * 1) ((n : Int) - (i : Nat)) 1) where
 mem := by simp
 obj := fun i h st b hb => by
   have e : b = it := by simpa using hb
   subst e
   exact ⟨_, st, fun v z => by
     have z' : Data.fields _ = Data.cell v := z
     cases z'⟩
 keep := fun i h h' st k => k it (by simp) _ st
 item := by
   intro X hP hw hK hc i pins s σ H E I hf st hg
   subst hP hw hK
   obtain ⟨f0, f1, f2, f3, f4, f5⟩ := hf it (by simp)
   have W := Walks.range (prog := X.prog) (w := X.w) (I.ok.hd hc) it lo 1 n
   refine W.item i s _ _ hg st fun v h' tk hv st' kk => ?_
   obtain ⟨t, rfl⟩ := hv
   have I1 : Inv X pins σ H { s with heap := h', toks := tk } := I.turned (fun b o hb e => kk b o (by simpa using hb) e) f0 f1 f3 f4 f5
   refine ⟨_, rfl, go_of (s := { s with heap := h', toks := tk }) (n := "range_iterator") st' rfl rfl (by decide) ⟨.int (lo + i), H, I1, ⟨t, ?_⟩, ⟨rfl, rfl⟩, st', fun b hb => (hf b hb).1⟩⟩
   rw [Int.mul_one]
 done := by
   intro X hP hw hK hc i pins s σ H E I hf st hg
   subst hP hw hK
   obtain ⟨f0, f1, f2, f3, f4, f5⟩ := hf it (by simp)
   exact wpAny_pyNext_range_end (I.ok.hd hc) st (by have : n ≤ i := hg; omega) fun h' eb => ⟨rfl, I.turned (t' := s.toks) (fun b o hb e => eb b o hb e) f0 f1 f3 f4 f5⟩
 self := fun _ _ _ _ _ st h => wpAny_pyIter_rangeiter st h
end L2
namespace L2
open PySem PySem.Spec PyProof.Rows
section
variable {X : Cx} {tg : Expr}
def iList (K : PySem.W.Frag) (tl : TE) : TI := fun σ H R => tl σ H fun x H1 => ∃ a, x = .ref a ∧ (∃ xs, SqL K H1 a xs) ∧ R (Itl K a) H1
def iTup (K : PySem.W.Frag) (tl : TE) : TI := fun σ H R => tl σ H fun x H1 => ∃ a, x = .ref a ∧ (∃ xs, SqT K H1 a xs) ∧ R (Itt K a) H1
theorem pi_list {l : Expr} {tl : TE} (hl : PE X l tl) : PI X tg l (iList X.K tl) := by
 intro pins s σ H R I h
 refine thn (hl pins s σ H _ I h) fun v s1 ⟨x, H1, I1, r1, q1⟩ => ?_
 obtain ⟨a, e, ⟨xs, hq⟩, q⟩ := q1
 subst e
 cases r1
 obtain ⟨its, rv, p, hz⟩ := I1.list hq
 refine wpAny_pyIter_list p.isList ?_
 refine ⟨s1.heap.objs.size, [s1.heap.objs.size], _, _, H1, rfl, I1.kept (t' := s1.toks) fun b o e => Heap.get?_push_of_some _ e, turn_list a _, ⟨_, Heap.get?_push_size _ rfl, rfl, rfl⟩, fun b hb => ?_, q⟩
 have e : b = s1.heap.objs.size := by simpa using hb
 subst e
 exact I1.fpOk (Nat.le_refl _) (I1.hok.fresh (Nat.le_refl _))
theorem pi_tup {l : Expr} {tl : TE} (hl : PE X l tl) : PI X tg l (iTup X.K tl) := by
 intro pins s σ H R I h
 refine thn (hl pins s σ H _ I h) fun v s1 ⟨x, H1, I1, r1, q1⟩ => ?_
 obtain ⟨a, e, ⟨xs, hq⟩, q⟩ := q1
 subst e
 cases r1
 obtain ⟨its, rv, p, hz⟩ := I1.tuple hq
 refine wpAny_pyIter_tuple (show s1.heap.IsTuple a its.toArray from p) ?_
 refine ⟨s1.heap.objs.size, [s1.heap.objs.size], _, _, H1, rfl, I1.kept (t' := s1.toks) fun b o e => Heap.get?_push_of_some _ e, turn_tuple a _, ⟨_, Heap.get?_push_size _ rfl, rfl, rfl⟩, fun b hb => ?_, q⟩
 have e : b = s1.heap.objs.size := by simpa using hb
 subst e
 exact I1.fpOk (Nat.le_refl _) (I1.hok.fresh (Nat.le_refl _))
theorem range_it {pins : List (Addr × Obj)} {σ : St} {H : Hp} {s : Shared} {R : It → Hp → Prop} {E : Value → Shared → Prop} {lo hi : Int} {t u v : Tok} {tk : Nat} (I : Inv X pins σ H s) (h1 : -(2 ^ 62) ≤ lo) (h2 : lo < 2 ^ 62) (h3 : -(2 ^ 62) ≤ hi) (h4 : hi < 2 ^ 62)
   (q : R (Itr lo (hi - lo).toNat) H) : wpAny (model X.prog X.w) X.A (pyIter (.ref s.heap.objs.size)) (PIE X pins σ tg R) E { s with heap := s.heap.push { cls := .type "range", data := .fields #[.int lo t, .int hi u, .int 1 v] }, toks := tk } := by
 refine wpAny_pyIter_range (IsRange.new ..) (small_one h1 h2 h3 h4) ?_
 have I1 : Inv X pins σ H { s with heap := s.heap.push { cls := .type "range", data := .fields #[.int lo t, .int hi u, .int 1 v] }, toks := tk } := I.kept fun b o e => Heap.get?_push_of_some _ e
 refine ⟨(s.heap.push { cls := .type "range", data := .fields #[.int lo t, .int hi u, .int 1 v] }).objs.size, [(s.heap.push { cls := .type "range", data := .fields #[.int lo t, .int hi u, .int 1 v] }).objs.size], _, _, H, rfl,
   I1.kept (t' := tk) fun b o e => Heap.get?_push_of_some _ e, turn_range _ lo (hi - lo).toNat, ?_, fun b hb => ?_, q⟩
 · have e1 : lo + ((0 : Nat) : Int) * 1 = lo := by simp
   have e2 : (((hi - lo).toNat : Nat) : Int) - ((0 : Nat) : Int) = Builtin.Range.rangeSize lo hi 1 := by rw [rangeSize_one]; split <;> omega
   show IsRangeIter _ _ (lo + ((0 : Nat) : Int) * 1) ((((hi - lo).toNat : Nat) : Int) - ((0 : Nat) : Int)) 1
   rw [e1, e2]
   exact Heap.get?_push_size _ rfl
 · have e : b = (s.heap.push { cls := .type "range", data := .fields #[.int lo t, .int hi u, .int 1 v] }).objs.size := by simpa using hb
   subst e
   exact I1.fpOk (Nat.le_refl _) (I1.hok.fresh (Nat.le_refl _))
def iRng1 (ta : TA) : TI := fun σ H R => ta σ H fun vs H1 => ∃ j : Int, vs = [.int j] ∧ -(2 ^ 62) ≤ j ∧ j < 2 ^ 62 ∧ R (Itr 0 j.toNat) H1
def iRng2 (ta : TA) : TI := fun σ H R => ta σ H fun vs H1 => ∃ i j : Int, vs = [.int i, .int j] ∧ (-(2 ^ 62) ≤ i ∧ i < 2 ^ 62 ∧ -(2 ^ 62) ≤ j ∧ j < 2 ^ 62) ∧ R (Itr i (j - i).toNat) H1
theorem pi_range1 {a : Expr} {ta : TA} {p pos : Pos} (hg : Gl X "range") (hm : X.mg "range" = none) (ha : PA X [a] ta) (hs : starEach [a] X.env = [(false, eval a X.env)] := by rfl) : PI X tg (.Call (.Name "range" p) [a] [] pos) (iRng1 ta) := by
 intro pins s σ H R I h
 refine Call_ (ld_blt I hg hm boot_range (PyProof.Rows.callWith_type1 (thn (ha pos pins s σ H _ I h) fun us s1 ⟨vs, H1, I1, r1, q1⟩ => ?_) hs rfl))
 obtain ⟨j, e, q1, q2, q⟩ := q1
 subst e
 cases r1 with
 | cons r rr =>
   cases rr
   obtain ⟨t, rfl⟩ := r
   exact call_range_1 (range_it I1 (by omega) (by omega) q1 q2 (by simpa using q))
theorem pi_range2 {a b : Expr} {ta : TA} {p pos : Pos} (hg : Gl X "range") (hm : X.mg "range" = none) (ha : PA X [a, b] ta) (hs : starEach [a, b] X.env = [(false, eval a X.env), (false, eval b X.env)] := by rfl) (hs2 : starEach [b] X.env = [(false, eval b X.env)] := by rfl) :
   PI X tg (.Call (.Name "range" p) [a, b] [] pos) (iRng2 ta) := by
 intro pins s σ H R I h
 refine Call_ (ld_blt I hg hm boot_range (PyProof.Rows.callWith_type1 (thn (ha pos pins s σ H _ I h) fun us s1 ⟨vs, H1, I1, r1, q1⟩ => ?_) (by rw [hs, hs2]) (by rw [hs2]; rfl)))
 obtain ⟨i, j, e, ⟨q1, q2, q3, q4⟩, q⟩ := q1
 subst e
 cases r1 with
 | cons r rr =>
   cases rr with
   | cons r' rr =>
     cases rr
     obtain ⟨t, rfl⟩ := r
     obtain ⟨t', rfl⟩ := r'
     exact call_range_2 (range_it I1 q1 q2 q3 q4 q)
def tFor (wi : TI) (g : TG) (tb : TS) : TS := fun D σ H => wi σ H fun J H1 => ∃ W : Nat → Nat → St → Hp → Prop, (∃ m, W 0 m σ H1) ∧ ∀ i m σ H, W i m σ H →
 (J.stop i H ∧ D.nx σ H) ∨ (J.go i H ∧ ∃ N : St → Hp → Prop, (∀ σ' H', N σ' H' → ∃ m', m' < m ∧ W (i + 1) m' σ' H') ∧ ∀ x H', J.yld i H x H' → g x σ H' fun σ2 H2 => tb { D with nx := N, ct := N, bk := D.nx } σ2 H2)
def pinsAt (fp : List Addr) (h : Heap) : List (Addr × Obj) := fp.filterMap fun b => (h.get? b).map fun o => (b, o)
theorem mem_pinsAt {fp : List Addr} {h : Heap} {b : Addr} {o : Obj} (hb : b ∈ fp) (e : h.get? b = some o) : (b, o) ∈ pinsAt fp h := List.mem_filterMap.mpr ⟨b, hb, by rw [e]; rfl⟩
theorem of_pinsAt {fp : List Addr} {h : Heap} {p : Addr × Obj} (hp : p ∈ pinsAt fp h) : p.1 ∈ fp ∧ h.get? p.1 = some p.2 := by
 obtain ⟨b, hb, e⟩ := List.mem_filterMap.mp hp
 cases q : h.get? b with
 | none => rw [q] at e; cases e
 | some o =>
   rw [q] at e
   have e' : (b, o) = p := Option.some.inj e
   subst e'
   exact ⟨hb, q⟩
theorem Inv.pinned {pins : List (Addr × Obj)} {σ : St} {H : Hp} {s : Shared} {fp : List Addr} (I : Inv X pins σ H s) (hf : ∀ b ∈ fp, FpOk X pins H b) (ho : ∀ b ∈ fp, ∃ o, s.heap.get? b = some o ∧ ∀ v, o.data ≠ .cell v) : Inv X (pins ++ pinsAt fp s.heap) σ H s :=
 I.pins_of fun p hp => (List.mem_append.mp hp).elim (fun z => I.pin p (List.mem_append_right _ z)) fun z => by
   obtain ⟨hb, e⟩ := of_pinsAt z
   obtain ⟨f0, f1, f2, _⟩ := hf p.1 hb
   obtain ⟨o, e', d⟩ := ho p.1 hb
   rw [e] at e'; cases e'
   exact ⟨e, f0, f1, f2, d⟩
theorem Inv.unpinned {pins pl : List (Addr × Obj)} {σ : St} {H : Hp} {s : Shared} (I : Inv X (pins ++ pl) σ H s) : Inv X pins σ H s := I.pins_of fun p hp => I.pin p (List.mem_append_right _ (List.mem_append_left _ hp))
theorem ps_for {iter : Expr} {body : List Stmt} {wi : TI} {g : TG} {tb : TS} {pos : Pos} (hp : PassesOwn (model X.prog X.w) X.A X.env X.xe) (hc : X.calm = true) (hi : PI X tg iter wi) (hg : PG X tg g) (hb : PSs X body tb)
   (hs : ∀ x, foldedSetIterable iter X.env x = pure x := by intro _; rfl) : PS X (.For tg iter body [] pos) (tFor wi g tb) := by
 intro pins s σ H D I h
 refine wpAny_For (thn (hi pins s σ H _ I h) fun v s1 h1 => thn h1 fun itv s2 h2 => ?_) hs
 obtain ⟨it, fp, tn, J, H2, e, I2, T, st2, f2, W, ⟨m0, w0⟩, turn⟩ := h2
 subst e
 -- what stays true of the iterator's objects through the loop
 have stat : ∀ {H' : Hp}, (∀ b ∈ fp, H' b = none) → ∀ b ∈ fp, FpOk X pins H' b := fun hn b hb => ⟨hn b hb, (f2 b hb).2⟩
 refine codeAny_forLoop_any (fun n s' => ∃ i σ' H', Inv X pins σ' H' s' ∧ tn i s'.heap ∧ (∀ b ∈ fp, H' b = none) ∧ W i n σ' H') ?_ m0 ⟨0, σ, H2, I2, st2, fun b hb => (f2 b hb).1, w0⟩
 rintro n s3 ⟨i, σ3, H3, I3, st3, fr3, w3⟩
 rcases turn i n σ3 H3 w3 with ⟨stop, qn⟩ | ⟨go, N, hN, step⟩
 · refine wpAny_passesOwn hp (thn (T.done X rfl rfl rfl hc i pins s3 σ3 H3 X.xe I3 (stat fr3) st3 stop) fun r s4 ⟨hr, I4⟩ => ?_)
   subst hr
   exact wpAny_execs_nil ⟨σ3, H3, I4, qn⟩
 · refine wpAny_passesOwn hp (thn (T.item X rfl rfl rfl hc i pins s3 σ3 H3 X.xe I3 (stat fr3) st3 go) fun r s4 ⟨u, hr, h4⟩ => ?_)
   subst hr
   refine wpAny_passesOwn hp (thn h4 fun _ s5 ⟨x, H5, I5, r5, y5, st5, fr5⟩ => ?_)
   have I5' := I5.pinned (stat fr5) (T.obj _ _ st5)
   refine wpAny_passesOwn hp (thn (hg _ s5 σ3 H5 x u _ I5' r5 (step x H5 y5)) fun _ s6 ⟨σ6, H6, I6, q6⟩ => ?_)
   refine wpAny_passesOwn hp (thn (hb _ s6 σ6 H6 _ I6 q6) fun f s7 q7 => ?_)
   have again : ∀ {σ7 : St} {H7 : Hp}, Inv X (pins ++ pinsAt fp s5.heap) σ7 H7 s7 → N σ7 H7 → ∃ m, m < n ∧ ∃ i σ' H', Inv X pins σ' H' s7 ∧ tn i s7.heap ∧ (∀ b ∈ fp, H' b = none) ∧ W i m σ' H' := fun {σ7 H7} I7 n7 => by
     obtain ⟨m', hm, w7⟩ := hN σ7 H7 n7
     refine ⟨m', hm, i + 1, σ7, H7, I7.unpinned, T.keep _ _ _ st5 fun b hb o e => (I7.pin (b, o) (List.mem_append_right _ (List.mem_append_right _ (mem_pinsAt hb e)))).1, fun b hb => ?_, w7⟩
     obtain ⟨o, e, d⟩ := T.obj _ _ st5 b hb
     exact (I7.pin (b, o) (List.mem_append_right _ (List.mem_append_right _ (mem_pinsAt hb e)))).2.1
   cases f with
   | next => obtain ⟨σ7, H7, I7, n7⟩ := q7; exact again I7 n7
   | cont => obtain ⟨σ7, H7, I7, n7⟩ := q7; exact again I7 n7
   | brk => obtain ⟨σ7, H7, I7, q7⟩ := q7; exact ⟨σ7, H7, I7.unpinned, q7⟩
   | ret v => obtain ⟨x7, σ7, H7, I7, r7, q7⟩ := q7; exact ⟨x7, σ7, H7, I7.unpinned, r7, q7⟩
end
theorem for_list {K : PySem.W.Frag} {a : Addr} {xs : List V} {g : TG} {tb : TS} {D : Ends} {σ : St} {H : Hp} (Pv : Nat → St → Hp → Prop) (h0 : Pv 0 σ H) (hl : ∀ i σ H, i ≤ xs.length → Pv i σ H → SqL K H a xs)
   (hs : ∀ i x σ H, xs[i]? = some x → Pv i σ H → g x σ H fun σ2 H2 => tb { D with nx := Pv (i + 1), ct := Pv (i + 1), bk := D.nx } σ2 H2) (hd : ∀ σ H, Pv xs.length σ H → D.nx σ H) :
   ∃ W : Nat → Nat → St → Hp → Prop, (∃ m, W 0 m σ H) ∧ ∀ i m σ H, W i m σ H →
     ((Itl K a).stop i H ∧ D.nx σ H) ∨ ((Itl K a).go i H ∧ ∃ N : St → Hp → Prop, (∀ σ' H', N σ' H' → ∃ m', m' < m ∧ W (i + 1) m' σ' H') ∧ ∀ x H', (Itl K a).yld i H x H' → g x σ H' fun σ2 H2 => tb { D with nx := N, ct := N, bk := D.nx } σ2 H2) := by
 refine ⟨fun i m σ H => m = xs.length - i ∧ i ≤ xs.length ∧ Pv i σ H, ⟨xs.length, by simp, Nat.zero_le _, h0⟩, ?_⟩
 rintro i m σ H ⟨rfl, hi, p⟩
 have q := hl i σ H hi p
 by_cases hlt : i < xs.length
 · refine .inr ⟨⟨xs, xs[i], q, by simp [hlt]⟩, Pv (i + 1), fun σ' H' p' => ⟨xs.length - (i + 1), by omega, rfl, hlt, p'⟩, fun x H' y => ?_⟩
   obtain ⟨e, y⟩ := y
   subst e
   exact hs i x σ _ (y xs q) p
 · have e : i = xs.length := by omega
   subst e
   exact .inl ⟨⟨xs, q, Nat.le_refl _⟩, hd σ H p⟩
theorem for_tup {K : PySem.W.Frag} {a : Addr} {xs : List V} {g : TG} {tb : TS} {D : Ends} {σ : St} {H : Hp} (Pv : Nat → St → Hp → Prop) (h0 : Pv 0 σ H) (hl : ∀ i σ H, i ≤ xs.length → Pv i σ H → SqT K H a xs)
   (hs : ∀ i x σ H, xs[i]? = some x → Pv i σ H → g x σ H fun σ2 H2 => tb { D with nx := Pv (i + 1), ct := Pv (i + 1), bk := D.nx } σ2 H2) (hd : ∀ σ H, Pv xs.length σ H → D.nx σ H) :
   ∃ W : Nat → Nat → St → Hp → Prop, (∃ m, W 0 m σ H) ∧ ∀ i m σ H, W i m σ H →
     ((Itt K a).stop i H ∧ D.nx σ H) ∨ ((Itt K a).go i H ∧ ∃ N : St → Hp → Prop, (∀ σ' H', N σ' H' → ∃ m', m' < m ∧ W (i + 1) m' σ' H') ∧ ∀ x H', (Itt K a).yld i H x H' → g x σ H' fun σ2 H2 => tb { D with nx := N, ct := N, bk := D.nx } σ2 H2) := by
 refine ⟨fun i m σ H => m = xs.length - i ∧ i ≤ xs.length ∧ Pv i σ H, ⟨xs.length, by simp, Nat.zero_le _, h0⟩, ?_⟩
 rintro i m σ H ⟨rfl, hi, p⟩
 have q := hl i σ H hi p
 by_cases hlt : i < xs.length
 · refine .inr ⟨⟨xs, xs[i], q, by simp [hlt]⟩, Pv (i + 1), fun σ' H' p' => ⟨xs.length - (i + 1), by omega, rfl, hlt, p'⟩, fun x H' y => ?_⟩
   obtain ⟨e, y⟩ := y
   subst e
   exact hs i x σ _ (y xs q) p
 · have e : i = xs.length := by omega
   subst e
   exact .inl ⟨⟨xs, q, Nat.le_refl _⟩, hd σ H p⟩
theorem for_range {lo : Int} {n : Nat} {g : TG} {tb : TS} {D : Ends} {σ : St} {H : Hp} (Pv : Nat → St → Hp → Prop) (h0 : Pv 0 σ H)
   (hs : ∀ i σ H, i < n → Pv i σ H → g (.int (lo + i)) σ H fun σ2 H2 => tb { D with nx := Pv (i + 1), ct := Pv (i + 1), bk := D.nx } σ2 H2) (hd : ∀ σ H, Pv n σ H → D.nx σ H) :
   ∃ W : Nat → Nat → St → Hp → Prop, (∃ m, W 0 m σ H) ∧ ∀ i m σ H, W i m σ H →
     ((Itr lo n).stop i H ∧ D.nx σ H) ∨ ((Itr lo n).go i H ∧ ∃ N : St → Hp → Prop, (∀ σ' H', N σ' H' → ∃ m', m' < m ∧ W (i + 1) m' σ' H') ∧ ∀ x H', (Itr lo n).yld i H x H' → g x σ H' fun σ2 H2 => tb { D with nx := N, ct := N, bk := D.nx } σ2 H2) := by
 refine ⟨fun i m σ H => m = n - i ∧ i ≤ n ∧ Pv i σ H, ⟨n, by simp, Nat.zero_le _, h0⟩, ?_⟩
 rintro i m σ H ⟨rfl, hi, p⟩
 by_cases hlt : i < n
 · refine .inr ⟨hlt, Pv (i + 1), fun σ' H' p' => ⟨n - (i + 1), by omega, rfl, hlt, p'⟩, fun x H' y => ?_⟩
   obtain ⟨e, y⟩ := y
   subst e y
   exact hs i σ _ hlt p
 · have e : i = n := by omega
   subst e
   exact .inl ⟨Nat.le_refl _, hd σ H p⟩
end L2
namespace L2
open PySem PySem.Spec PyProof.Rows
abbrev R2 := V → V → Hp → VK → Prop
def OpR (X : Cx) (f : Value → Value → Sem Value) (r : R2) : Prop :=
 ∀ (pins : List (Addr × Obj)) (s : Shared) (σ : St) (H : Hp) (x y : V) (v u : Value) (Q : VK), Inv X pins σ H s → RelV x v → RelV y u → r x y H Q →
   wpAny (model X.prog X.w) X.A (f v u) (EP X pins σ Q) X.xe s
def UnR (X : Cx) (f : Value → Sem Value) (r : V → Hp → VK → Prop) : Prop :=
 ∀ (pins : List (Addr × Obj)) (s : Shared) (σ : St) (H : Hp) (x : V) (v : Value) (Q : VK), Inv X pins σ H s → RelV x v → r x H Q →
   wpAny (model X.prog X.w) X.A (f v) (EP X pins σ Q) X.xe s
def CallR (X : Cx) (f : Value) (r : List V → Hp → VK → Prop) : Prop :=
 ∀ (pins : List (Addr × Obj)) (s : Shared) (σ : St) (H : Hp) (xs : List V) (us : List Value) (Q : VK), Inv X pins σ H s → Vals xs us → r xs H Q →
   wpAny (model X.prog X.w) X.A (call f us) (EP X pins σ Q) X.xe s
def tOp (r : R2) (ta tb : TE) : TE := fun σ H Q => ta σ H fun x H1 => tb σ H1 fun y H2 => r x y H2 Q
def tUn (r : V → Hp → VK → Prop) (ta : TE) : TE := fun σ H Q => ta σ H fun x H1 => r x H1 Q
def rI (C : Int → Int → Prop) (g : Int → Int → V) : R2 := fun x y H Q => ∃ i j, x = .int i ∧ y = .int j ∧ C i j ∧ Q (g i j) H
def rI0 (g : Int → Int → V) : R2 := fun x y H Q => ∃ i j, x = .int i ∧ y = .int j ∧ Q (g i j) H
def rU (g : Int → V) : V → Hp → VK → Prop := fun x H Q => ∃ i, x = .int i ∧ Q (g i) H
section
variable {X : Cx} {a b c : Expr} {ta tb tc : TE} {pos : Pos}
theorem binT (ha : PE X a ta) (hb : PE X b tb) {pins : List (Addr × Obj)} {s : Shared} {σ : St} {H : Hp} {R : V → V → Hp → Prop} (I : Inv X pins σ H s)
   (h : ta σ H fun x H1 => tb σ H1 fun y H2 => R x y H2) {Q : Value → Shared → Prop} {f : Value → Value → Sem Value}
   (hf : ∀ v u s2 x y H2, Inv X pins σ H2 s2 → RelV x v → RelV y u → R x y H2 → wpAny (model X.prog X.w) X.A (f v u) Q X.xe s2) :
   wpAny (model X.prog X.w) X.A (eval a X.env) (fun v s₁ => wpAny (model X.prog X.w) X.A (eval b X.env) (fun u s₂ => wpAny (model X.prog X.w) X.A (f v u) Q X.xe s₂) X.xe s₁) X.xe s := by
 refine thn (ha pins s σ H _ I h) fun v s1 ⟨x, H1, I1, r1, q1⟩ => ?_
 refine thn (hb pins s1 σ H1 _ I1 q1) fun u s2 ⟨y, H2, I2, r2, q2⟩ => ?_
 exact hf v u s2 x y H2 I2 r1 r2 q2
theorem pe_op {op : Operator} {r : R2} (ho : OpR X (binaryOp op) r) (ha : PE X a ta) (hb : PE X b tb) : PE X (.BinOp a op b pos) (tOp r ta tb) := by
 intro pins s σ H Q I h
 exact wpAny_BinOp (binT ha hb I h fun v u s2 x y H2 I2 rx ry q => ho pins s2 σ H2 x y v u Q I2 rx ry q)
theorem pe_un {op : UnaryOp} {r : V → Hp → VK → Prop} (ho : UnR X (unaryOp op) r) (ha : PE X a ta) : PE X (.UnaryOp op a pos) (tUn r ta) := by
 intro pins s σ H Q I h
 exact UnaryOp_ (thn (ha pins s σ H _ I h) fun v s1 ⟨x, H1, I1, r1, q1⟩ => ho pins s1 σ H1 x v Q I1 r1 q1)
theorem opI {f : Value → Value → Sem Value} {C : Int → Int → Prop} {g : Int → Int → Int}
   (rule : ∀ (i j : Int) (t u : Tok) (s : Shared) (Q : Value → Shared → Prop) (E : Value → Shared → Prop), C i j → Q (.int (g i j) s.toks) { s with toks := s.toks + 1 } → wpAny (model X.prog X.w) X.A (f (.int i t) (.int j u)) Q E s) :
   OpR X f (rI C fun i j => .int (g i j)) := by
 intro pins s σ H x y v u Q I rx ry h
 obtain ⟨i, j, rfl, rfl, hc, q⟩ := h
 obtain ⟨t, rfl⟩ := rx
 obtain ⟨t', rfl⟩ := ry
 exact rule i j t t' s _ _ hc ⟨.int (g i j), H, I.tok _, ⟨_, rfl⟩, q⟩
theorem opI0 {f : Value → Value → Sem Value} {g : Int → Int → Int}
   (rule : ∀ (i j : Int) (t u : Tok) (s : Shared) (Q : Value → Shared → Prop) (E : Value → Shared → Prop), Q (.int (g i j) s.toks) { s with toks := s.toks + 1 } → wpAny (model X.prog X.w) X.A (f (.int i t) (.int j u)) Q E s) :
   OpR X f (rI0 fun i j => .int (g i j)) := by
 intro pins s σ H x y v u Q I rx ry h
 obtain ⟨i, j, rfl, rfl, q⟩ := h
 obtain ⟨t, rfl⟩ := rx
 obtain ⟨t', rfl⟩ := ry
 exact rule i j t t' s _ _ ⟨.int (g i j), H, I.tok _, ⟨_, rfl⟩, q⟩
theorem opB0 {f : Value → Value → Sem Value} {g : Int → Int → Bool}
   (rule : ∀ (i j : Int) (t u : Tok) (s : Shared) (Q : Value → Shared → Prop) (E : Value → Shared → Prop), Q (.bool (g i j)) s → wpAny (model X.prog X.w) X.A (f (.int i t) (.int j u)) Q E s) :
   OpR X f (rI0 fun i j => .bl (g i j)) := by
 intro pins s σ H x y v u Q I rx ry h
 obtain ⟨i, j, rfl, rfl, q⟩ := h
 obtain ⟨t, rfl⟩ := rx
 obtain ⟨t', rfl⟩ := ry
 exact rule i j t t' s _ _ ⟨.bl (g i j), H, I, rfl, q⟩
def CDiv (i j : Int) : Prop := 0 < j ∧ j < 1073741824
def CPow (i j : Int) : Prop := 0 ≤ j ∧ j ≤ 1000000 ∧ i.natAbs < 2 ^ 64
def CMul (i j : Int) : Prop := (-(2 ^ 64) < i ∧ i < 2 ^ 64) ∨ (-(2 ^ 64) < j ∧ j < 2 ^ 64)
theorem CMul.ok {i j : Int} (h : CMul i j) : IntMulOk i j := by
 rcases h with ⟨h1, h2⟩ | ⟨h1, h2⟩
 · exact .of_left (intBits_le_64 h1 h2)
 · exact .of_right (intBits_le_64 h1 h2)
theorem op_add : OpR X (binaryOp .Add) (rI0 fun i j => .int (i + j)) := opI0 fun _ _ _ _ _ _ _ q => add_int q
theorem op_sub : OpR X (binaryOp .Sub) (rI0 fun i j => .int (i - j)) := opI0 fun _ _ _ _ _ _ _ q => sub_int q
theorem op_fdiv : OpR X (binaryOp .FloorDiv) (rI CDiv fun i j => .int (i / j)) := opI fun i j _ _ _ _ _ hc q => by
 have h1 : (0 : Int) < j := hc.1
 have h2 : j < 1073741824 := hc.2
 exact floordiv_int (by omega) (by rw [Int.fdiv_eq_ediv_of_nonneg i (by omega)]; exact q) (.inl (PyProof.noPylong_small (by omega)))
theorem op_mod : OpR X (binaryOp .Mod) (rI (fun _ j => 0 < j) fun i j => .int (i % j)) := opI fun i j _ _ _ _ _ hc q => by
 have h1 : (0 : Int) < j := hc
 exact mod_int' (by omega) (by rw [Int.fmod_eq_emod_of_nonneg i (by omega)]; exact q)
theorem op_pow : OpR X (binaryOp .Pow) (rI CPow fun i j => .int (i ^ j.toNat)) := opI fun _ _ _ _ _ _ _ hc q => pow_int_small hc.1 hc.2.1 hc.2.2 q
theorem unI {f : Value → Sem Value} {g : Int → Int}
   (rule : ∀ (i : Int) (t : Tok) (s : Shared) (Q : Value → Shared → Prop) (E : Value → Shared → Prop), Q (.int (g i) s.toks) { s with toks := s.toks + 1 } → wpAny (model X.prog X.w) X.A (f (.int i t)) Q E s) :
   UnR X f (rU fun i => .int (g i)) := by
 intro pins s σ H x v Q I rx h
 obtain ⟨i, rfl, q⟩ := h
 obtain ⟨t, rfl⟩ := rx
 exact rule i t s _ _ ⟨.int (g i), H, I.tok _, ⟨_, rfl⟩, q⟩
theorem un_neg : UnR X (unaryOp .USub) (rU fun i => .int (-i)) := unI fun _ _ _ _ _ q => neg_int q
end
def scal : V → V → Bool
 | .non, .non => true | .non, .int _ => true | .int _, .non => true | .non, .bl _ => true | .bl _, .non => true | .non, .str _ => true | .str _, .non => true
 | .int _, .int _ => true | .bl _, .bl _ => true | .str _, .str _ => true | .byt _, .byt _ => true
 | .int _, .str _ => true | .str _, .int _ => true | .bl _, .str _ => true | .str _, .bl _ => true
 | _, _ => false
def rEq : R2 := fun x y H Q => scal x y = true ∧ Q (.bl (decide (x = y))) H
def rNe : R2 := fun x y H Q => scal x y = true ∧ Q (.bl (!decide (x = y))) H
theorem dec_int {i j : Int} : decide (V.int i = V.int j) = (i == j) := by
 rw [Bool.eq_iff_iff]
 simp
theorem dec_bl {i j : Bool} : decide (V.bl i = V.bl j) = (i == j) := by
 rw [Bool.eq_iff_iff]
 simp
theorem dec_str {i j : Str} : decide (V.str i = V.str j) = (i == j) := by
 rw [Bool.eq_iff_iff]
 simp
theorem dec_byt {i j : Array UInt8} : decide (V.byt i = V.byt j) = (i.toList == j.toList) := by
 rw [Bool.eq_iff_iff]
 cases i
 cases j
 simp
section
variable {X : Cx} {a b c : Expr} {ta tb tc : TE} {pos : Pos}
theorem fin_bl {pins : List (Addr × Obj)} {σ : St} {H : Hp} {s : Shared} {Q : VK} {k k' : Bool} (I : Inv X pins σ H s) (q : Q (.bl k) H) (e : k = k') : EP X pins σ Q (.bool k') s := by
 subst e
 exact ⟨.bl k, H, I, rfl, q⟩
theorem op_eq : OpR X (compareOp .Eq) rEq := by
 intro pins s σ H x y v u Q I rx ry h
 obtain ⟨hs, q⟩ := h
 cases x with
 | non =>
   cases rx
   cases y with
   | non => cases ry; exact PySem.EqNone.eq_none_none (fin_bl I q (by simp))
   | bl j => cases ry; exact PySem.EqNone.eq_none_bool (fin_bl I q (by simp))
   | int j => obtain ⟨t', rfl⟩ := ry; exact PySem.EqNone.eq_none_int (fin_bl I q (by simp))
   | str j => obtain ⟨t', rfl⟩ := ry; exact PySem.EqNone.eq_none_str (fin_bl I q (by simp))
   | _ => exact absurd (show false = true from hs) Bool.false_ne_true
 | bl i =>
   cases rx
   cases y with
   | non => cases ry; exact PySem.EqNone.eq_bool_none (fin_bl I q (by simp))
   | bl j => cases ry; exact eq_bool (fin_bl I q dec_bl)
   | str j => obtain ⟨t', rfl⟩ := ry; exact PySem.EqMixed.eq_bool_str (fin_bl I q (by simp))
   | _ => exact absurd (show false = true from hs) Bool.false_ne_true
 | int i =>
   obtain ⟨t, rfl⟩ := rx
   cases y with
   | non => cases ry; exact PySem.EqNone.eq_int_none (fin_bl I q (by simp))
   | int j => obtain ⟨t', rfl⟩ := ry; exact eq_int (fin_bl I q dec_int)
   | str j => obtain ⟨t', rfl⟩ := ry; exact PySem.EqMixed.eq_int_str (fin_bl I q (by simp))
   | _ => exact absurd (show false = true from hs) Bool.false_ne_true
 | str i =>
   obtain ⟨t, rfl⟩ := rx
   cases y with
   | non => cases ry; exact PySem.EqNone.eq_str_none (fin_bl I q (by simp))
   | bl j => cases ry; exact PySem.EqMixed.eq_str_bool (fin_bl I q (by simp))
   | int j => obtain ⟨t', rfl⟩ := ry; exact PySem.EqMixed.eq_str_int (fin_bl I q (by simp))
   | str j => obtain ⟨t', rfl⟩ := ry; exact eq_str (fin_bl I q dec_str)
   | _ => exact absurd (show false = true from hs) Bool.false_ne_true
 | byt i =>
   obtain ⟨t, rfl⟩ := rx
   cases y with
   | byt j => obtain ⟨t', rfl⟩ := ry; exact PySem.W.eq_bytes (fin_bl I q dec_byt)
   | _ => exact absurd (show false = true from hs) Bool.false_ne_true
 | _ => cases y <;> exact absurd (show false = true from hs) Bool.false_ne_true
theorem op_ne : OpR X (compareOp .NotEq) rNe := by
 intro pins s σ H x y v u Q I rx ry h
 obtain ⟨hs, q⟩ := h
 cases x with
 | non =>
   cases rx
   cases y with
   | non => cases ry; exact PySem.EqNone.ne_none_none (fin_bl I q (by simp))
   | bl j => cases ry; exact PySem.EqNone.ne_none_bool (fin_bl I q (by simp))
   | int j => obtain ⟨t', rfl⟩ := ry; exact PySem.EqNone.ne_none_int (fin_bl I q (by simp))
   | str j => obtain ⟨t', rfl⟩ := ry; exact PySem.EqNone.ne_none_str (fin_bl I q (by simp))
   | _ => exact absurd (show false = true from hs) Bool.false_ne_true
 | bl i =>
   cases rx
   cases y with
   | non => cases ry; exact PySem.EqNone.ne_bool_none (fin_bl I q (by simp))
   | bl j => cases ry; exact ne_bool (fin_bl I q (congrArg not dec_bl))
   | str j => obtain ⟨t', rfl⟩ := ry; exact PySem.EqMixed.ne_bool_str (fin_bl I q (by simp))
   | _ => exact absurd (show false = true from hs) Bool.false_ne_true
 | int i =>
   obtain ⟨t, rfl⟩ := rx
   cases y with
   | non => cases ry; exact PySem.EqNone.ne_int_none (fin_bl I q (by simp))
   | int j => obtain ⟨t', rfl⟩ := ry; exact ne_int (fin_bl I q (congrArg not dec_int))
   | str j => obtain ⟨t', rfl⟩ := ry; exact PySem.EqMixed.ne_int_str (fin_bl I q (by simp))
   | _ => exact absurd (show false = true from hs) Bool.false_ne_true
 | str i =>
   obtain ⟨t, rfl⟩ := rx
   cases y with
   | non => cases ry; exact PySem.EqNone.ne_str_none (fin_bl I q (by simp))
   | bl j => cases ry; exact PySem.EqMixed.ne_str_bool (fin_bl I q (by simp))
   | int j => obtain ⟨t', rfl⟩ := ry; exact PySem.EqMixed.ne_str_int (fin_bl I q (by simp))
   | str j => obtain ⟨t', rfl⟩ := ry; exact ne_str (fin_bl I q (congrArg not dec_str))
   | _ => exact absurd (show false = true from hs) Bool.false_ne_true
 | byt i =>
   obtain ⟨t, rfl⟩ := rx
   cases y with
   | byt j => obtain ⟨t', rfl⟩ := ry; exact PySem.W.ne_bytes (fin_bl I q (congrArg not dec_byt))
   | _ => exact absurd (show false = true from hs) Bool.false_ne_true
 | _ => cases y <;> exact absurd (show false = true from hs) Bool.false_ne_true
theorem op_lt : OpR X (compareOp .Lt) (rI0 fun i j => .bl (decide (i < j))) := opB0 fun _ _ _ _ _ _ _ q => lt_int q
theorem op_gt : OpR X (compareOp .Gt) (rI0 fun i j => .bl (decide (j < i))) := opB0 fun _ _ _ _ _ _ _ q => gt_int q
theorem op_isN : OpR X (compareOp .Is) (fun x y H Q => y = .non ∧ Q (.bl (decide (x = .non))) H) := by
 intro pins s σ H x y v u Q I rx ry h
 obtain ⟨rfl, q⟩ := h
 cases ry
 refine is_none_gen (fin_bl I q ?_)
 cases x <;> first
   | (cases rx; rfl)
   | (obtain ⟨t, rfl⟩ := rx; rfl)
theorem op_notN : OpR X (compareOp .IsNot) (fun x y H Q => y = .non ∧ Q (.bl (!decide (x = .non))) H) := by
 intro pins s σ H x y v u Q I rx ry h
 obtain ⟨rfl, q⟩ := h
 cases ry
 refine isnot_none_gen (fin_bl I q ?_)
 cases x <;> first
   | (cases rx; rfl)
   | (obtain ⟨t, rfl⟩ := rx; rfl)
theorem OpR.or {f : Value → Value → Sem Value} {r r' : R2} (h : OpR X f r) (h' : OpR X f r') : OpR X f (fun x y H Q => r x y H Q ∨ r' x y H Q) := by
 intro pins s σ H x y v u Q I rx ry q
 rcases q with q | q
 · exact h pins s σ H x y v u Q I rx ry q
 · exact h' pins s σ H x y v u Q I rx ry q
theorem nomark (b : Expr) {op : CmpOp} (h : op ≠ .In := by decide) (h2 : op ≠ .NotIn := by decide) : behindInMarks op b = false := by
 have e1 : (op == CmpOp.In) = false := by cases op <;> first | rfl | exact absurd rfl h
 have e2 : (op == CmpOp.NotIn) = false := by cases op <;> first | rfl | exact absurd rfl h2
 cases b <;> simp [behindInMarks, e1, e2]
theorem pe_cmpR {op : CmpOp} {r : R2} (ho : OpR X (compareOp op) r) (ha : PE X a ta) (hb : PE X b tb) (hm : behindInMarks op b = false) : PE X (.Compare a [op] [b] pos) (tOp r ta tb) := by
 intro pins s σ H Q I h
 exact wpAny_Compare1 (binT ha hb I h fun v u s2 x y H2 I2 rx ry q => ho pins s2 σ H2 x y v u Q I2 rx ry q) hm
def tTest (t : TE) : TT := fun σ H Q => t σ H fun x H' => ∃ k, x = .bl k ∧ Q k H'
theorem pt_cmpR {op : CmpOp} {r : R2} (ho : OpR X (compareOp op) r) (ha : PE X a ta) (hb : PE X b tb) (hm : behindInMarks op b = false) : PT X (.Compare a [op] [b] pos) (tTest (tOp r ta tb)) := by
 intro pins s σ H Q I h
 refine wpAny_isTrue_Compare1 (thn (ha pins s σ H _ I h) fun v s1 ⟨x, H1, I1, r1, q1⟩ => thn (hb pins s1 σ H1 _ I1 q1) fun u s2 ⟨y, H2, I2, r2, q2⟩ =>
   thn (ho pins s2 σ H2 x y v u _ I2 r1 r2 q2) fun c s3 ⟨z, H3, I3, r3, k, e, q3⟩ => ?_) hm
 subst e
 cases r3
 exact wpAny_truthy_bool ⟨H3, I3, q3⟩
theorem line63 : (sizeLine : Nat) < 2 ^ 63 := by rw [sizeLine_eq]; decide
theorem op_add_str : OpR X (binaryOp .Add) (fun x y H Q => ∃ i j, x = .str i ∧ y = .str j ∧ i.length + j.length ≤ sizeLine ∧ Q (.str (i ++ j)) H) := by
 intro pins s σ H x y v u Q I rx ry h
 obtain ⟨i, j, rfl, rfl, hz, q⟩ := h
 obtain ⟨t, rfl⟩ := rx
 obtain ⟨t', rfl⟩ := ry
 exact add_str (fun t' tk => ⟨.str (i ++ j), H, I.tok _, ⟨_, rfl⟩, q⟩) hz
theorem vals1 {x : V} {us : List Value} (r : Vals [x] us) : ∃ u, us = [u] ∧ RelV x u := by
 cases r with
 | cons r1 r2 => cases r2; exact ⟨_, rfl, r1⟩
theorem vals2 {x y : V} {us : List Value} (r : Vals [x, y] us) : ∃ u w', us = [u, w'] ∧ RelV x u ∧ RelV y w' := by
 cases r with
 | cons r1 r2 =>
   cases r2 with
   | cons r3 r4 => cases r4; exact ⟨_, _, rfl, r1, r3⟩
theorem call_min2 (hc : X.calm = true) : CallR X (.builtin "min") (fun xs H Q => ∃ i j, xs = [.int i, .int j] ∧ Q (.int (if j < i then j else i)) H) := by
 intro pins s σ H xs us Q I r h
 obtain ⟨i, j, rfl, q⟩ := h
 obtain ⟨u, w', rfl, ⟨t, rfl⟩, ⟨t', rfl⟩⟩ := vals2 r
 refine min_two_ints (I.ok.hd hc) fun h' tk k => ⟨_, H, I.kept k, ?_, q⟩
 by_cases hj : j < i
 · rw [if_pos hj, if_pos hj]; exact ⟨_, rfl⟩
 · rw [if_neg hj, if_neg hj]; exact ⟨_, rfl⟩
end
end L2
namespace L2
open PySem PySem.Spec PyProof.Rows
structure ObjM (h : Heap) (x dx C : Addr) (mA : Str → Option Value) : Prop where
 obj : h.get? x = some (PySem.W.instObj C dx)
 ns : h.Ns1 dx mA
 ne : dx ≠ x
theorem lookIn_ns {h : Heap} {dx : Addr} {mA : Str → Option Value} (n : h.Ns1 dx mA) : ∃ od, h.get? dx = some od ∧ ∀ name, PySem.W.lookIn name od = some (mA name) := by
 obtain ⟨o, es, ep, ho, hd, hk, _, hm⟩ := n
 refine ⟨o, ho, fun name => ?_⟩
 have e := hm name
 unfold nsFind findBy at e
 rw [← Array.find?_toList] at e
 unfold PySem.W.lookIn
 rw [hd]
 dsimp only
 split
 · rename_i y q
   rw [q] at e
   exact congrArg some e
 · rename_i q
   rw [q] at e
   have a : es.toList.any (·.refKey) = false := by
     rw [List.any_eq_false]
     intro y hy
     obtain ⟨z, t, hkey⟩ := hk y (Array.mem_toList_iff.mp hy)
     simp [DictEntry.refKey, hkey]
   have a' : ¬ es.toList.any (·.refKey) = true := by rw [a]; exact Bool.false_ne_true
   rw [if_neg a']
   exact congrArg some e
theorem ObjM.look {h : Heap} {x dx C : Addr} {mA : Str → Option Value} (I : ObjM h x dx C mA) : ∃ od, PySem.W.InstAt h x (PySem.W.instObj C dx) C (some od) ∧ ∀ name, PySem.W.lookIn name od = some (mA name) :=
 let ⟨od, ho, hl⟩ := lookIn_ns I.ns
 ⟨od, ⟨I.obj, rfl, rfl, ho⟩, hl⟩
section
variable {prog : Program} {w : World} {A : Around} {E : Value → Shared → Prop} {s : Shared} {K : PySem.W.Frag} {x dx C f : Addr} {mA : Str → Option Value} {name : Str} {v : Value}
theorem get_map {expr : Bool} {Q : Value → Shared → Prop} (X : K.In s.heap) (I : ObjM s.heap x dx C mA) (hg : PySem.W.plainGet K C name = true) (hh : PySem.W.hasDictIn K C = true)
   (ha : PySem.W.findIn K (.ref C) name = some none) (hv : mA name = some v) (hv' : PySem.W.handedIn v = true) (h : Q v { s with toks := s.toks + 1 }) :
   wpAny (model prog w) A (getAttr (.ref x) name expr) Q E s := by
 obtain ⟨od, J, hl⟩ := I.look
 exact PySem.W.get_value X J (PySem.W.plainGet_of hg).1 (PySem.W.findObj_own hh ha rfl (by rw [hl, hv])) hv' h
theorem get_meth {pl : Sem Bool} {Q : Value × List Value → Shared → Prop} (X : K.In s.heap) (I : ObjM s.heap x dx C mA) (hg : PySem.W.plainGet K C name = true)
   (hf : PySem.W.findIn K (.ref C) name = some (some (.ref f))) (ht : PySem.W.isFn K (.ref f) = true) (hv : mA name = none) (h : Q (.ref f, [.ref x]) s) :
   wpAny (model prog w) A (getMethod (.ref x) name pl) Q E s := by
 obtain ⟨od, J, hl⟩ := I.look
 exact PySem.W.method_fn X J (PySem.W.plainGet_of hg).1 (PySem.W.plainGet_of hg).2 hf (beq_iff_eq.mp ht) (by show (PySem.W.lookIn name od).map (·.isSome) = some false; rw [hl, hv]; rfl) h
theorem set_map {ns : List Str} {Q : Unit → Shared → Prop} (X : K.In s.heap) (I : ObjM s.heap x dx C mA)
   (hs : PySem.W.findIn K (.ref C) "__setattr__" = some (some (.builtin "object.__setattr__"))) (hp : PySem.W.plainOver K C = true) (ht : PySem.W.takerIn K C name = some none) (hh : PySem.W.hasDictIn K C = true)
   (hw : PySem.Within mA ns) (hsz : ns.length ≤ sizeLine)
   (h : ∀ h', ObjM h' x dx C (fun y => if y = name then some v else mA y) → Heap.SameBut dx s.heap h' → Q () { s with heap := h', toks := s.toks + 2 }) :
   wpAny (model prog w) A (setAttr (.ref x) name v) Q E s := by
 obtain ⟨od, J, hl⟩ := I.look
 refine PySem.W.set_plain X J hs (PySem.W.osa_open (s := { s with toks := s.toks + 1 }) (r := none) X J hp ht fun b => ?_)
 obtain ⟨cd, hc, hd'⟩ := PySem.W.any_some hh
 have hx : s.heap.get? x = some ⟨.ref C, some dx, .plain, #[]⟩ := I.obj
 refine wpAny_bind (wpAny_pure (wpAny_bind (wpAny_bind (wpAny_loadPart hx (wpAny_bind (PySem.W.Looks.here (s := { s with toks := s.toks + 1 }) (PySem.W.looks_clsIn X hc) ?_))))))
 rw [hd']
 refine wpAny_pure (a := some dx) (wpAny_bind (wpAny_pure (wpAny_bind ?_)))
 refine wpAny_nsSet1 (s := { s with toks := s.toks + 1 }) I.ns fun h' hn2 hs2 => ?_
 obtain ⟨oD, esD, epD, hoD, hdD, hcD⟩ := hn2.count (PySem.Within.cons name v hw)
 refine wpAny_bind (wpAny_lookBehind hoD (by rw [hdD]; exact pastItsLine_dict (Nat.le_trans hcD (by rw [List.length_cons]; omega))) ?_)
 exact wpAny_pure (h _ ⟨(hs2.2 _ (Ne.symm I.ne)).trans I.obj, hn2, I.ne⟩ hs2)
theorem make_map {R : Result → Shared → Prop} {vs : List Value} {kw : List (Str × Value)} (X : K.In s.heap) (hm : PySem.W.makesIn K C = true)
   (hi : PySem.W.findIn K (.ref C) "__init__" = some (some (.ref f))) (hf : PySem.W.typeIn K (.ref f) = some (.type "function"))
   (h : codeAny (model prog w) (A.under (.builtin "type.__call__" ⟨.ref C :: vs, kw⟩)) (.call (.ref f) ⟨.ref (s.heap.objs.size + 1) :: vs, kw⟩) (PySem.W.InitBack (s.heap.objs.size + 1) R)
     { s with heap := (s.heap.push PySem.W.emptyDict).push (PySem.W.instObj C s.heap.objs.size) }) :
   codeAny (model prog w) A (.call (.ref C) ⟨vs, kw⟩) R s := by
 obtain ⟨hh, g, d, t, os⟩ := s
 exact PySem.W.make_core (PySem.W.makes_of X hm) (PySem.W.looks_findIn X hi) (fun self => PySem.W.bind_fn X self hf) (.inl rfl) h
end
def putF (f : Str) (v : V) : List (Str × V) → List (Str × V)
 | [] => [(f, v)]
 | (g, x) :: r => if g = f then (g, v) :: r else (g, x) :: putF f v r
theorem lookup_putF (f g : Str) (v : V) : ∀ fs : List (Str × V), (putF f v fs).lookup g = if g = f then some v else fs.lookup g
 | [] => by
   show List.lookup g [(f, v)] = _
   by_cases h : g = f
   · have hb : (g == f) = true := beq_iff_eq.mpr h
     simp only [List.lookup, hb, if_pos h]
   · have hb : (g == f) = false := beq_eq_false_iff_ne.mpr h
     simp only [List.lookup, hb, if_neg h]
 | (k, x) :: r => by
   have ih := lookup_putF f g v r
   rw [show putF f v ((k, x) :: r) = (if k = f then (k, v) :: r else (k, x) :: putF f v r) from rfl]
   by_cases hk : k = f
   · rw [if_pos hk]
     by_cases h : g = k
     · have hb : (g == k) = true := beq_iff_eq.mpr h
       simp only [List.lookup, hb, if_pos (h.trans hk)]
     · have hb : (g == k) = false := beq_eq_false_iff_ne.mpr h
       simp only [List.lookup, hb, if_neg (fun e : g = f => h (e.trans hk.symm))]
   · rw [if_neg hk]
     by_cases h : g = k
     · have hb : (g == k) = true := beq_iff_eq.mpr h
       simp only [List.lookup, hb, if_neg (fun e : g = f => hk (h.symm.trans e))]
     · have hb : (g == k) = false := beq_eq_false_iff_ne.mpr h
       simp only [List.lookup, hb]
       exact ih
theorem keys_putF (f : Str) (v : V) : ∀ fs : List (Str × V), f ∈ (putF f v fs).map (·.1) ∧ ∀ g, g ∈ fs.map (·.1) → g ∈ (putF f v fs).map (·.1)
 | [] => ⟨by simp [putF], fun g h => by simp at h⟩
 | (k, x) :: r => by
   obtain ⟨i1, i2⟩ := keys_putF f v r
   rw [show putF f v ((k, x) :: r) = (if k = f then (k, v) :: r else (k, x) :: putF f v r) from rfl]
   by_cases hk : k = f
   · rw [if_pos hk]
     subst hk
     exact ⟨by simp, fun g h => by simpa using h⟩
   · rw [if_neg hk]
     refine ⟨?_, fun g h => ?_⟩
     · rw [List.map_cons]
       exact List.mem_cons_of_mem _ i1
     · rw [List.map_cons] at h ⊢
       rcases List.mem_cons.mp h with e | e
       · exact List.mem_cons.mpr (.inl e)
       · exact List.mem_cons_of_mem _ (i2 g e)
theorem length_putF (f : Str) (v : V) : ∀ fs : List (Str × V), (putF f v fs).length ≤ fs.length + 1
 | [] => by simp [putF]
 | (k, x) :: r => by
   have ih := length_putF f v r
   rw [show putF f v ((k, x) :: r) = (if k = f then (k, v) :: r else (k, x) :: putF f v r) from rfl]
   by_cases hk : k = f
   · rw [if_pos hk, List.length_cons, List.length_cons]; omega
   · rw [if_neg hk, List.length_cons, List.length_cons]; omega
theorem RelO.some_of {v : V} {o : Option Value} (r : RelO (some v) o) : ∃ u, o = some u ∧ RelV v u := by
 cases o with
 | none => exact (show False from r).elim
 | some u => exact ⟨u, rfl, r⟩
theorem RelO.none_of {o : Option Value} (r : RelO none o) : o = none := by
 cases o with
 | none => rfl
 | some u => exact (show False from r).elim
theorem handed_of {v : V} {u : Value} (r : RelV v u) : PySem.W.handedIn u = true := by
 cases v with
 | non => cases (show u = Value.none from r); rfl
 | bl b => cases (show u = Value.bool b from r); rfl
 | int i => obtain ⟨t, e⟩ := (show ∃ t, u = Value.int i t from r); cases e; rfl
 | str x => obtain ⟨t, e⟩ := (show ∃ t, u = Value.str x t from r); cases e; rfl
 | byt b => obtain ⟨t, e⟩ := (show ∃ t, u = Value.bytes b t from r); cases e; rfl
 | flt b => obtain ⟨t, e⟩ := (show ∃ t, u = Value.float b t from r); cases e; rfl
 | ref a => cases (show u = Value.ref a from r); rfl
 | ty n => cases (show u = Value.type n from r); rfl
section
variable {P : Program} {w : World} {H H' : Hp} {h h' : Heap} {a C dx : Addr} {fs fs' : List (Str × V)}
theorem ins_get (hok : HOk P w H h) (e : H a = some (.ins C dx fs)) : ∃ mA, ObjM h a dx C mA ∧ (∀ f, RelO (fs.lookup f) (mA f)) ∧ PySem.Within mA (fs.map (·.1)) ∧ fs.length ≤ 1000 ∧ H dx = some (.own a) := by
 obtain ⟨d, z, ne, ob, mA, n, r, q⟩ := (show ObjOk P w H h a (.ins C dx fs) from hok a _ e)
 exact ⟨mA, ⟨ob, n, ne⟩, r, q, z, d⟩
end
structure Cls (K : PySem.W.Frag) (C : Addr) : Prop where
 pg : PySem.W.plainGet K C Str.empty = true
 hd : PySem.W.hasDictIn K C = true
 po : PySem.W.plainOver K C = true
 sa : PySem.W.findIn K (.ref C) "__setattr__" = some (some (.builtin "object.__setattr__"))
theorem Cls.get {K : PySem.W.Frag} {C : Addr} (c : Cls K C) (f : Str) : PySem.W.plainGet K C f = true := c.pg
def NoAttr (K : PySem.W.Frag) (C : Addr) (f : Str) : Prop := PySem.W.findIn K (.ref C) f = some none
theorem NoAttr.taker {K : PySem.W.Frag} {C : Addr} {f : Str} (n : NoAttr K C f) : PySem.W.takerIn K C f = some none := by
 unfold PySem.W.takerIn
 rw [show PySem.W.findIn K (.ref C) f = some none from n]
 rfl
structure Meth (K : PySem.W.Frag) (C : Addr) (m : Str) (f : Addr) : Prop where
 at_ : PySem.W.findIn K (.ref C) m = some (some (.ref f))
 fn : PySem.W.isFn K (.ref f) = true
 kp : PySem.W.keepIn K (.ref f) = true
section
variable {X : Cx} {pins : List (Addr × Obj)} {σ : St} {H : Hp} {s : Shared} {a C dx : Addr} {fs : List (Str × V)} {f : Str} {v : V} {A : Around} {E : Value → Shared → Prop}
theorem getattr_ok {b : Bool} {Q : Value → Shared → Prop} (I : Inv X pins σ H s) (e : H a = some (.ins C dx fs)) (c : Cls X.K C) (n : NoAttr X.K C f) (l : fs.lookup f = some v)
   (h : ∀ u s', Inv X pins σ H s' → RelV v u → Q u s') : wpAny (model X.prog X.w) A (getAttr (.ref a) f b) Q E s := by
 obtain ⟨mA, O, r, _, _, _⟩ := ins_get I.hok e
 obtain ⟨u, hu, ru⟩ := RelO.some_of (v := v) (o := mA f) (by rw [← l]; exact r f)
 exact get_map I.kIn O (c.get f) c.hd n hu (handed_of ru) (h u _ (I.tok _) ru)
theorem getmeth_ok {m : Str} {g : Addr} {pl : Sem Bool} {Q : Value × List Value → Shared → Prop} (I : Inv X pins σ H s) (e : H a = some (.ins C dx fs)) (c : Cls X.K C) (k : Meth X.K C m g) (l : fs.lookup m = none)
   (h : Q (.ref g, [.ref a]) s) : wpAny (model X.prog X.w) A (getMethod (.ref a) m pl) Q E s := by
 obtain ⟨mA, O, r, _, _, _⟩ := ins_get I.hok e
 have hn : mA m = none := RelO.none_of (by rw [← l]; exact r m)
 exact get_meth I.kIn O (c.get m) k.at_ k.fn hn h
theorem setattr_ok {y : V} {u : Value} {Q : Unit → Shared → Prop} (I : Inv X pins σ H s) (e : H a = some (.ins C dx fs)) (c : Cls X.K C) (n : NoAttr X.K C f) (hl : fs.length < 1000) (ry : RelV y u)
   (h : ∀ s', Inv X pins σ (upd H a (.ins C dx (putF f y fs))) s' → Q () s') : wpAny (model X.prog X.w) A (setAttr (.ref a) f u) Q E s := by
 obtain ⟨mA, O, r, wi, _, ho⟩ := ins_get I.hok e
 have hz : (fs.map (·.1)).length ≤ sizeLine := by rw [List.length_map, sizeLine_eq]; omega
 refine set_map I.kIn O c.sa c.po n.taker c.hd wi hz fun h' O' sb => h _ ?_
 have hd : ∃ o, h'.get? dx = some o := let ⟨o, _, _, e', _⟩ := O'.ns; ⟨o, e'⟩
 refine I.write (x := a) (e := dx) (by rw [e]; exact True.intro) (.inr ho) (fun b q hb z => (sb.2 b hb).trans z) hd ?_
 refine ⟨by rw [upd_ne O.ne]; exact ho, ?_, O.ne, O'.obj, _, O'.ns, fun g => ?_, fun g hg => ?_⟩
 · have := length_putF f y fs; omega
 · show RelO ((putF f y fs).lookup g) (if g = f then some u else mA g)
   rw [lookup_putF]
   by_cases q : g = f
   · rw [if_pos q, if_pos q]; exact ry
   · rw [if_neg q, if_neg q]; exact r g
 · by_cases q : g = f
   · rw [q]; exact (keys_putF f y fs).1
   · refine (keys_putF f y fs).2 g (wi g fun z => hg ?_)
     show (if g = f then some u else mA g) = none
     rw [if_neg q]; exact z
theorem Inv.made (I : Inv X pins σ H s) : Inv X pins σ (upd (upd H s.heap.objs.size (.own (s.heap.objs.size + 1))) (s.heap.objs.size + 1) (.ins C s.heap.objs.size []))
   { s with heap := (s.heap.push PySem.W.emptyDict).push (PySem.W.instObj C s.heap.objs.size) } := by
 have e1 : (s.heap.push PySem.W.emptyDict).get? s.heap.objs.size = some PySem.W.emptyDict := Heap.get?_push_size s.heap rfl
 have e2 : ((s.heap.push PySem.W.emptyDict).push (PySem.W.instObj C s.heap.objs.size)).get? (s.heap.objs.size + 1) = some (PySem.W.instObj C s.heap.objs.size) := by
   have := Heap.get?_push_size (s.heap.push PySem.W.emptyDict) (o := PySem.W.instObj C s.heap.objs.size) rfl
   rwa [Heap.size_push] at this
 have e3 : (s.heap.push PySem.W.emptyDict).Ns s.heap.objs.size (fun _ => none) := ⟨PySem.W.emptyDict, #[], _, e1, rfl, (fun e he => absurd he (by simp)), fun _ => rfl⟩
 have I1 := I.laid (a := s.heap.objs.size) (o := .own (s.heap.objs.size + 1)) (h' := s.heap.push PySem.W.emptyDict) (t' := s.toks) (fun b u q => Heap.get?_push_of_some _ q) (Nat.le_refl _) ⟨_, e1⟩
 refine I1.laid (a := s.heap.objs.size + 1) (o := .ins C s.heap.objs.size []) (t' := s.toks) (fun b u q => Heap.get?_push_of_some _ q) (Nat.le_of_eq (Heap.size_push _ _)) ?_
 have ne : s.heap.objs.size ≠ s.heap.objs.size + 1 := Nat.ne_of_lt (Nat.lt_succ_self _)
 refine ⟨by rw [upd_ne ne, upd_same], Nat.zero_le _, ne, e2, fun _ => none, (Heap.Ns1.of_empty e3).at fun o q => Heap.get?_push_of_some _ q, fun _ => True.intro, fun y hy => absurd rfl hy⟩
theorem attr_of {prog : Program} {w : World} {env : Env} {e : Expr} {f : Str} {pos : Pos} {s : Shared} {Q : Value → Shared → Prop} (hb : attributeBase e f env (eval e env) = eval e env)
   (h : wpAny (model prog w) A (eval e env) (fun o s₁ => wpAny (model prog w) A (getAttr o f true) Q E s₁) E s) : wpAny (model prog w) A (eval (.Attribute e f pos) env) Q E s :=
 Attribute_any_ h (by rw [arm_eval_Attribute, hb])
end
def tFld (K : PySem.W.Frag) (ta : TE) (f : Str) : TE := fun σ H Q => ta σ H fun x H1 => ∃ a C dx fs v, x = .ref a ∧ H1 a = some (.ins C dx fs) ∧ Cls K C ∧ NoAttr K C f ∧ fs.lookup f = some v ∧ Q v H1
def sFld (K : PySem.W.Frag) (ta tv : TE) (f : Str) : TS := fun D σ H => tv σ H fun y H1 => ta σ H1 fun x H2 => ∃ a C dx fs, x = .ref a ∧ H2 a = some (.ins C dx fs) ∧ Cls K C ∧ NoAttr K C f ∧ fs.length < 1000 ∧
 D.nx σ (upd H2 a (.ins C dx (putF f y fs)))
section
variable {X : Cx} {o e value : Expr} {f : Str} {pos pos' tpos : Pos} {ta tv : TE}
theorem pe_fld (he : PE X e ta) (hb : attributeBase e f X.env (eval e X.env) = eval e X.env) : PE X (.Attribute e f pos) (tFld X.K ta f) := by
 intro pins s σ H Q I h
 refine attr_of hb (thn (he pins s σ H _ I h) fun u s1 ⟨x, H1, I1, rx, a, C, dx, fs, v, ex, ea, c, n, l, q⟩ => ?_)
 subst ex
 obtain rfl : u = Value.ref a := rx
 exact getattr_ok I1 ea c n l fun u' s2 I2 ru => ⟨v, H1, I2, ru, q⟩
theorem ps_fld (ha : PE X o ta) (hv : PE X value tv) (hs : swapsWith value (some (.Attribute o f pos')) pos.line X.env = pure false) : PS X (.Assign [.Attribute o f pos'] value pos) (sFld X.K ta tv f) := by
 intro pins s σ H D I h
 refine plainObj_wpAny_Assign_Attribute (thn (hv pins s σ H _ I h) fun u s1 ⟨y, H1, I1, ry, q⟩ => thn (ha pins s1 σ H1 _ I1 q) fun ov s2 ⟨x, H2, I2, rx, a, C, dx, fs, ex, ea, c, n, l, q2⟩ => ?_) hs
 subst ex
 obtain rfl : ov = Value.ref a := rx
 exact setattr_ok I2 ea c n l ry fun s3 I3 => ⟨σ, _, I3, q2⟩
end
section
variable {X : Cx} {pins : List (Addr × Obj)} {σ : St} {H : Hp} {s : Shared} {A : Around} {E : Value → Shared → Prop} {Q : Value → Shared → Prop} {c : Value} {b : Bool}
inductive TyOf (K : PySem.W.Frag) (H : Hp) : V → Value → Prop where
 | non : TyOf K H .non (.type "NoneType")
 | bl (x : Bool) : TyOf K H (.bl x) (.type "bool")
 | int (i : Int) : TyOf K H (.int i) (.type "int")
 | str (x : Str) : TyOf K H (.str x) (.type "str")
 | flt (x : UInt64) : TyOf K H (.flt x) (.type "float")
 | lst {a : Addr} {xs : List V} (e : H a = some (.lst xs)) : TyOf K H (.ref a) (.type "list")
 | frz {a : Addr} {o : Obj} {xs : List V} (e : H a = some (.frz o (.lst xs))) : TyOf K H (.ref a) (.type "list")
 | tup {a : Addr} {xs : List V} (e : H a = some (.tup xs)) : TyOf K H (.ref a) (.type "tuple")
 | dK {a : Addr} {kvs : List (Key × V)} (e : H a = some (.dK kvs)) : TyOf K H (.ref a) (.type "dict")
 | dT {a : Addr} {kvs : List (List Key × V)} (e : H a = some (.dT kvs)) : TyOf K H (.ref a) (.type "dict")
 | ins {a C dx : Addr} {fs : List (Str × V)} (e : H a = some (.ins C dx fs)) (cl : Cls K C) (ha : PySem.W.findIn K (.ref C) "__class__" = some (some (.builtin "object.__class__")))
     (hn : PySem.W.specialIn K (.builtin "object.__class__") "__get__" = some (some (.builtin "getset_descriptor.__get__"))) (htk : PySem.W.takesIn K (.builtin "object.__class__") = some true)
     (hm : PySem.W.mroIn K C (.type "object") = some true) : TyOf K H (.ref a) (.ref C)
theorem isinst_ok {x : V} {u t : Value} (I : Inv X pins σ H s) (rx : RelV x u) (ty : TyOf X.K H x t) (e : PySem.W.kitOne X.K t c = some b) (h : ∀ tk, Q (.bool b) { s with toks := tk }) :
   wpAny (model X.prog X.w) A (call (.builtin "isinstance") [u, c]) Q E s := by
 cases ty with
 | non => cases (show u = Value.none from rx); exact PySem.W.kia_one PySem.W.kitx_none I.kIn True.intro e (fun z => nomatch z) h
 | bl y => cases (show u = Value.bool y from rx); exact PySem.W.kia_one PySem.W.kitx_bool I.kIn True.intro e (fun z => nomatch z) h
 | int i => obtain ⟨t, q⟩ := (show ∃ t, u = Value.int i t from rx); cases q; exact PySem.W.kia_one PySem.W.kitx_int I.kIn True.intro e (fun z => nomatch z) h
 | str y => obtain ⟨t, q⟩ := (show ∃ t, u = Value.str y t from rx); cases q; exact PySem.W.kia_one PySem.W.kitx_str I.kIn True.intro e (fun z => nomatch z) h
 | flt y => obtain ⟨t, q⟩ := (show ∃ t, u = Value.float y t from rx); cases q; exact PySem.W.kia_one PySem.W.kitx_float I.kIn True.intro e (fun z => nomatch z) h
 | @lst a xs ea =>
   cases (show u = Value.ref a from rx)
   obtain ⟨_, _, n, _, h1⟩ := (show ObjOk X.prog X.w H s.heap a (.lst xs) from I.hok a _ ea)
   exact PySem.W.kia_one PySem.W.kitx_list I.kIn ⟨_, h1, rfl⟩ e (fun z => nomatch z) h
 | @frz a ob xs ea =>
   cases (show u = Value.ref a from rx)
   obtain ⟨_, _, _, n, _, h1⟩ := (show ObjOk X.prog X.w H s.heap a (.frz ob (.lst xs)) from I.hok a _ ea)
   exact PySem.W.kia_one PySem.W.kitx_list I.kIn ⟨_, h1, rfl⟩ e (fun z => nomatch z) h
 | @tup a xs ea =>
   cases (show u = Value.ref a from rx)
   obtain ⟨_, _, _, p⟩ := (show ObjOk X.prog X.w H s.heap a (.tup xs) from I.hok a _ ea)
   obtain ⟨o, h1, h2, _⟩ := p
   exact PySem.W.kia_one PySem.W.kitx_tuple I.kIn ⟨o, h1, h2⟩ e (fun z => nomatch z) h
 | @dK a kvs ea =>
   cases (show u = Value.ref a from rx)
   obtain ⟨_, _, vs, _, p⟩ := (show ObjOk X.prog X.w H s.heap a (.dK kvs) from I.hok a _ ea)
   obtain ⟨o, es, ep, h1, h2, _⟩ := p
   exact PySem.W.kia_one PySem.W.kitx_dict I.kIn ⟨o, h1, h2.1⟩ e (fun z => nomatch z) h
 | @dT a kvs ea =>
   cases (show u = Value.ref a from rx)
   obtain ⟨_, _, xs, _, o, es, ep, h1, h2, _⟩ := (show ObjOk X.prog X.w H s.heap a (.dT kvs) from I.hok a _ ea)
   exact PySem.W.kia_one PySem.W.kitx_dict I.kIn ⟨o, h1, h2.1⟩ e (fun z => nomatch z) h
 | @ins a C dx fs ea cl ha hn htk hm =>
   cases (show u = Value.ref a from rx)
   obtain ⟨mA, O, _⟩ := ins_get I.hok ea
   obtain ⟨od, J, _⟩ := O.look
   exact PySem.W.kia_one (PySem.W.kitx_own (cl.get _) cl.hd ha hn htk hm) I.kIn J e (fun z => nomatch z) h
end
end L2
namespace L2
open PySem PySem.Spec PyProof.Rows
structure Room (cm : Bool) (k : Nat) (A : Around) : Prop where
 hd : cm = true → A.handled = none
 dp : A.depth + 3 * k + 5 < recursionLimit
 un : A.units + 16 * k + 200 < cLine
theorem Room.mono {cm : Bool} {j k : Nat} {A : Around} (r : Room cm k A) (h : j ≤ k) : Room cm j A := ⟨r.hd, by have := r.dp; omega, by have := r.un; omega⟩
theorem Room.deeper {cm : Bool} {k : Nat} {A : Around} (r : Room cm (k + 1) A) (env : Env) : Room cm k (A.deeper env) :=
 ⟨r.hd, by have := r.dp; show A.depth + 1 + 3 * k + 5 < _; omega, by have := r.un; show A.units + 3 + 16 * k + 200 < _; omega⟩
theorem Room.in1 {cm : Bool} {k : Nat} {A : Around} (r : Room cm (k + 1) A) : Room cm k A.in1 :=
 ⟨r.hd, by have := r.dp; show A.depth + 3 * k + 5 < _; omega, by have := r.un; show A.units + 1 + 16 * k + 200 < _; omega⟩
theorem make_depth {A : Around} {C : Addr} {us : List Value} {kw : List (Str × Value)} : (A.under (.builtin "type.__call__" ⟨.ref C :: us, kw⟩)).depth = A.depth + 1 := by
 first | rfl | simp [Around.under, Code.weight, Code.isCreation, Code.isGuard, Code.isCaller, Code.frames, Code.isFrame, guardIds]
theorem make_units {A : Around} {C : Addr} {us : List Value} {kw : List (Str × Value)} : (A.under (.builtin "type.__call__" ⟨.ref C :: us, kw⟩)).units = A.units + 1 := by
 first | rfl | simp [Around.under, Code.cUnits, Code.frames, Code.isFrame]
theorem Room.make {cm : Bool} {k : Nat} {A : Around} (r : Room cm (k + 1) A) (C : Addr) (us : List Value) (kw : List (Str × Value)) : Room cm k (A.under (.builtin "type.__call__" ⟨.ref C :: us, kw⟩)) :=
 ⟨r.hd, by have := r.dp; rw [make_depth]; omega, by have := r.un; rw [make_units]; omega⟩
theorem Room.depth {cm : Bool} {k : Nat} {A : Around} (r : Room cm k A) : A.depth < recursionLimit := by have := r.dp; omega
theorem Room.units {cm : Bool} {k : Nat} {A : Around} (r : Room cm k A) : A.units + 64 < cLine := by have := r.un; omega
def tNil : TA := fun _ H Q => Q [] H
def tCons (ta : TE) (tr : TA) : TA := fun σ H Q => ta σ H fun x H1 => tr σ H1 fun xs H2 => Q (x :: xs) H2
section
variable {X : Cx} {e : Expr} {es : List Expr} {te : TE} {t : TA} {pos : Pos}
theorem pa_nil : PA X [] tNil := fun _ _ _ _ H Q I h => Calls.spliced_nil ⟨[], H, I, .nil, h⟩
theorem pa_cons (ha : PE X e te) (hr : PA X es t) (hs : starEach (e :: es) X.env = (false, eval e X.env) :: starEach es X.env := by rfl) : PA X (e :: es) (tCons te t) := by
 intro pos pins s σ H Q I h
 rw [hs]
 show wpAny _ _ (spliced ((false, eval e X.env) :: backTo pos (starEach es X.env))) _ _ s
 refine Calls.spliced_cons (thn (ha pins s σ H _ I h) fun u s1 ⟨x, H1, I1, r1, q1⟩ => ?_)
 exact thn (hr pos pins s1 σ H1 _ I1 q1) fun us s2 ⟨xs, H2, I2, r2, q2⟩ => ⟨x :: xs, H2, I2, .cons r1 r2, q2⟩
def tTup (t : TA) : TE := fun σ H Q => t σ H fun xs H1 => xs.length ≤ sizeLine ∧ ∀ p, H1 p = none → Q (.ref p) (upd H1 p (.tup xs))
def tLst (t : TA) : TE := fun σ H Q => t σ H fun xs H1 => xs.length ≤ sizeLine ∧ ∀ p, H1 p = none → Q (.ref p) (upd H1 p (.lst xs))
theorem pe_tup {x1} (h : PA X es t) : PE X (.Tuple es x1 pos) (tTup t) := by
 intro pins s σ H Q I hq
 refine wpAny_Tuple_spliced (thn (h pos pins s σ H _ I hq) fun us s1 ⟨xs, H1, I1, r, z, q⟩ => ⟨by rw [← r.length]; exact z, ?_⟩)
 have hf : H1 s1.heap.objs.size = none := I1.hok.fresh (Nat.le_refl _)
 refine ⟨.ref s1.heap.objs.size, upd H1 s1.heap.objs.size (.tup xs), I1.laid (t' := s1.toks) (fun b u e => Heap.get?_push_of_some _ e) (Nat.le_refl _) ?_, rfl, q _ hf⟩
 exact ⟨z, us, r, ⟨_, Heap.get?_push_size _ rfl, rfl, _, rfl⟩⟩
theorem pe_lst (h : PA X es t) : PE X (.List es pos) (tLst t) := by
 intro pins s σ H Q I hq
 refine wpAny_List_spliced (thn (h pos pins s σ H _ I hq) fun us s1 ⟨xs, H1, I1, r, z, q⟩ => ⟨by rw [← r.length]; exact z, ?_⟩)
 have hf : H1 s1.heap.objs.size = none := I1.hok.fresh (Nat.le_refl _)
 refine ⟨.ref s1.heap.objs.size, upd H1 s1.heap.objs.size (.lst xs), I1.laid (t' := s1.toks) (fun b u e => Heap.get?_push_of_some _ e) (Nat.le_refl _) ?_, rfl, q _ hf⟩
 exact ⟨z, us, 0, r, Heap.get?_push_size _ rfl⟩
end
abbrev Sp := List V → Hp → VK → XK → Prop
abbrev CXT := List Env → Hp → Shared → XK → Value → Shared → Prop
structure Env0 (P : Program) (w : World) (K : PySem.W.Frag) (mg : Str → Option Value) (base : Heap) (A : Around) (outer : List Env) (s : Shared) (H : Hp) : Prop where
 frames : A.frames = some outer
 mod : Mod K mg base
 bs : ∀ b o, base.get? b = some o → s.heap.get? b = some o ∧ H b = none
 bsz : base.objs.size ≤ s.heap.objs.size
 funs : s.heap.FunFrames base outer
 frf : ∀ b ∈ frs outer, H b = none
 hok : HOk P w H s.heap
 bare : AllBare s.gens
def CE (outer : List Env) (P : Program) (w : World) (H : Hp) (s : Shared) (Q : VK) (u : Value) (s' : Shared) : Prop :=
 ∃ v H', s'.os = s.os ∧ AllBare s'.gens ∧ Un (frs outer) [] H H' s.heap s'.heap ∧ HOk P w H' s'.heap ∧ RelV v u ∧ Q v H'
def CR (CX : CXT) (outer : List Env) (P : Program) (w : World) (H : Hp) (s : Shared) (Q : VK) (E : XK) (r : Result) (s' : Shared) : Prop :=
 match r with
 | .ok (.ret u) => CE outer P w H s Q u s'
 | .ok _ => False
 | .error e => CX outer H s E e s'
structure FnOk (P : Program) (w : World) (K : PySem.W.Frag) (mg : Str → Option Value) (base : Heap) (CX : CXT) (cm : Bool) (k : Nat) (f : Addr) (fd : FuncData) (ps : List Str) (sp : Sp) : Prop where
 len : ∀ vs H Q E, sp vs H Q E → vs.length = ps.length
 run : ∀ (A : Around) (outer : List Env) (s : Shared) (H : Hp) (args : Args) (us : List Value) (vs : List V) (Q : VK) (E : XK), Room cm k A → Env0 P w K mg base A outer s H → BindsTo s fd args (ps.zip us) → Vals vs us → sp vs H Q E →
   codeAny (model P w) A (.call (.ref f) args) (CR CX outer P w H s Q E) s
theorem FnOk.mono {cm : Bool} {P : Program} {w : World} {K : PySem.W.Frag} {mg : Str → Option Value} {base : Heap} {CX : CXT} {j k : Nat} {f : Addr} {fd : FuncData} {ps : List Str} {sp : Sp} (F : FnOk P w K mg base CX cm j f fd ps sp) (h : j ≤ k) :
   FnOk P w K mg base CX cm k f fd ps sp := ⟨F.len, fun A outer s H args us vs Q E hr => F.run A outer s H args us vs Q E (hr.mono h)⟩
theorem FnOk.imp {cm : Bool} {P : Program} {w : World} {K : PySem.W.Frag} {mg : Str → Option Value} {base : Heap} {CX : CXT} {k : Nat} {f : Addr} {fd : FuncData} {ps : List Str} {sp sp' : Sp} (F : FnOk P w K mg base CX cm k f fd ps sp)
   (h : ∀ vs H Q E, sp' vs H Q E → sp vs H Q E) : FnOk P w K mg base CX cm k f fd ps sp' :=
 ⟨fun vs H Q E q => F.len vs H Q E (h _ _ _ _ q), fun A outer s H args us vs Q E hr he hb hv hs => F.run A outer s H args us vs Q E hr he hb hv (h _ _ _ _ hs)⟩
theorem Env0.make {P : Program} {w : World} {K : PySem.W.Frag} {mg : Str → Option Value} {base : Heap} {A : Around} {outer : List Env} {s : Shared} {H : Hp} (e : Env0 P w K mg base A outer s H) (C : Addr) (us : List Value) (kw : List (Str × Value)) :
   Env0 P w K mg base (A.under (.builtin "type.__call__" ⟨.ref C :: us, kw⟩)) outer s H := ⟨by first | exact e.frames | (simpa [Around.under, Code.envs, Code.isFrame, pushEnvs] using e.frames), e.mod, e.bs, e.bsz, e.funs, e.frf, e.hok, e.bare⟩
theorem Env0.in1 {P : Program} {w : World} {K : PySem.W.Frag} {mg : Str → Option Value} {base : Heap} {A : Around} {outer : List Env} {s : Shared} {H : Hp} (e : Env0 P w K mg base A outer s H) :
   Env0 P w K mg base A.in1 outer s H := ⟨e.frames, e.mod, e.bs, e.bsz, e.funs, e.frf, e.hok, e.bare⟩
section
variable {X : Cx} {pins : List (Addr × Obj)} {σ : St} {H : Hp} {s s' : Shared}
theorem Inv.env0 (I : Inv X pins σ H s) : Env0 X.prog X.w X.K X.mg X.base X.A X.stack s H :=
 ⟨I.ok.frames, I.ok.mod, I.bs, Nat.le_trans I.ok.bsz I.sz, I.stack, I.stkFree, I.hok, I.bare⟩
theorem Inv.after {Q : VK} {u : Value} (I : Inv X pins σ H s) (h : CE X.stack X.prog X.w H s Q u s') : EP X pins σ Q u s' := by
 obtain ⟨v, H', os, bare, un, hok, r, q⟩ := h
 obtain ⟨hh, g, d, t, os'⟩ := s'
 obtain rfl : os' = s.os := os
 exact ⟨v, H', I.call (h' := hh) (g' := g) (d' := d) (t' := t) (ch := []) un hok bare (fun b z => absurd z (by simp)), r, q⟩
end
def tCall (sp : Sp) (dvs : List V) (E : XK) (t : TA) : TE := fun σ H Q => t σ H fun vs H1 => sp (vs ++ dvs) H1 Q E
def tMeth (C : Addr) (m : Str) (sp : Sp) (dvs : List V) (E : XK) (ta : TE) (t : TA) : TE := fun σ H Q => ta σ H fun x H1 => ∃ a dx fs, x = .ref a ∧ H1 a = some (.ins C dx fs) ∧ fs.lookup m = none ∧
 t σ H1 fun vs H2 => sp (x :: (vs ++ dvs)) H2 Q E
def tMake (C : Addr) (sp : Sp) (dvs : List V) (E : XK) (t : TA) : TE := fun σ H Q => t σ H fun vs H1 => ∀ x dx, H1 x = none → H1 dx = none → dx ≠ x →
 sp (.ref x :: (vs ++ dvs)) (upd (upd H1 dx (.own x)) x (.ins C dx [])) (fun v H2 => v = .non ∧ Q (.ref x) H2) E
def Binds (K : PySem.W.Frag) (fd : FuncData) (ps : List Str) (ds : List Value) : Prop :=
 ∀ (s : Shared) (us : List Value), K.In s.heap → (us ++ ds).length = ps.length → BindsTo s fd ⟨us, []⟩ (ps.zip (us ++ ds))
theorem Binds.all {K : PySem.W.Frag} {fd : FuncData} {ps : List Str} (h : ∀ us : List Value, us.length = ps.length → bindArgs fd ⟨us, []⟩ = pure (ps.zip us)) : Binds K fd ps [] := fun s us _ hl => by
 rw [List.append_nil] at hl ⊢
 exact .of_eq (h us hl)
def Passes (CX : CXT) (X : Cx) (E : XK) : Prop := ∀ (pins : List (Addr × Obj)) (σ : St) (H : Hp) (s : Shared) (e : Value) (s' : Shared), Inv X pins σ H s → CX X.stack H s E e s' → X.xe e s'
section
variable {X : Cx} {CX : CXT} {cm : Bool} {k : Nat} {f C : Addr} {fd : FuncData} {ps : List Str} {sp : Sp} {dvs : List V} {ds : List Value} {E : XK} {x m : Str} {p pos apos : Pos} {e o : Expr} {es : List Expr} {ta : TE} {t : TA}
theorem run_fn {pins : List (Addr × Obj)} {σ : St} {H : Hp} {s : Shared} {Q : VK} {us : List Value} {vs : List V} (F : FnOk X.prog X.w X.K X.mg X.base CX cm k f fd ps sp) (hr : Room cm k X.A) (hb : Binds X.K fd ps ds) (hd : Vals dvs ds) (hx : Passes CX X E)
   (I : Inv X pins σ H s) (r : Vals vs us) (h : sp (vs ++ dvs) H Q E) : wpAny (model X.prog X.w) X.A (call (.ref f) us) (EP X pins σ Q) X.xe s := by
 have r2 : Vals (vs ++ dvs) (us ++ ds) := r.append hd
 have hl : (us ++ ds).length = ps.length := by rw [← r2.length]; exact F.len _ _ _ _ h
 refine wpAny_call (codeAny_mono (F.run X.A X.stack s H ⟨us, []⟩ (us ++ ds) (vs ++ dvs) Q E hr I.env0 (hb s us I.kIn hl) r2 h) fun r s' hq => ?_)
 cases r with
 | error e => exact hx pins σ H s e s' I hq
 | ok fl =>
   cases fl with
   | ret u => exact I.after hq
   | next => exact False.elim hq
   | brk => exact False.elim hq
   | cont => exact False.elim hq
theorem pe_call (F : FnOk X.prog X.w X.K X.mg X.base CX cm k f fd ps sp) (hr : Room cm k X.A) (hg : Gl X x) (hm : X.mg x = some (.ref f)) (hk : PySem.W.keepIn X.K (.ref f) = true) (hb : Binds X.K fd ps ds) (hd : Vals dvs ds) (hx : Passes CX X E)
   (ha : PA X (e :: es) t) (hdb : (x == ("__debug__" : Str)) = false := by decide) (he : starEach (e :: es) X.env = (false, eval e X.env) :: starEach es X.env := by rfl) (hpl : (backTo pos (starEach es X.env)).any (·.1) = false := by rfl) :
   PE X (.Call (.Name x p) (e :: es) [] pos) (tCall sp dvs E t) := by
 intro pins s σ H Q I h
 refine wpAny_Call_Name_kw (ld_glob I hg hm ?_ hdb)
 refine PySem.W.callWith_K (h₀ := X.base) I.ok.mod.kin hk (thn (ha pos pins s σ H _ I h) fun us s1 ⟨vs, H1, I1, r, q⟩ => ⟨I1.kIn, ?_⟩) he hpl
 exact run_fn F hr hb hd hx I1 r q
theorem pe_meth {pl : Sem Bool} (he : PE X o ta) (c : Cls X.K C) (hm : Meth X.K C m f) (F : FnOk X.prog X.w X.K X.mg X.base CX cm k f fd ps sp) (hr : Room cm k X.A) (hb : Binds X.K fd ps ds) (hd : Vals dvs ds) (hx : Passes CX X E) (ha : PA X (e :: es) t)
   (hst : starEach (e :: es) X.env = (false, eval e X.env) :: starEach es X.env := by rfl) (hpl : (backTo pos (starEach es X.env)).any (·.1) = false := by rfl)
   (ht : eval (.Call (.Attribute o m apos) (e :: es) [] pos) X.env = (do
     let ov ← eval o X.env
     standAt apos.atName
     let (f, first) ← holding [ov] (getMethod ov m pl)
     callWith pos f first (backTo pos (starEach (e :: es) X.env)) (backToKw pos (keywordEach [] X.env))) := by rfl) :
   PE X (.Call (.Attribute o m apos) (e :: es) [] pos) (tMeth C m sp dvs E ta t) := by
 intro pins s σ H Q I h
 refine PySem.W.methodCall_KW (pl := pl) (thn (he pins s σ H _ I h) fun u s1 ⟨x, H1, I1, rx, a, dx, fs, ex, ea, l, q⟩ => ?_) ht
 subst ex
 obtain rfl : u = Value.ref a := rx
 refine getmeth_ok I1 ea c hm l ?_
 refine PySem.W.callWith_K (first := [.ref a]) (h₀ := X.base) I.ok.mod.kin hm.kp (thn (ha pos pins s1 σ H1 _ I1 q) fun us s2 ⟨vs, H2, I2, r, q2⟩ => ⟨I2.kIn, ?_⟩) hst hpl
 exact run_fn (us := .ref a :: us) (vs := .ref a :: vs) F hr hb hd hx I2 (.cons rfl r) q2
theorem pe_meth0 {pl : Sem Bool} (he : PE X o ta) (c : Cls X.K C) (hm : Meth X.K C m f) (F : FnOk X.prog X.w X.K X.mg X.base CX cm k f fd ps sp) (hr : Room cm k X.A) (hb : Binds X.K fd ps ds) (hd : Vals dvs ds) (hx : Passes CX X E)
   (ht : eval (.Call (.Attribute o m apos) [] [] pos) X.env = (do
     let ov ← eval o X.env
     standAt apos.atName
     let (f, first) ← holding [ov] (getMethod ov m pl)
     callWith pos f first (backTo pos (starEach [] X.env)) (backToKw pos (keywordEach [] X.env))) := by rfl) :
   PE X (.Call (.Attribute o m apos) [] [] pos) (tMeth C m sp dvs E ta tNil) := by
 intro pins s σ H Q I h
 refine PySem.W.methodCall_KW (pl := pl) (thn (he pins s σ H _ I h) fun u s1 ⟨x, H1, I1, rx, a, dx, fs, ex, ea, l, q⟩ => ?_) ht
 subst ex
 obtain rfl : u = Value.ref a := rx
 refine getmeth_ok I1 ea c hm l ?_
 exact PySem.W.callWith_K0 (first := [.ref a]) I1.kIn hm.kp (run_fn (us := [.ref a]) (vs := [.ref a]) F hr hb hd hx I1 (.cons rfl .nil) q)
structure Mk (K : PySem.W.Frag) (C f : Addr) : Prop where
 makes : PySem.W.makesIn K C = true
 init : PySem.W.findIn K (.ref C) "__init__" = some (some (.ref f))
 fn : PySem.W.isFn K (.ref f) = true
 kp : PySem.W.keepIn K (.ref C) = true
theorem run_make {pins : List (Addr × Obj)} {σ : St} {H : Hp} {s : Shared} {Q : VK} {us : List Value} {vs : List V} (M : Mk X.K C f) (F : FnOk X.prog X.w X.K X.mg X.base CX cm k f fd ps sp) (hr : Room cm (k + 1) X.A) (hb : Binds X.K fd ps ds) (hd : Vals dvs ds)
   (hx : Passes CX X E) (I : Inv X pins σ H s) (r : Vals vs us)
   (h : ∀ x dx, H x = none → H dx = none → dx ≠ x → sp (.ref x :: (vs ++ dvs)) (upd (upd H dx (.own x)) x (.ins C dx [])) (fun v H2 => v = .non ∧ Q (.ref x) H2) E) :
   wpAny (model X.prog X.w) X.A (call (.ref C) us) (EP X pins σ Q) X.xe s := by
 have hq := h (s.heap.objs.size + 1) s.heap.objs.size (I.hok.fresh (Nat.le_succ _)) (I.hok.fresh (Nat.le_refl _)) (Nat.ne_of_lt (Nat.lt_succ_self _))
 have I2 := Inv.made (C := C) I
 have r2 : Vals (V.ref (s.heap.objs.size + 1) :: (vs ++ dvs)) (Value.ref (s.heap.objs.size + 1) :: (us ++ ds)) := .cons rfl (r.append hd)
 have hl : (Value.ref (s.heap.objs.size + 1) :: us ++ ds).length = ps.length := by
   have e := r2.length
   rw [F.len _ _ _ _ hq] at e
   exact e.symm
 refine wpAny_call (make_map (f := f) I.kIn M.makes M.init (beq_iff_eq.mp M.fn) (codeAny_mono (F.run _ X.stack _ _ ⟨Value.ref (s.heap.objs.size + 1) :: us, []⟩ (Value.ref (s.heap.objs.size + 1) :: (us ++ ds)) _ _ E (hr.make C us [])
   (I2.env0.make C us []) (hb _ (Value.ref (s.heap.objs.size + 1) :: us) I2.kIn hl) r2 hq) fun r s' hq' => ?_))
 cases r with
 | error e => exact hx pins σ _ _ e s' I2 hq'
 | ok fl =>
   cases fl with
   | ret u =>
     obtain ⟨v, H', I3, rv, ev, q3⟩ := I2.after hq'
     subst ev
     exact ⟨rv, ⟨V.ref (s.heap.objs.size + 1), H', I3, rfl, q3⟩⟩
   | next => exact False.elim hq'
   | brk => exact False.elim hq'
   | cont => exact False.elim hq'
theorem pe_make (M : Mk X.K C f) (F : FnOk X.prog X.w X.K X.mg X.base CX cm k f fd ps sp) (hr : Room cm (k + 1) X.A) (hg : Gl X x) (hm : X.mg x = some (.ref C)) (hb : Binds X.K fd ps ds) (hd : Vals dvs ds) (hx : Passes CX X E)
   (ha : PA X (e :: es) t) (hdb : (x == ("__debug__" : Str)) = false := by decide) (he : starEach (e :: es) X.env = (false, eval e X.env) :: starEach es X.env := by rfl) (hpl : (backTo pos (starEach es X.env)).any (·.1) = false := by rfl) :
   PE X (.Call (.Name x p) (e :: es) [] pos) (tMake C sp dvs E t) := by
 intro pins s σ H Q I h
 refine wpAny_Call_Name_kw (ld_glob I hg hm ?_ hdb)
 refine PySem.W.callWith_K (h₀ := X.base) I.ok.mod.kin M.kp (thn (ha pos pins s σ H _ I h) fun us s1 ⟨vs, H1, I1, r, q⟩ => ⟨I1.kIn, ?_⟩) he hpl
 exact run_make M F hr hb hd hx I1 r q
theorem pe_make0 (M : Mk X.K C f) (F : FnOk X.prog X.w X.K X.mg X.base CX cm k f fd ps sp) (hr : Room cm (k + 1) X.A) (hg : Gl X x) (hm : X.mg x = some (.ref C)) (hb : Binds X.K fd ps ds) (hd : Vals dvs ds) (hx : Passes CX X E)
   (hdb : (x == ("__debug__" : Str)) = false := by decide) : PE X (.Call (.Name x p) [] [] pos) (tMake C sp dvs E tNil) := by
 intro pins s σ H Q I h
 refine wpAny_Call_Name_kw (ld_glob I hg hm ?_ hdb)
 exact PySem.W.callWith_K0 I.kIn M.kp (run_make (us := []) M F hr hb hd hx I .nil h)
end
section
variable {X : Cx} {CX : CXT} {cm : Bool} {k : Nat} {f C : Addr} {fd : FuncData} {ps ks : List Str} {sp : Sp} {E : XK} {x m : Str} {p pos apos kpos : Pos} {e o : Expr} {es : List Expr} {kws : List Keyword} {te ta : TE} {t tk : TA} {nm : Option Str}
variable {g : List Value → List Value → List Value} {gV : List V → List V → List V}
end
structure FnScope (N P : List Str) (sc : Scope) : Prop where
 kind : sc.kind = .function
 co : sc.isCoroutine = false
 gen : sc.isGenerator = false
 nd : N.Nodup
 pre : N.take P.length = P
 par : ∀ x ∈ P, sc.names.lookup x = some .local ∨ sc.names.lookup x = some .cell
 nofree : ∀ y ∈ sc.names, y.2 ≠ .free
theorem bindL_out {kindOf : Str → Option NameKind} {x : Str} : ∀ {binds : List (Str × Value)} {m : Str → Option Value}, (∀ v, (x, v) ∉ binds) → bindL kindOf binds m x = m x
 | [], _, _ => rfl
 | (n, v) :: r, m, h => by
   unfold bindL
   rw [bindL_out fun w hw => h w (List.mem_cons_of_mem _ hw)]
   split
   · have : x ≠ n := by rintro rfl; exact h v List.mem_cons_self
     simp [this]
   · rfl
theorem bindC_out {kindOf : Str → Option NameKind} {x : Str} : ∀ {binds : List (Str × Value)} {m : Str → Option Value}, (∀ v, (x, v) ∉ binds) → bindC kindOf binds m x = m x
 | [], _, _ => rfl
 | (n, v) :: r, m, h => by
   unfold bindC
   rw [bindC_out fun w hw => h w (List.mem_cons_of_mem _ hw)]
   split
   · rfl
   · have : x ≠ n := by rintro rfl; exact h v List.mem_cons_self
     simp [this]
theorem bindL_get {kindOf : Str → Option NameKind} {x : Str} {v : Value} : ∀ {P : List Str} {vs : List Value} {i : Nat} {m : Str → Option Value}, P.Nodup → P[i]? = some x → vs[i]? = some v → kindOf x = some .local →
   bindL kindOf (P.zip vs) m x = some v
 | [], _, _, _, _, h, _, _ => by simp at h
 | _ :: _, [], _, _, _, _, h, _ => by simp at h
 | p :: P, w :: vs, 0, m, nd, h1, h2, hk => by
   simp at h1 h2; subst h1; subst h2
   show bindL kindOf ((p, w) :: P.zip vs) m p = _
   unfold bindL
   rw [bindL_out fun v hv => (List.nodup_cons.mp nd).1 (List.of_mem_zip hv).1, if_pos hk]
   simp
 | p :: P, w :: vs, i + 1, m, nd, h1, h2, hk => by
   show bindL kindOf ((p, w) :: P.zip vs) m x = _
   unfold bindL
   exact bindL_get (i := i) (List.nodup_cons.mp nd).2 (by simpa using h1) (by simpa using h2) hk
theorem bindC_get {kindOf : Str → Option NameKind} {x : Str} {v : Value} : ∀ {P : List Str} {vs : List Value} {i : Nat} {m : Str → Option Value}, P.Nodup → P[i]? = some x → vs[i]? = some v → kindOf x ≠ some .local →
   bindC kindOf (P.zip vs) m x = some v
 | [], _, _, _, _, h, _, _ => by simp at h
 | _ :: _, [], _, _, _, _, h, _ => by simp at h
 | p :: P, w :: vs, 0, m, nd, h1, h2, hk => by
   simp at h1 h2; subst h1; subst h2
   show bindC kindOf ((p, w) :: P.zip vs) m p = _
   unfold bindC
   rw [bindC_out fun v hv => (List.nodup_cons.mp nd).1 (List.of_mem_zip hv).1, if_neg hk]
   simp
 | p :: P, w :: vs, i + 1, m, nd, h1, h2, hk => by
   show bindC kindOf ((p, w) :: P.zip vs) m x = _
   unfold bindC
   exact bindC_get (i := i) (List.nodup_cons.mp nd).2 (by simpa using h1) (by simpa using h2) hk
def start (N : List Str) (vs : List V) : St := vs.map some ++ List.replicate (N.length - vs.length) none
def cxOf (CX : CXT) (cm : Bool) (P : Program) (w : World) (K : PySem.W.Frag) (mg : Str → Option Value) (base : Heap) (N : List Str) (qual : Str) (scope : Scope) (f : Addr) (cd : Value) (A : Around) (outer : List Env) (s : Shared) (H : Hp) (E : XK) : Cx where
 prog := P
 w := w
 K := K
 mg := mg
 base := base
 A := A.deeper (envOfC qual scope s.heap.objs.size f cd)
 N := N
 s₀ := s
 H₀ := H
 env := envOfC qual scope s.heap.objs.size f cd
 outer := outer
 stack := envOfC qual scope s.heap.objs.size f cd :: outer
 ex := []
 calm := cm
 fn := fun _ => true
 pn := []
 xe := fun e s' => wpAny (model P w) (A.deeper (envOfC qual scope s.heap.objs.size f cd)) (leaving (envOfC qual scope s.heap.objs.size f cd) e) (fun _ s'' => CX outer H s E e s'') (fun e' s'' => CX outer H s E e' s'') s'
theorem cell_has {sc : Scope} {n : Nat} {x : Str} (h : sc.names.lookup x = some .cell) : ∃ c, (cellsFrom n sc.names []).lookup x = some c := by
 have q := PySem.W.cellsFrom_some sc.names n [] (.inl h)
 exact Option.isSome_iff_exists.mp q
theorem inv_start {CX : CXT} {cm : Bool} {P : Program} {w : World} {K : PySem.W.Frag} {mg : Str → Option Value} {base : Heap} {N ps : List Str} {qual : Str} {scope : Scope} {f : Addr} {cd : Value} {A : Around} {outer : List Env} {s s1 : Shared} {H : Hp} {E : XK} {us : List Value} {vs : List V}
   (S : FnScope N ps scope) (hd : cm = true → A.handled = none) (e0 : Env0 P w K mg base A outer s H) (hl : vs.length = ps.length) (r : Vals vs us)
   (x : InCallC s s.heap.objs.size (bindL (envOfC qual scope s.heap.objs.size f cd).kindOf (ps.zip us) fun _ => none) (cellsFrom (s.heap.objs.size + 1) scope.names []) (bindC (envOfC qual scope s.heap.objs.size f cd).kindOf (ps.zip us) fun _ => none) s1) :
   Inv (cxOf CX cm P w K mg base N qual scope f cd A outer s H E) [] (start N vs) H s1 := by
 have hpl : ps.length ≤ N.length := by have := congrArg List.length S.pre; rw [List.length_take] at this; omega
 obtain ⟨h1, tk, rfl, hk⟩ := x.done
 have noA : ∀ b : Addr, b ∉ (cxOf CX cm P w K mg base N qual scope f cd A outer s H E).ex := fun b z => absurd (show b ∈ ([] : List Addr) from z) (by simp)
 refine ⟨⟨e0.mod, S.kind, rfl, rfl, Nat.le_refl _, fun y z c h1 h2 => ?_, fun y hy => ?_, fun y c _ h => ?_, hd, Around.frames_deeper e0.frames, .inr ⟨rfl, rfl⟩, fun b z => absurd z (noA b), e0.bs, e0.bsz, fun b _ _ => noA b, fun b z => absurd z (noA b), e0.funs, e0.frf⟩,
   rfl, e0.bare, Un.kept hk, ⟨_, x.toInCall.ns, fun i y v h1 h2 h3 => ?_⟩, fun y c h => ⟨_, x.cell y c h⟩, e0.hok.fresh (Nat.le_refl _), fun y c h => ?_, fun p hp => absurd (show p ∈ ([] : List (Addr × Obj)) from hp) (by simp), e0.hok.kept hk, ?_⟩
 · exact name_of_addr x.apart (PySem.mem_of_lookup h1) (PySem.mem_of_lookup h2)
 · have hy : scope.names.lookup y = some .cell ∨ scope.names.lookup y = some .free := hy
   rcases hy with hy | hy
   · exact cell_has hy
   · exact absurd rfl (S.nofree _ (PySem.mem_of_lookup hy))
 · exact Nat.le_of_lt (x.above y c (PySem.mem_of_lookup h))
 · have hi : i < vs.length := by
     unfold start at h2
     by_cases hi : i < vs.length
     · exact hi
     · rw [List.getElem?_append_right (by simpa using hi)] at h2
       rw [List.getElem?_replicate] at h2
       split at h2 <;> cases h2
   have ha : vs[i]? = some v := by
     unfold start at h2
     rw [List.getElem?_append_left (by simpa using hi), List.getElem?_map] at h2
     cases e : vs[i]? with
     | none => rw [e] at h2; cases h2
     | some a => rw [e] at h2; cases h2; rfl
   obtain ⟨u, hu, rv⟩ := r.get ha
   have hp : ps[i]? = some y := by
     rw [← S.pre, List.getElem?_take_of_lt (by omega)]; exact h1
   have ndP : ps.Nodup := by rw [← S.pre]; exact S.nd.sublist (List.take_sublist _ _)
   refine ⟨u, rv, ?_⟩
   rcases S.par y (List.mem_of_getElem? hp) with k | k
   · exact .inl ⟨k, bindL_get ndP hp hu k⟩
   · obtain ⟨c, e⟩ := cell_has (n := s.heap.objs.size + 1) k
     refine .inr ⟨.inl k, c, e, ?_⟩
     have q := x.cell y c e
     rw [bindC_get ndP hp hu (by show scope.names.lookup y ≠ _; rw [k]; decide)] at q
     exact q
 · exact e0.hok.fresh (Nat.le_of_lt (x.above y c (PySem.mem_of_lookup h)))
 · unfold start
   show _ = N.length
   rw [List.length_append, List.length_map, List.length_replicate]
   omega
theorem fn_of {CX : CXT} {cm : Bool} {P : Program} {w : World} {K : PySem.W.Frag} {mg : Str → Option Value} {base : Heap} {k : Nat} {f : Addr} {name qual : Str} {params : Arguments} {body : List Stmt} {scope : Scope} {dV kV doc pm cdv ct oc : Value} {an od : Option Addr}
   {osl : Array (Option Value)} {N ps : List Str} {sp : Sp} (lk : K.lookup f = some ⟨oc, od, .func (PySem.W.fnOf name qual params body scope dV kV doc pm an cdv ct), osl⟩) (hcd : PySem.W.codeIn K cdv qual = true) (S : FnScope N ps scope)
   (len : ∀ vs H Q E, sp vs H Q E → vs.length = ps.length)
   (hbody : ∀ (A : Around) (outer : List Env) (s : Shared) (H : Hp) (vs : List V) (Q : VK) (E : XK), Room cm k (A.deeper (envOfC qual scope s.heap.objs.size f cdv)) → sp vs H Q E →
     ∃ t, PSs (cxOf CX cm P w K mg base N qual scope f cdv A outer s H E) body t ∧ t { nx := fun _ H' => Q .non H', rt := Q } (start N vs) H) :
   FnOk P w K mg base CX cm (k + 1) f (PySem.W.fnOf name qual params body scope dV kV doc pm an cdv ct) ps sp := by
 refine ⟨len, fun A outer s H args us vs Q E hr e0 hb r hsp => ?_⟩
 have hl := len _ _ _ _ hsp
 have KX : K.In s.heap := e0.mod.kin.keeps fun b o e => (e0.bs b o e).1
 have lim : s.heap.NoLimit := e0.mod.nolimit.keeps fun b o e => (e0.bs b o e).1
 have hkind : ∀ y ∈ ps.zip us, scope.names.lookup y.1 = some .local ∨ (scope.names.lookup y.1 = some .cell ∧ ((cellsFrom (s.heap.objs.size + 1) scope.names []).lookup y.1).isSome = true) := fun ⟨n, v⟩ hy => by
   rcases S.par n (List.of_mem_zip hy).1 with q | q
   · exact .inl q
   · exact .inr ⟨q, PySem.W.cellsFrom_some _ _ _ (.inl q)⟩
 refine codeAny_call_function hr.depth (KX _ _ lk) rfl S.co S.gen rfl (PySem.W.codeRec_of KX hcd) (hb _ _ _ _ ?_)
 refine wpAny_newFunctionEnv_cells S.kind hkind fun env he s1 x => ?_
 subst he
 refine ⟨lim.keeps x.toInCall.keep, codeAny_func ?_⟩
 obtain ⟨t, ht, hq⟩ := hbody A outer s H vs Q E (hr.deeper _) hsp
 have I : Inv (cxOf CX cm P w K mg base N qual scope f cdv A outer s H E) [] (start N vs) H s1 := inv_start S hr.hd e0 hl r x
 refine wpAny_mono (ht [] s1 (start N vs) H _ I hq) (fun fl s' hs => ?_) fun e s' hs => hs
 have fin : ∀ {σ' : St} {H' : Hp} {v : V} {u : Value}, Inv (cxOf CX cm P w K mg base N qual scope f cdv A outer s H E) [] σ' H' s' → RelV v u → Q v H' → CE outer P w H s Q u s' :=
   fun {σ' H' v u} J rv q => ⟨v, H', J.os, J.bare, J.base, J.hok, rv, q⟩
 cases fl with
 | ret u =>
   obtain ⟨v, σ', H', J, rv, q⟩ := hs
   exact fin J rv q
 | next =>
   obtain ⟨σ', H', J, q⟩ := hs
   exact fin (v := V.non) (u := Value.none) J rfl q
 | brk =>
   obtain ⟨_, _, _, q⟩ := hs
   exact False.elim q
 | cont =>
   obtain ⟨_, _, _, q⟩ := hs
   exact False.elim q
end L2
namespace L2
open PySem PySem.Spec PyProof.Rows
section
variable {X : Cx} {x : Str} {p pos : Pos} {e : Expr} {es : List Expr} {t : TA} {id T : String} {r : List V → Hp → VK → Prop}
def tCB (r : List V → Hp → VK → Prop) (t : TA) : TE := fun σ H Q => t σ H fun vs H1 => r vs H1 Q
theorem pe_callB (hc : CallR X (.builtin id) r) (hg : Gl X x) (hm : X.mg x = none) (hv : bootBuiltins x = some (.builtin id)) (ha : PA X (e :: es) t) (hn : x ≠ "__name__" := by decide) (hdb : (x == ("__debug__" : Str)) = false := by decide)
   (he : starEach (e :: es) X.env = (false, eval e X.env) :: starEach es X.env := by rfl) (hpl : (backTo pos (starEach es X.env)).any (·.1) = false := by rfl) : PE X (.Call (.Name x p) (e :: es) [] pos) (tCB r t) := by
 intro pins s σ H Q I h
 refine wpAny_Call_Name_kw (ld_blt I hg hm hv ?_ hn hdb)
 exact PyProof.Rows.callWith_builtin1 (thn (ha pos pins s σ H _ I h) fun us s1 ⟨vs, H1, I1, r1, q1⟩ => hc pins s1 σ H1 vs us Q I1 r1 q1) he hpl
theorem pe_callTy (hc : CallR X (.type T) r) (hg : Gl X x) (hm : X.mg x = none) (hv : bootBuiltins x = some (.type T)) (ha : PA X (e :: es) t) (hn : x ≠ "__name__" := by decide) (hdb : (x == ("__debug__" : Str)) = false := by decide)
   (he : starEach (e :: es) X.env = (false, eval e X.env) :: starEach es X.env := by rfl) (hpl : (backTo pos (starEach es X.env)).any (·.1) = false := by rfl) : PE X (.Call (.Name x p) (e :: es) [] pos) (tCB r t) := by
 intro pins s σ H Q I h
 refine wpAny_Call_Name_kw (ld_blt I hg hm hv ?_ hn hdb)
 exact PyProof.Rows.callWith_type1 (thn (ha pos pins s σ H _ I h) fun us s1 ⟨vs, H1, I1, r1, q1⟩ => hc pins s1 σ H1 vs us Q I1 r1 q1) he hpl
end
end L2
namespace HT
open PySem PyProof.Rows
section
open PySem.SeqAt
open PySem.AutoSeq1 (wpAny_loadPart')
open PySem.MeetsSeq PySem.MeetsSeq2 PySem.MeetsSeq3
end
section
variable {prog : Program} {w : World} {A : Around} {E : Value → Shared → Prop} {s : Shared}
theorem cat_tup {t b : Addr} {vs ws : List Value} {Q : Value → Shared → Prop} (ht : IsTup s.heap t vs.toArray) (hb : IsTup s.heap b ws.toArray) (hv : vs ≠ [])
   (h1 : ws = [] → Q (.ref t) s) (h2 : ws ≠ [] → Q (.ref s.heap.objs.size) { s with heap := s.heap.push { cls := .type "tuple", data := .seq (vs ++ ws).toArray } })
   (hsz : vs.length + ws.length ≤ sizeLine) : wpAny (model prog w) A (binaryOp .Add (.ref t) (.ref b)) Q E s := by
 obtain ⟨⟨cls, dd, data, sl⟩, ho, hc, n, hd⟩ := id ht
 obtain ⟨⟨cls2, dd2, data2, sl2⟩, ho2, hc2, n2, hd2⟩ := id hb
 simp only at hc hd hc2 hd2
 subst hc hd hc2 hd2
 have e : vs.toArray ++ ws.toArray = (vs ++ ws).toArray := by simp
 by_cases hw : ws = []
 · exact concat_meets ⟨_, ho, rfl⟩ ⟨_, ho2, rfl⟩ noFill_tuple_add seq_tuple_add PySem.F.slot_tuple_add PySem.F.entry_tuple_add (PySem.F.args_tuple_add_2 _ _)
     (tuple_addW1 t b vs.toArray ws.toArray n n2 dd dd2 sl sl2 (by simpa using hv) (by simp [hw])) ⟨ho, ho2, h1 hw⟩
 · refine concat_meets ⟨_, ho, rfl⟩ ⟨_, ho2, rfl⟩ noFill_tuple_add seq_tuple_add PySem.F.slot_tuple_add PySem.F.entry_tuple_add (PySem.F.args_tuple_add_2 _ _)
     (tuple_addW2 t b vs.toArray ws.toArray n n2 dd dd2 sl sl2 (by simpa using hv) (by simpa using hw) (by rw [List.size_toArray, List.size_toArray]; exact hsz)) ⟨ho, ho2, ?_⟩
   rw [e]
   exact h2 hw
def sIx (n d : Nat) : Option Int → Nat
 | none => d
 | some v => if v < 0 then (v + (n : Int)).toNat else min v.toNat n
theorem sIx_nat (n d k : Nat) : sIx n d (some (k : Int)) = min k n := by
 show (if (k : Int) < 0 then ((k : Int) + (n : Int)).toNat else min (k : Int).toNat n) = min k n
 rw [if_neg (by omega), Int.toNat_natCast]
theorem sIx_le (n d : Nat) (hd : d ≤ n) (o : Option Int) : sIx n d o ≤ n := by
 cases o with
 | none => exact hd
 | some v =>
   show (if v < 0 then (v + (n : Int)).toNat else min v.toNat n) ≤ n
   by_cases hv : v < 0
   · rw [if_pos hv]; omega
   · rw [if_neg hv]; exact Nat.min_le_right _ _
theorem clip_eq (v : Int) (n d : Nat) : (if v < 0 then max (v + (n : Int)) 0 else min v (n : Int)) = ((sIx n d (some v) : Nat) : Int) := by
 show (if v < 0 then max (v + (n : Int)) 0 else min v (n : Int)) = (((if v < 0 then (v + (n : Int)).toNat else min v.toNat n) : Nat) : Int)
 by_cases hv : v < 0
 · simp only [if_pos hv]; omega
 · simp only [if_neg hv]; omega
theorem adjust_gen (lo hi : Option Int) (n : Nat) : Builtin.Slice.sliceAdjust lo hi 1 (n : Int) = (((sIx n 0 lo : Nat) : Int), ((sIx n n hi : Nat) : Int)) := by
 have h1 : ¬ ((1 : Int) < 0) := by omega
 unfold Builtin.Slice.sliceAdjust
 simp only [h1, if_false]
 refine Prod.ext ?_ ?_
 · cases lo with
   | none => rfl
   | some v => exact clip_eq v n 0
 · cases hi with
   | none => rfl
   | some v => exact clip_eq v n n
theorem places_gen (i j : Nat) : Builtin.Slice.slicePlaces (i : Int) (j : Int) 1 = j - i := by
 unfold Builtin.Slice.slicePlaces
 have h1 : (1 : Int) > 0 := by omega
 simp only [h1, if_true, Int.ediv_one]
 split <;> omega
theorem slicePart_ {v : Value} {o : Option Int} {Q : Option Int → Shared → Prop} (p : IsPart v o) (h : Q o s) : wpAny (model prog w) A (Builtin.Slice.slicePartIndex v) Q E s := by
 cases p with
 | none => exact slicePart_none h
 | int i t => exact slicePart_int h
theorem sliceApplied_gen {sl : Addr} {vl vu : Value} {lo hi : Option Int} {n : Nat} {Q : Int × Int × Nat → Shared → Prop} (hs : s.heap.IsSliceOf sl vl vu .none) (pl : IsPart vl lo) (pu : IsPart vu hi)
   (h : Q (((sIx n 0 lo : Nat) : Int), 1, sIx n n hi - sIx n 0 lo) s) : wpAny (model prog w) A (Builtin.Slice.sliceApplied (.ref sl) (pure (n : Int))) Q E s := by
 obtain ⟨os, hos, hcs, hds⟩ := id hs
 unfold Builtin.Slice.sliceApplied Builtin.Slice.sliceFields
 refine wpAny_bind (wpAny_bind (wpAny_field hos hds (x := vl) rfl (wpAny_bind (wpAny_field hos hds (x := vu) rfl (wpAny_bind (wpAny_field hos hds (x := .none) rfl (wpAny_pure ?_)))))))
 refine wpAny_bind (slicePart_none ?_)
 show wpAny _ _ (if ((1 : Int) == 0) = true then _ else _) _ _ s
 rw [if_neg (by decide)]
 refine wpAny_bind (slicePart_ pl (wpAny_bind (slicePart_ pu (wpAny_bind (wpAny_pure ?_)))))
 show wpAny _ _ (match Builtin.Slice.sliceAdjust lo hi 1 (n : Int) with | (lo, hi) => pure (lo, (1 : Int), Builtin.Slice.slicePlaces lo hi 1)) _ _ s
 rw [adjust_gen lo hi n]
 show wpAny _ _ (pure (((sIx n 0 lo : Nat) : Int), (1 : Int), Builtin.Slice.slicePlaces ((sIx n 0 lo : Nat) : Int) ((sIx n n hi : Nat) : Int) 1)) _ _ s
 rw [places_gen]
 exact wpAny_pure h
theorem pick_gen (xs : Array Value) (i k : Nat) : ((List.range k).filterMap fun (m : Nat) => xs[((i : Int) + (m : Int) * 1).toNat]?).toArray = ((xs.toList.drop i).take k).toArray := by
 have e : (fun (m : Nat) => xs[((i : Int) + (m : Int) * 1).toNat]?) = fun m => xs[i + m]? := by
   funext m
   have : ((i : Int) + (m : Int) * 1).toNat = i + m := by omega
   rw [this]
 rw [e]
 have := pick_run xs i k
 rw [List.filterMap_map] at this
 have e2 : ((fun x => xs[x]?) ∘ fun x => i + x) = fun m => xs[i + m]? := rfl
 rw [e2] at this
 rw [this]
theorem getItem_tuple_cut {t sl : Addr} {items : Array Value} {vl vu : Value} {lo hi : Option Int} {Q : Value → Shared → Prop} (ht : IsTup s.heap t items) (hs : s.heap.IsSliceOf sl vl vu .none) (pl : IsPart vl lo) (pu : IsPart vu hi)
   (hw : ¬ (sIx items.size 0 lo = 0 ∧ sIx items.size items.size hi = items.size))
   (h : Q (.ref s.heap.objs.size) { s with heap := s.heap.push { cls := .type "tuple", data := .seq ((items.toList.drop (sIx items.size 0 lo)).take (sIx items.size items.size hi - sIx items.size 0 lo)).toArray } })
   (hsz : items.size ≤ sizeLine) : wpAny (model prog w) A (getItem (.ref t) (.ref sl)) Q E s := by
 have htake : sizeOk (.seq ((items.toList.drop (sIx items.size 0 lo)).take (sIx items.size items.size hi - sIx items.size 0 lo)).toArray) := by
   show ((items.toList.drop (sIx items.size 0 lo)).take (sIx items.size items.size hi - sIx items.size 0 lo)).toArray.size ≤ sizeLine
   rw [List.size_toArray, List.length_take, List.length_drop, Array.length_toList]
   omega
 have hj : sIx items.size items.size hi ≤ items.size := sIx_le _ _ (Nat.le_refl _) hi
 obtain ⟨os, hos, hcs, hds⟩ := id hs
 have hTs : s.TypeIs (.ref sl) "slice" := ⟨os, hos, hcs⟩
 unfold getItem
 try with_reducible refine wpAny_holding ?_
 first | refine wpAny_bind (wpAny_pure ?_) | skip
 refine wpAny_bind (wpAny_sequenceKey ht.typeIs (by decide) ?_)
 refine wpAny_bind (wpAny_callSpecial?_slot (name := Str.ofString "__getitem__") ht.typeIs PyProof.Rows.slot_tuple_getitem
   (wpAny_call_entry PyProof.Rows.slot_tuple_getitem ht.typeIs entry_tuple_getitem ?_ (args_tuple_getitem _ _)))
 show wpAny _ _ (Builtin.Tuple.tupleItemsOf (.ref t) >>= _) _ _ s
 refine wpAny_bind (tupleItemsOf_ ht ?_)
 refine wpAny_bind (wpAny_typeOf hTs ?_)
 rw [if_pos (by decide)]
 refine wpAny_bind (sliceApplied_gen hs pl pu ?_)
 have hno : ¬ ((((sIx items.size 0 lo : Nat) : Int) == 0 && (1 : Int) == 1 && (sIx items.size items.size hi - sIx items.size 0 lo) == items.size) = true) := by
   intro q
   rw [Bool.and_eq_true, Bool.and_eq_true] at q
   have q1 : ((sIx items.size 0 lo : Nat) : Int) = 0 := eq_of_beq q.1.1
   have q2 : sIx items.size items.size hi - sIx items.size 0 lo = items.size := eq_of_beq q.2
   exact hw ⟨by omega, by omega⟩
 show wpAny _ _ (if (((sIx items.size 0 lo : Nat) : Int) == 0 && (1 : Int) == 1 && (sIx items.size items.size hi - sIx items.size 0 lo) == items.size) = true then _ else _) _ _ s
 rw [if_neg hno, pick_gen]
 first
   | exact wpAny_bind (m := Builtin.Tuple.tupleExact _) (wpAny_newObj_type (wpAny_pure ⟨_, rfl, wpAny_pure h⟩) htake)
   | exact wpAny_bind (m := Builtin.Tuple.tupleExact _) (wpAny_newObj_type (wpAny_bind (wpAny_pure (wpAny_pure ⟨_, rfl, wpAny_pure h⟩))) htake)
   | exact wpAny_bind (wpAny_bind (m := Builtin.Tuple.tupleExact _) (wpAny_newObj_type (wpAny_pure (wpAny_pure ⟨_, rfl, wpAny_pure h⟩)) htake))
   | exact wpAny_bind (wpAny_bind (m := Builtin.Tuple.tupleExact _) (wpAny_newObj_type (wpAny_pure ⟨_, rfl, wpAny_pure h⟩) htake))
end
end HT
namespace L2
open PySem PySem.Spec PyProof.Rows
abbrev TO := St → Hp → (Option Int → Hp → Prop) → Prop
def PO (X : Cx) (e : Option Expr) (t : TO) : Prop :=
 ∀ (pins : List (Addr × Obj)) (s : Shared) (σ : St) (H : Hp) (Q : Option Int → Hp → Prop), Inv X pins σ H s → t σ H Q →
   wpAny (model X.prog X.w) X.A (evalPart e X.env) (fun u s' => ∃ o H', Inv X pins σ H' s' ∧ IsPart u o ∧ Q o H') X.xe s
def tNoPart : TO := fun _ H Q => Q none H
def tPart (t : TE) : TO := fun σ H Q => t σ H fun x H1 => ∃ i, x = .int i ∧ Q (some i) H1
section
variable {X : Cx} {e : Expr} {te : TE} {lo hi : Option Expr} {tl th : TO} {pos p2 : Pos}
theorem po_none : PO X none tNoPart := by
 intro pins s σ H Q I h
 rw [evalPart_none]
 exact wpAny_pure ⟨none, H, I, .none, h⟩
theorem po_some (h : PE X e te) : PO X (some e) (tPart te) := by
 intro pins s σ H Q I hw
 rw [evalPart_some]
 refine thn (h pins s σ H _ I hw) fun u s1 ⟨x, H1, I1, r1, q1⟩ => ?_
 obtain ⟨i, rfl, q⟩ := q1
 obtain ⟨t, rfl⟩ := r1
 exact ⟨some i, H1, I1, .int i t, q⟩
def SlR (X : Cx) (r : V → Option Int → Option Int → Hp → VK → Prop) : Prop :=
 ∀ (pins : List (Addr × Obj)) (s : Shared) (σ : St) (H : Hp) (x : V) (v vl vu : Value) (lo hi : Option Int) (sl : Addr) (Q : VK), Inv X pins σ H s → RelV x v → s.heap.IsSliceOf sl vl vu .none → IsPart vl lo → IsPart vu hi → r x lo hi H Q →
   ∃ T id, typeLookup (.type T) "__getitem__" = pure (some (.builtin id)) ∧ s.TypeIs v T ∧ wpAny (model X.prog X.w) X.A (getItem v (.ref sl)) (EP X pins σ Q) X.xe s
theorem SlR.or {r r' : V → Option Int → Option Int → Hp → VK → Prop} (h : SlR X r) (h' : SlR X r') : SlR X (fun x lo hi H Q => r x lo hi H Q ∨ r' x lo hi H Q) := by
 intro pins s σ H x v vl vu lo hi sl Q I rx hs pl pu q
 rcases q with q | q
 · exact h pins s σ H x v vl vu lo hi sl Q I rx hs pl pu q
 · exact h' pins s σ H x v vl vu lo hi sl Q I rx hs pl pu q
def tSl (r : V → Option Int → Option Int → Hp → VK → Prop) (te : TE) (tl th : TO) : TE := fun σ H Q => te σ H fun x H1 => tl σ H1 fun l H2 => th σ H2 fun u H3 => r x l u H3 Q
theorem pe_slice {r : V → Option Int → Option Int → Hp → VK → Prop} (hr : SlR X r) (he : PE X e te) (hl : PO X lo tl) (hu : PO X hi th) : PE X (.Subscript e (.Slice lo hi none p2) pos) (tSl r te tl th) := by
 intro pins s σ H Q I h
 refine Subscript_ (thn (he pins s σ H _ I h) fun v s1 ⟨x, H1, I1, r1, q1⟩ => ?_)
 refine wpAny_Slice (thn (hl pins s1 σ H1 _ I1 q1) fun vl s2 ⟨l, H2, I2, pl, q2⟩ => thn (hu pins s2 σ H2 _ I2 q2) fun vu s3 ⟨u, H3, I3, pu, q3⟩ => ?_)
 rw [evalPart_none]
 refine wpAny_pure ?_
 have I4 : Inv X pins σ H3 { s3 with heap := s3.heap.push { cls := .type "slice", data := .fields #[vl, vu, .none] } } := I3.kept (t' := s3.toks) fun b ob q => Heap.get?_push_of_some _ q
 obtain ⟨T, id, hT, ht, hg⟩ := hr pins { s3 with heap := s3.heap.push { cls := .type "slice", data := .fields #[vl, vu, .none] } } σ H3 x v vl vu l u s3.heap.objs.size Q I4 r1 (Heap.IsSliceOf.new ..) pl pu q3
 show wpAny (model X.prog X.w) X.A (subscriptTail e (.Slice lo hi none p2) v (.ref s3.heap.objs.size)) (EP X pins σ Q) X.xe { s3 with heap := s3.heap.push { cls := .type "slice", data := .fields #[vl, vu, .none] } }
 exact tail_any (ops := [.ref s3.heap.objs.size, v]) ht hT hg (by with_unfolding_all rfl)
def cutV (xs : List V) (lo hi : Option Int) : List V := (xs.drop (HT.sIx xs.length 0 lo)).take (HT.sIx xs.length xs.length hi - HT.sIx xs.length 0 lo)
theorem cutV_length (xs : List V) (lo hi : Option Int) : (cutV xs lo hi).length ≤ xs.length := by
 unfold cutV
 rw [List.length_take, List.length_drop]
 omega
def rSlT (K : PySem.W.Frag) : V → Option Int → Option Int → Hp → VK → Prop := fun x lo hi H Q => ∃ a xs, x = .ref a ∧ SqT K H a xs ∧
 ¬ (HT.sIx xs.length 0 lo = 0 ∧ HT.sIx xs.length xs.length hi = xs.length) ∧ ∀ p, H p = none → Q (.ref p) (upd H p (.tup (cutV xs lo hi)))
theorem sl_tup : SlR X (rSlT X.K) := by
 intro pins s σ H x v vl vu lo hi sl Q I rx hs pl pu h
 obtain ⟨a, xs, rfl, hx, hw, q⟩ := h
 cases rx
 obtain ⟨its, r, ht, hz⟩ := I.tuple hx
 have hlen : its.toArray.size = xs.length := by rw [List.size_toArray]; exact r.length.symm
 refine ⟨"tuple", _, PyProof.Rows.slot_tuple_getitem.lookup, ht.typeIs, ?_⟩
 refine HT.getItem_tuple_cut ht hs pl pu (by rw [hlen]; exact hw) ?_ (by rw [hlen]; exact hz)
 rw [hlen]
 refine ⟨.ref s.heap.objs.size, _, I.laid (t' := s.toks) (o := .tup (cutV xs lo hi)) (fun b ob q => Heap.get?_push_of_some _ q) (Nat.le_refl _) ?_, rfl, q _ (I.hok.fresh (Nat.le_refl _))⟩
 exact ⟨Nat.le_trans (cutV_length xs lo hi) hz, _, (r.drop (HT.sIx xs.length 0 lo)).take (HT.sIx xs.length xs.length hi - HT.sIx xs.length 0 lo), IsTup.new _ _⟩
def rCatT (K : PySem.W.Frag) : R2 := fun x y H Q => ∃ a b xs ys, x = .ref a ∧ y = .ref b ∧ SqT K H a xs ∧ SqT K H b ys ∧ xs ≠ [] ∧ xs.length + ys.length ≤ sizeLine ∧
 (ys = [] → Q (.ref a) H) ∧ (ys ≠ [] → ∀ p, H p = none → Q (.ref p) (upd H p (.tup (xs ++ ys))))
theorem Vals.nil_iff {xs : List V} {us : List Value} (r : Vals xs us) : us = [] ↔ xs = [] := by
 cases r with
 | nil => simp
 | cons _ _ => simp
theorem op_catT : OpR X (binaryOp .Add) (rCatT X.K) := by
 intro pins s σ H x y v u Q I rx ry h
 obtain ⟨a, b, xs, ys, rfl, rfl, ha, hb, hx, hz, q1, q2⟩ := h
 cases rx
 cases ry
 obtain ⟨its, r1, p1, _⟩ := I.tuple ha
 obtain ⟨its2, r2, p2, _⟩ := I.tuple hb
 refine HT.cat_tup p1 p2 (fun z => hx (r1.nil_iff.mp z)) (fun z => ⟨.ref a, H, I, rfl, q1 (r2.nil_iff.mp z)⟩) (fun z => ?_) (by rw [← r1.length, ← r2.length]; exact hz)
 refine ⟨.ref s.heap.objs.size, _, I.laid (t' := s.toks) (o := .tup (xs ++ ys)) (fun b ob q => Heap.get?_push_of_some _ q) (Nat.le_refl _) ?_, rfl, q2 (fun w => z (r2.nil_iff.mpr w)) _ (I.hok.fresh (Nat.le_refl _))⟩
 exact ⟨by rw [List.length_append]; exact hz, _, r1.append r2, IsTup.new _ _⟩
end
end L2
namespace L2
open PySem PySem.Spec PyProof.Rows
def ixN (n : Nat) (i : Int) : Option Nat := if 0 ≤ i then (if i < n then some i.toNat else none) else if -(n : Int) ≤ i then some (i + n).toNat else none
def atI {α : Type} (xs : List α) (i : Int) : Option α := (ixN xs.length i).bind fun j => xs[j]?
theorem ixN_seq {n : Nat} {i : Int} {j : Nat} (h : ixN n i = some j) : seqIndex? i n = some j ∧ j < n ∧ -(n : Int) ≤ i ∧ i < n := by
 unfold ixN at h
 by_cases h0 : 0 ≤ i
 · rw [if_pos h0] at h
   by_cases h1 : i < n
   · rw [if_pos h1] at h
     have e : i.toNat = j := Option.some.inj h
     exact ⟨by rw [seqIndex_of h0 h1, e], by omega, by omega, h1⟩
   · rw [if_neg h1] at h; cases h
 · rw [if_neg h0] at h
   by_cases h1 : -(n : Int) ≤ i
   · rw [if_pos h1] at h
     have e : (i + n).toNat = j := Option.some.inj h
     exact ⟨by rw [seqIndex_neg (by omega) h1, e], by omega, h1, by omega⟩
   · rw [if_neg h1] at h; cases h
theorem atI_get {α : Type} {xs : List α} {i : Int} {v : α} (h : atI xs i = some v) : ∃ j, seqIndex? i xs.length = some j ∧ xs[j]? = some v ∧ j < xs.length ∧ -(xs.length : Int) ≤ i ∧ i < xs.length := by
 unfold atI at h
 cases e : ixN xs.length i with
 | none => rw [e] at h; cases h
 | some j =>
   rw [e] at h
   obtain ⟨h1, h2, h3, h4⟩ := ixN_seq e
   exact ⟨j, h1, h, h2, h3, h4⟩
theorem atI_nat {α : Type} {xs : List α} {j : Nat} {v : α} (h : xs[j]? = some v) : atI xs (j : Int) = some v := by
 have hj : j < xs.length := (List.getElem?_eq_some_iff.mp h).1
 have e : ixN xs.length (j : Int) = some j := by
   unfold ixN
   rw [if_pos (by omega), if_pos (by omega)]; simp
 unfold atI; rw [e]; exact h
def PlainIx (b : Expr) : Prop := ∀ o i, subscripted b false o i = operate [o, i] (getItem o i)
def IxR (X : Cx) (r : R2) : Prop :=
 ∀ (value slice : Expr) (pins : List (Addr × Obj)) (s : Shared) (σ : St) (H : Hp) (x y : V) (v u : Value) (Q : VK), Inv X pins σ H s → RelV x v → RelV y u → r x y H Q →
   subscripted slice false v u = operate [v, u] (getItem v u) → wpAny (model X.prog X.w) X.A (subscriptTail value slice v u) (EP X pins σ Q) X.xe s
def MtR (X : Cx) (id : String) (r : V → List V → Hp → VK → Prop) : Prop :=
 ∀ (pins : List (Addr × Obj)) (s : Shared) (σ : St) (H : Hp) (x : V) (xs : List V) (v : Value) (us : List Value) (Q : VK), Inv X pins σ H s → RelV x v → Vals xs us → r x xs H Q →
   wpAny (model X.prog X.w) X.A (call (.builtin id) (v :: us)) (EP X pins σ Q) X.xe s
section
variable {X : Cx} {a b : Expr} {ta tb : TE} {pos : Pos}
theorem IxR.or {r r' : R2} (h : IxR X r) (h' : IxR X r') : IxR X (fun x y H Q => r x y H Q ∨ r' x y H Q) := by
 intro value slice pins s σ H x y v u Q I rx ry q hs
 rcases q with q | q
 · exact h value slice pins s σ H x y v u Q I rx ry q hs
 · exact h' value slice pins s σ H x y v u Q I rx ry q hs
theorem MtR.or {id : String} {r r' : V → List V → Hp → VK → Prop} (h : MtR X id r) (h' : MtR X id r') : MtR X id (fun x xs H Q => r x xs H Q ∨ r' x xs H Q) := by
 intro pins s σ H x xs v us Q I rx rs q
 rcases q with q | q
 · exact h pins s σ H x xs v us Q I rx rs q
 · exact h' pins s σ H x xs v us Q I rx rs q
theorem pe_ix {r : R2} (hr : IxR X r) (ha : PE X a ta) (hb : PE X b tb) (hs : PlainIx b) : PE X (.Subscript a b pos) (tOp r ta tb) := by
 intro pins s σ H Q I h
 exact Subscript_ (binT ha hb I h fun v u s2 x y H2 I2 rx ry q => hr a b pins s2 σ H2 x y v u Q I2 rx ry q (hs _ _))
def rIxL (K : PySem.W.Frag) : R2 := fun x y H Q => ∃ p xs i v, x = .ref p ∧ y = .int i ∧ SqL K H p xs ∧ atI xs i = some v ∧ Q v H
def rIxT (K : PySem.W.Frag) : R2 := fun x y H Q => ∃ p xs i v, x = .ref p ∧ y = .int i ∧ SqT K H p xs ∧ atI xs i = some v ∧ Q v H
def rIxS : R2 := fun x y H Q => ∃ z i c, x = .str z ∧ y = .int i ∧ z.length ≤ sizeLine ∧ atI z.cps.toList i = some c ∧ Q (.str ⟨#[c]⟩) H
theorem ix_list : IxR X (rIxL X.K) := by
 intro value slice pins s σ H x y v u Q I rx ry h hs
 obtain ⟨p, xs, i, z, rfl, rfl, hq, he, q⟩ := h
 cases rx
 obtain ⟨t, rfl⟩ := ry
 obtain ⟨its, r, pl, hz⟩ := I.list hq
 obtain ⟨j, h1, h2, h3, h4, h5⟩ := atI_get he
 obtain ⟨w, ew, rw'⟩ := r.get h2
 have hl := r.length
 have hn := line63
 have fin : EP X pins σ Q w s := ⟨z, H, I, rw', q⟩
 by_cases h0 : 0 ≤ i
 · have hj : i.toNat = j := by
     rw [seqIndex_of h0 h5] at h1
     exact Option.some.inj h1
   exact item_listR pl.isList h0 (by omega) (by rw [hj]; simpa using ew) fin hs
 · have hj : (i + (its.toArray.size : Int)).toNat = j := by
     rw [seqIndex_neg (by omega) h4] at h1
     rw [List.size_toArray, ← hl]
     exact Option.some.inj h1
   exact subscriptTail_builtinR (x := w) pl.isList.typeIs slot_list_getitem.lookup
     (wpAny_getItem_list_neg (Q := fun r s' => r = w ∧ EP X pins σ Q r s') pl.isList (by omega) (by rw [List.size_toArray] <;> omega) (by omega) (by rw [hj]; simpa using ew) ⟨rfl, fin⟩) hs
theorem ix_tup : IxR X (rIxT X.K) := by
 intro value slice pins s σ H x y v u Q I rx ry h hs
 obtain ⟨p, xs, i, z, rfl, rfl, hq, he, q⟩ := h
 cases rx
 obtain ⟨t, rfl⟩ := ry
 obtain ⟨its, r, pl, hz⟩ := I.tuple hq
 obtain ⟨j, h1, h2, h3, h4, h5⟩ := atI_get he
 obtain ⟨w, ew, rw'⟩ := r.get h2
 have hl := r.length
 have hn := line63
 have fin : EP X pins σ Q w s := ⟨z, H, I, rw', q⟩
 exact subscriptTail_builtinR (x := w) pl.typeIs slot_tuple_getitem.lookup
   (getItem_tuple (j := j) (Q := fun r s' => r = w ∧ EP X pins σ Q r s') pl (by omega) (by omega) (by rw [List.size_toArray, ← hl]; exact h1) (by simpa using ew) ⟨rfl, fin⟩) hs
theorem ix_str : IxR X rIxS := by
 intro value slice pins s σ H x y v u Q I rx ry h hs
 obtain ⟨z, i, c, rfl, rfl, hz, he, q⟩ := h
 obtain ⟨t, rfl⟩ := rx
 obtain ⟨t', rfl⟩ := ry
 obtain ⟨j, h1, h2, h3, h4, h5⟩ := atI_get he
 have hl : z.cps.toList.length = z.length := by simp [Str.length]
 rw [hl] at h1 h4 h5
 have hn := line63
 exact tail_any (typeIs_str s z t) slot_str_getitem.lookup (getItem_str (c := c) (by
   have e1 : decide (i < -(2 ^ 63 : Int)) = false := decide_eq_false (by omega)
   have e2 : decide (i ≥ 2 ^ 63) = false := decide_eq_false (by omega)
   rw [e1, e2, Bool.or_false]) (by rw [h1]; simpa using h2) ⟨.str ⟨#[c]⟩, H, I.tok _, ⟨_, rfl⟩, q⟩) hs
def rIx (K : PySem.W.Frag) : R2 := fun x y H Q => rIxL K x y H Q ∨ rIxT K x y H Q ∨ rIxS x y H Q
theorem ix_seq : IxR X (rIx X.K) := ix_list.or (ix_tup.or ix_str)
theorem Inv.lst {pins : List (Addr × Obj)} {σ : St} {H : Hp} {s : Shared} {p : Addr} {xs : List V} (I : Inv X pins σ H s) (h : H p = some (.lst xs)) :
   ∃ (its : List Value) (n : Nat), Vals xs its ∧ s.heap.get? p = some { cls := .type "list", data := .seq its.toArray n } ∧ xs.length ≤ sizeLine := by
 obtain ⟨z, its, n, r, e⟩ := I.hok p _ h
 exact ⟨its, n, r, e, z⟩
theorem slice_bounds (lo hi : Option Int) (n : Nat) : (sliceBounds lo hi none n).1 = ((HT.sIx n 0 lo : Nat) : Int) ∧ (sliceBounds lo hi none n).2.1 = ((HT.sIx n n hi : Nat) : Int) ∧ (sliceBounds lo hi none n).2.2 = 1 := by
 refine ⟨?_, ?_, rfl⟩
 · cases lo with
   | none => simp [sliceBounds, HT.sIx]
   | some i =>
     simp only [sliceBounds, HT.sIx, Option.getD_none, show (1 : Int) > 0 by decide, if_true]
     by_cases h : i < 0
     · simp only [h, if_true] <;> omega
     · simp only [h, if_false] <;> omega
 · cases hi with
   | none => simp [sliceBounds, HT.sIx]
   | some i =>
     simp only [sliceBounds, HT.sIx, Option.getD_none, show (1 : Int) > 0 by decide, if_true]
     by_cases h : i < 0
     · simp only [h, if_true] <;> omega
     · simp only [h, if_false] <;> omega
theorem slicePick_cut (its : List Value) (lo hi : Option Int) : slicePick its.toArray lo hi none = ((its.drop (HT.sIx its.length 0 lo)).take (HT.sIx its.length its.length hi - HT.sIx its.length 0 lo)).toArray := by
 obtain ⟨h1, h2, h3⟩ := slice_bounds lo hi its.toArray.size
 unfold slicePick
 rw [h1, h2, h3]
 simp only [sliceRange_one, pick_run, List.size_toArray] <;> rfl
def rSlL (K : PySem.W.Frag) : V → Option Int → Option Int → Hp → VK → Prop := fun x lo hi H Q => ∃ a xs, x = .ref a ∧ SqL K H a xs ∧ ∀ p, H p = none → Q (.ref p) (upd H p (.lst (cutV xs lo hi)))
theorem sl_list : SlR X (rSlL X.K) := by
 intro pins s σ H x v vl vu lo hi sl Q I rx hs pl pu h
 obtain ⟨a, xs, rfl, hx, q⟩ := h
 cases rx
 obtain ⟨its, r, ht, hz⟩ := I.list hx
 have hlen := r.length
 refine ⟨"list", _, slot_list_getitem.lookup, ht.isList.typeIs, ?_⟩
 refine wpAny_getItem_list_slice ht.isList hs pl pu .none (by simp) ?_ (by rw [List.size_toArray] <;> omega)
 rw [slicePick_cut, ← hlen]
 refine ⟨.ref s.heap.objs.size, _, I.laid (t' := s.toks) (o := .lst (cutV xs lo hi)) (fun b ob q => Heap.get?_push_of_some _ q) (Nat.le_refl _) ?_, rfl, q _ (I.hok.fresh (Nat.le_refl _))⟩
 exact ⟨Nat.le_trans (cutV_length xs lo hi) hz, _, 0, (r.drop (HT.sIx xs.length 0 lo)).take (HT.sIx xs.length xs.length hi - HT.sIx xs.length 0 lo), Heap.get?_push_size _ rfl⟩
def flatV : V → Bool
 | .non => true
 | .bl _ => true
 | .int _ => true
 | .str _ => true
 | _ => false
def eqV : V → V → Bool
 | .non, .non => true
 | .bl a, .bl b => a == b
 | .bl a, .int b => (if a then 1 else 0) == b
 | .int a, .bl b => a == (if b then 1 else 0)
 | .int a, .int b => a == b
 | .str a, .str b => a == b
 | _, _ => false
theorem eqAt_V {A : Around} {s : Shared} {y x : V} {u v : Value} (ry : RelV y u) (rx : RelV x v) (fy : flatV y = true) (fx : flatV x = true) : SeqAt.EqAt A s u v (eqV y x) := by
 cases y with
 | non =>
   cases ry
   cases x with
   | non => cases rx; exact SeqAt.EqAt.same _
   | bl b => cases rx; exact SeqAt.EqAt.none_bool b
   | int b => obtain ⟨t, rfl⟩ := rx; exact SeqAt.EqAt.none_int b t
   | str b => obtain ⟨t, rfl⟩ := rx; exact SeqAt.EqAt.none_str b t
   | _ => exact absurd (show false = true from fx) Bool.false_ne_true
 | bl a =>
   cases ry
   cases x with
   | non => cases rx; exact SeqAt.EqAt.bool_none a
   | bl b => cases rx; exact SeqAt.EqAt.bool_bool a b
   | int b => obtain ⟨t, rfl⟩ := rx; exact SeqAt.EqAt.bool_int a b t
   | str b => obtain ⟨t, rfl⟩ := rx; exact SeqAt.EqAt.bool_str a b t
   | _ => exact absurd (show false = true from fx) Bool.false_ne_true
 | int a =>
   obtain ⟨t', rfl⟩ := ry
   cases x with
   | non => cases rx; exact SeqAt.EqAt.int_none a t'
   | bl b => cases rx; exact SeqAt.EqAt.int_bool a t' b
   | int b => obtain ⟨t, rfl⟩ := rx; exact SeqAt.EqAt.int_int a t' b t
   | str b => obtain ⟨t, rfl⟩ := rx; exact SeqAt.EqAt.int_str a t' b t
   | _ => exact absurd (show false = true from fx) Bool.false_ne_true
 | str a =>
   obtain ⟨t', rfl⟩ := ry
   cases x with
   | non => cases rx; exact SeqAt.EqAt.str_none a t'
   | bl b => cases rx; exact SeqAt.EqAt.str_bool a t' b
   | int b => obtain ⟨t, rfl⟩ := rx; exact SeqAt.EqAt.str_int a t' b t
   | str b => obtain ⟨t, rfl⟩ := rx; exact SeqAt.EqAt.str_str a t' b t
   | _ => exact absurd (show false = true from fx) Bool.false_ne_true
 | _ => exact absurd (show false = true from fy) Bool.false_ne_true
def eqU (x : V) (u : Value) : Bool := match u with
 | .none => eqV .non x
 | .bool b => eqV (.bl b) x
 | .int i _ => eqV (.int i) x
 | .str z _ => eqV (.str z) x
 | _ => false
theorem eqU_of {x y : V} {u : Value} (r : RelV y u) (f : flatV y = true) : eqU x u = eqV y x := by
 cases y with
 | non => cases r; rfl
 | bl b => cases r; rfl
 | int i => obtain ⟨t, rfl⟩ := r; rfl
 | str z => obtain ⟨t, rfl⟩ := r; rfl
 | _ => exact absurd (show false = true from f) Bool.false_ne_true
theorem any_eqU {x : V} : ∀ {xs : List V} {us : List Value}, Vals xs us → xs.all flatV = true → us.any (eqU x) = xs.any fun y => eqV y x
 | _, _, .nil, _ => rfl
 | y :: xs, u :: us, .cons r t, f => by
   rw [List.all_cons, Bool.and_eq_true] at f
   rw [List.any_cons, List.any_cons, eqU_of r f.1, any_eqU t f.2]
theorem mem_eqAt {A : Around} {s : Shared} {x : V} {v : Value} (rx : RelV x v) (fx : flatV x = true) : ∀ {xs : List V} {us : List Value}, Vals xs us → xs.all flatV = true → ∀ u ∈ us, SeqAt.EqAt A s u v (eqU x u)
 | _, _, .nil, _ => fun u hu => by cases hu
 | y :: xs, u :: us, .cons r t, f => fun u' hu => by
   rw [List.all_cons, Bool.and_eq_true] at f
   rcases List.mem_cons.mp hu with rfl | hu
   · rw [eqU_of r f.1]; exact eqAt_V r rx f.1 fx
   · exact mem_eqAt rx fx t f.2 u' hu
def inV (x : V) (xs : List V) : Bool := xs.any fun y => eqV y x
def rIn (K : PySem.W.Frag) (neg : Bool) : R2 := fun x y H Q => ∃ p xs, y = .ref p ∧ (SqL K H p xs ∨ SqT K H p xs) ∧ flatV x = true ∧ xs.all flatV = true ∧ Q (.bl (if neg then !inV x xs else inV x xs)) H
theorem op_in_seq : OpR X (compareOp .In) (rIn X.K false) := by
 intro pins s σ H x y v u Q I rx ry h
 obtain ⟨p, xs, rfl, hq, fx, fs, q⟩ := h
 cases ry
 rcases hq with hq | hq
 · obtain ⟨its, r, pl, hz⟩ := I.list hq
   refine SeqAt.in_listAt (eqU x) pl.isList (fun w hw => mem_eqAt rx fx r fs w (by simpa using hw)) ⟨.bl _, H, I, rfl, ?_⟩
   rw [show its.toArray.any (eqU x) = its.any (eqU x) by simp, any_eqU r fs]
   exact q
 · obtain ⟨its, r, pl, hz⟩ := I.tuple hq
   refine SeqAt.in_tupleAt (eqU x) pl (fun w hw => mem_eqAt rx fx r fs w (by simpa using hw)) ⟨.bl _, H, I, rfl, ?_⟩
   rw [show its.toArray.any (eqU x) = its.any (eqU x) by simp, any_eqU r fs]
   exact q
theorem call_len_seq : CallR X (.builtin "len") (fun xs H Q => ∃ p ys, xs = [.ref p] ∧ (SqL X.K H p ys ∨ SqT X.K H p ys) ∧ Q (.int ys.length) H) := by
 intro pins s σ H xs us Q I r h
 obtain ⟨p, ys, rfl, hq, q⟩ := h
 obtain ⟨u, rfl, rx⟩ := vals1 r
 cases rx
 have hn := line63
 rcases hq with hq | hq
 · obtain ⟨its, r', pl, hz⟩ := I.list hq
   have hlen := r'.length
   exact Calls.call_len_list pl.isList (by simp only [List.size_toArray] <;> omega) ⟨.int ys.length, H, I.tok _, ⟨s.toks + 1, by rw [List.size_toArray, hlen]⟩, q⟩
 · obtain ⟨its, r', pl, hz⟩ := I.tuple hq
   have hlen := r'.length
   exact len_tuple pl (by simp only [List.size_toArray] <;> omega) ⟨.int ys.length, H, I.tok _, ⟨s.toks + 1, by rw [List.size_toArray, hlen]⟩, q⟩
theorem CallR.or {f : Value} {r r' : List V → Hp → VK → Prop} (h : CallR X f r) (h' : CallR X f r') : CallR X f (fun xs H Q => r xs H Q ∨ r' xs H Q) := by
 intro pins s σ H xs us Q I rs q
 rcases q with q | q
 · exact h pins s σ H xs us Q I rs q
 · exact h' pins s σ H xs us Q I rs q
theorem call_list_of : CallR X (.type "list") (fun xs H Q => ∃ p ys, xs = [.ref p] ∧ (SqL X.K H p ys ∨ SqT X.K H p ys) ∧ ∀ l, H l = none → Q (.ref l) (upd H l (.lst ys))) := by
 intro pins s σ H xs us Q I r h
 obtain ⟨p, ys, rfl, hq, q⟩ := h
 obtain ⟨u, rfl, rx⟩ := vals1 r
 cases rx
 have fin : ∀ (its : List Value), Vals ys its → ys.length ≤ sizeLine → ∀ (h' : Heap) (c' : Nat), (∀ b o', s.heap.get? b = some o' → h'.get? b = some o') →
     h'.get? s.heap.objs.size = some { cls := .type "list", dict := none, data := .seq its.toArray c', slots := #[] } → EP X pins σ Q (.ref s.heap.objs.size) { s with heap := h' } := fun its r' hz h' c' kp e =>
   ⟨.ref s.heap.objs.size, _, I.laid (t' := s.toks) kp (Nat.le_refl _) (show ObjOk X.prog X.w _ h' _ (.lst ys) from ⟨hz, its, c', r', e⟩), rfl, q _ (I.hok.fresh (Nat.le_refl _))⟩
 rcases hq with hq | hq
 · obtain ⟨its, r', pl, hz⟩ := I.list hq
   have hlen := r'.length
   obtain ⟨o, ho, hc, n, hd⟩ := pl.isList
   exact call_list_seq p (.inl rfl) ho hc hd (fun h' c' kp e => fin its r' hz h' c' kp e) (by simp only [List.size_toArray] <;> omega)
 · obtain ⟨its, r', pl, hz⟩ := I.tuple hq
   have hlen := r'.length
   obtain ⟨o, ho, hc, n, hd⟩ := pl
   exact call_list_seq p (.inr rfl) ho hc hd (fun h' c' kp e => fin its r' hz h' c' kp e) (by simp only [List.size_toArray] <;> omega)
def tyV (K : PySem.W.Frag) (T : String) (x : V) (H : Hp) : Prop := match x with
 | .str _ => T = "str"
 | .int _ => T = "int"
 | .ref p => (T = "list" ∧ ∃ xs, SqL K H p xs) ∨ (T = "tuple" ∧ ∃ o, K.lookup p = some o ∧ o.cls = .type "tuple" ∧ o.dict = none) ∨
     (T = "dict" ∧ ((∃ kvs, H p = some (.dK kvs)) ∨ ∃ kvs, H p = some (.dT kvs))) ∨ (T = "set" ∧ ∃ S n, H p = some (.set S n))
 | _ => False
theorem tyV_is {pins : List (Addr × Obj)} {σ : St} {H : Hp} {s : Shared} {T : String} {x : V} {v : Value} (I : Inv X pins σ H s) (r : RelV x v) (ty : tyV X.K T x H) :
   s.TypeIs v T ∧ ∀ a, v = .ref a → ∃ ob, s.heap.get? a = some ob ∧ ob.dict = none := by
 cases x with
 | str z =>
   obtain ⟨t, rfl⟩ := r
   cases (show T = "str" from ty)
   exact ⟨typeIs_str s z t, fun _ e => nomatch e⟩
 | int i =>
   obtain ⟨t, rfl⟩ := r
   cases (show T = "int" from ty)
   exact ⟨typeIs_int s i t, fun _ e => nomatch e⟩
 | ref p =>
   cases r
   rcases ty with ⟨rfl, xs, hq⟩ | ⟨rfl, o, hk, hc, hd⟩ | ⟨rfl, hk⟩ | ⟨rfl, S, n, hk⟩
   · obtain ⟨its, _, pl, _⟩ := I.list hq
     refine ⟨pl.isList.typeIs, fun a e => ?_⟩
     cases e
     obtain ⟨o, n, e, c, hd, _⟩ := pl
     exact ⟨o, e, hd⟩
   · refine ⟨⟨o, I.kIn p o hk, hc⟩, fun a e => ?_⟩
     cases e
     exact ⟨o, I.kIn _ o hk, hd⟩
   · have z : ∃ o, s.heap.get? p = some o ∧ o.ExactDict := by
       rcases hk with ⟨kvs, hk⟩ | ⟨kvs, hk⟩
       · obtain ⟨_, _, _, _, o, _, _, e, ex, _⟩ := I.hok p _ hk
         exact ⟨o, e, ex⟩
       · obtain ⟨_, _, _, _, o, _, _, e, ex, _⟩ := I.hok p _ hk
         exact ⟨o, e, ex⟩
     obtain ⟨o, e, ex⟩ := z
     refine ⟨⟨o, e, ex.1⟩, fun a e2 => ?_⟩
     cases e2
     exact ⟨o, e, ex.2.1⟩
   · obtain ⟨o, _, _, _, e, ex, _⟩ := I.hok p _ hk
     refine ⟨⟨o, e, ex.1⟩, fun a e2 => ?_⟩
     cases e2
     exact ⟨o, e, ex.2.1⟩
 | _ => exact False.elim ty
def tBM0 (K : PySem.W.Frag) (T : String) (r : V → List V → Hp → VK → Prop) (to : TE) : TE := fun σ H Q => to σ H fun x H1 => tyV K T x H1 ∧ r x [] H1 Q
def tBM (K : PySem.W.Frag) (T : String) (r : V → List V → Hp → VK → Prop) (to : TE) (t : TA) : TE := fun σ H Q => to σ H fun x H1 => tyV K T x H1 ∧ t σ H1 fun xs H2 => r x xs H2 Q
variable {o e : Expr} {es : List Expr} {to : TE} {t : TA} {name : Str} {apos cpos : Pos} {T id : String} {r : V → List V → Hp → VK → Prop}
theorem pe_bm0 (pa : PlainAttrs T) (slot : Slot T name id) (hty : typeOf (.builtin id) = pure (.type "method_descriptor")) (hm : MtR X id r) (ho : PE X o to)
   (hbase : attributeBase o name X.env (eval o X.env) = eval o X.env := by rfl) (hline : (apos.endLine == cpos.line) = true := by rfl) : PE X (.Call (.Attribute o name apos) [] [] cpos) (tBM0 X.K T r to) := by
 intro pins s σ H Q I h
 refine wpAny_Call_method0_late hbase hline (thn (ho pins s σ H _ I h) fun v s1 ⟨x, H1, I1, r1, ty, q1⟩ => ?_)
 obtain ⟨h1, h2⟩ := tyV_is I1 r1 ty
 exact ⟨T, id, pa, slot, hty, h1, h2, Calls.callWith_builtin rfl (PySem.evalArgs_none (hm pins s1 σ H1 x [] v [] Q I1 r1 .nil q1))⟩
theorem pe_bm (pa : PlainAttrs T) (slot : Slot T name id) (hty : typeOf (.builtin id) = pure (.type "method_descriptor")) (hm : MtR X id r) (ho : PE X o to) (ha : PA X (e :: es) t)
   (hbase : attributeBase o name X.env (eval o X.env) = eval o X.env := by rfl)
   (hfew : ((backTo cpos (starEach (e :: es) X.env)).all (fun x => !x.1) && (backToKw cpos (keywordEach [] X.env)).all (fun x => x.1.isSome)
     && decide ((e :: es).length + ([] : List Keyword).length + (if ([] : List Keyword).isEmpty then 0 else 1) < 30)) = true := by rfl)
   (hline : (apos.endLine == cpos.line) = true := by rfl) (hs : starEach (e :: es) X.env = (false, eval e X.env) :: starEach es X.env := by rfl) (hplain : (backTo cpos (starEach es X.env)).any (·.1) = false := by rfl) :
   PE X (.Call (.Attribute o name apos) (e :: es) [] cpos) (tBM X.K T r to t) := by
 intro pins s σ H Q I h
 refine wpAny_Call_method_late hbase hfew hline rfl (thn (ho pins s σ H _ I h) fun v s1 ⟨x, H1, I1, r1, ty, q1⟩ => ?_)
 obtain ⟨h1, h2⟩ := tyV_is I1 r1 ty
 refine ⟨T, id, pa, slot, hty, h1, h2, ?_⟩
 have hA := ha cpos pins s1 σ H1 _ I1 q1
 rw [hs] at hA ⊢
 refine Calls.callWith_builtin (by show (false || (backTo cpos (starEach es X.env)).any (·.1)) = false; rw [hplain] <;> rfl) (Calls.evalArgs_plain ?_)
 exact thn hA fun us s2 ⟨vs, H2, I2, r2, q2⟩ => hm pins s2 σ H2 x vs v us Q I2 r1 r2 q2
/- xs.append(e), list.index on a module's tuple .. are MtR facts of 06m -/
end
end L2
namespace L2
open PySem PySem.Spec PyProof.Rows
def MtM (X : Cx) (id : String) (r : V → List V → Hp → VK → Prop) : Prop :=
 ∀ (pins : List (Addr × Obj)) (s : Shared) (σ : St) (H : Hp) (x : V) (xs : List V) (v : Value) (us : List Value) (Q : VK), Inv X pins σ H s → RelV x v → Vals xs us → r x xs H Q →
   wpAny (model X.prog X.w) X.A (call (.builtin id) (v :: us)) (EP X pins σ Q) X.xe s
theorem Vals.one : ∀ {x : V} {us : List Value}, Vals [x] us → ∃ u, us = [u] ∧ RelV x u
 | _, _, .cons r .nil => ⟨_, rfl, r⟩
theorem Vals.zero : ∀ {us : List Value}, Vals [] us → us = []
 | _, .nil => rfl
theorem Vals.dropLast {xs : List V} {us : List Value} (h : Vals xs us) : Vals xs.dropLast us.dropLast := by
 induction h with
 | nil => exact .nil
 | cons r t ih =>
   cases t with
   | nil => exact .nil
   | cons q t' => exact .cons r ih
section
variable {X : Cx} {pins : List (Addr × Obj)} {σ : St} {H : Hp} {s : Shared} {l b : Addr} {xs ys zs : List V}
theorem Inv.lset {its its' : List Value} {n : Nat} {f : Array Value → Array Value} {t' : Nat} (I : Inv X pins σ H s) (hH : H l = some (.lst xs))
   (e : s.heap.get? l = some { cls := .type "list", data := .seq its.toArray n }) (hf : f its.toArray = its'.toArray) (hv : Vals ys its') (hz : ys.length ≤ sizeLine) :
   Inv X pins σ (upd H l (.lst ys)) { s with heap := s.heap.update l (Obj.mapSeq f), toks := t' } := by
 have q := PySem.IsL.update e f
 rw [hf] at q
 refine I.write (x := l) (e := l) (by rw [hH]; exact trivial) (.inl rfl) (fun b' u hb hu => (Heap.get?_update_other s.heap (Obj.mapSeq f) (Ne.symm hb)).trans hu) ⟨_, q⟩ ?_
 exact ⟨hz, its', _, hv, q⟩
theorem Inv.lnew {its : List Value} {t' : Nat} (I : Inv X pins σ H s) (hv : Vals ys its) (hz : ys.length ≤ sizeLine) :
   Inv X pins σ (upd H s.heap.objs.size (.lst ys)) { s with heap := s.heap.push { cls := .type "list", data := .seq its.toArray }, toks := t' } :=
 I.laid (fun _ _ q => Heap.get?_push_of_some _ q) (Nat.le_refl _) ⟨hz, its, 0, hv, Heap.get?_push_size _ rfl⟩
theorem Inv.fresh (I : Inv X pins σ H s) : H s.heap.objs.size = none := I.hok.fresh (Nat.le_refl _)
theorem Inv.lstM (I : Inv X pins σ H s) (hH : H l = some (.lst xs)) : xs.length ≤ sizeLine ∧ ∃ (its : List Value) (n : Nat), Vals xs its ∧ xs.length = its.length ∧ s.heap.get? l = some { cls := .type "list", data := .seq its.toArray n } := by
 obtain ⟨z, its, n, r, e⟩ := I.hok l _ hH
 exact ⟨z, its, n, r, r.length, e⟩
end
section
variable {X : Cx}
def rAppend : V → List V → Hp → VK → Prop := fun x vs H Q => ∃ l xs y, x = .ref l ∧ vs = [y] ∧ H l = some (.lst xs) ∧ xs.length < sizeLine ∧ Q .non (upd H l (.lst (xs ++ [y])))
theorem mt_append : MtM X "list.append" rAppend := by
 intro pins s σ H x vs v us Q I rx rv h
 obtain ⟨l, xs, y, rfl, rfl, hH, hz, q⟩ := h
 cases rx
 obtain ⟨u, rfl, ru⟩ := rv.one
 obtain ⟨z, its, n, r, hl, e⟩ := I.lstM hH
 refine call_meets F.slot_list_append ⟨_, e, rfl⟩ F.entry_list_append (F.args_list_append_2 _ _) (PySem.list_append l its.toArray n u (by rw [List.size_toArray]; omega)) ⟨e, ?_⟩
 refine ⟨.non, _, I.lset (its' := its ++ [u]) hH e (by simp) (r.append (.cons ru .nil)) ?_, rfl, q⟩
 rw [List.length_append, List.length_singleton]
 omega
def rClear : V → List V → Hp → VK → Prop := fun x vs H Q => ∃ l xs, x = .ref l ∧ vs = [] ∧ H l = some (.lst xs) ∧ Q .non (upd H l (.lst []))
theorem mt_clear : MtM X "list.clear" rClear := by
 intro pins s σ H x vs v us Q I rx rv h
 obtain ⟨l, xs, rfl, rfl, hH, q⟩ := h
 cases rx
 have hus := rv.zero
 subst hus
 obtain ⟨z, its, n, r, hl, e⟩ := I.lstM hH
 refine call_meets F.slot_list_clear ⟨_, e, rfl⟩ F.entry_list_clear (F.args_list_clear_1 _) (AutoSeq1.list_clear_list_0 l its.toArray n (by rw [List.size_toArray]; omega)) ⟨e, ?_⟩
 exact ⟨.non, _, I.lset (its' := []) (ys := []) hH e rfl .nil (Nat.zero_le _), rfl, q⟩
def rCat : R2 := fun x y H Q => ∃ l b xs zs, x = .ref l ∧ y = .ref b ∧ H l = some (.lst xs) ∧ H b = some (.lst zs) ∧ xs.length + zs.length ≤ sizeLine ∧ ∀ p, H p = none → Q (.ref p) (upd H p (.lst (xs ++ zs)))
theorem op_cat : OpR X (binaryOp .Add) rCat := by
 intro pins s σ H x y v u Q I rx ry h
 obtain ⟨l, b, xs, zs, rfl, rfl, hH, hB, hz, q⟩ := h
 cases rx
 cases ry
 obtain ⟨z, its, n, r, hl, e⟩ := I.lstM hH
 obtain ⟨z2, its2, n2, r2, hl2, e2⟩ := I.lstM hB
 refine PySem.P.add_list e e2 ?_ (by rw [List.size_toArray, List.size_toArray]; omega)
 have ea : its.toArray ++ its2.toArray = (its ++ its2).toArray := by simp
 rw [ea]
 exact ⟨.ref _, _, I.lnew (t' := s.toks) (r.append r2) (by rw [List.length_append]; omega), rfl, q _ I.fresh⟩
end
section
variable {prog : Program} {w : World} {A : Around} {E : Value → Shared → Prop} {s : Shared}
end
section
variable {X : Cx}
end
end L2
namespace L2
open PySem PySem.Spec PyProof.Rows
section
variable {κ : Type} [DecidableEq κ]
def valV (kvs : List (κ × V)) (k : κ) : Option V := (kvs.find? fun kv => decide (kv.1 = k)).map (·.2)
def putK (kvs : List (κ × V)) (k : κ) (v : V) : List (κ × V) :=
 if (kvs.any fun kv => decide (kv.1 = k)) = true then kvs.map (fun kv => if kv.1 = k then (kv.1, v) else kv) else kvs ++ [(k, v)]
def dropK (kvs : List (κ × V)) (k : κ) : List (κ × V) := kvs.filter fun kv => decide (kv.1 ≠ k)
theorem valV_pos {p : κ × V} {r : List (κ × V)} {k : κ} (e : p.1 = k) : valV (p :: r) k = some p.2 := by simp [valV, List.find?_cons, e]
theorem valV_neg {p : κ × V} {r : List (κ × V)} {k : κ} (e : ¬ p.1 = k) : valV (p :: r) k = valV r k := by simp [valV, List.find?_cons, e]
theorem valV_any (k : κ) : ∀ kvs : List (κ × V), (kvs.any fun kv => decide (kv.1 = k)) = (valV kvs k).isSome
 | [] => rfl
 | p :: r => by
   rw [List.any_cons]
   by_cases e : p.1 = k
   · simp only [valV_pos e, decide_eq_true e, Bool.true_or, Option.isSome_some]
   · rw [valV_neg e, decide_eq_false e, Bool.false_or]; exact valV_any k r
theorem length_putK (kvs : List (κ × V)) (k : κ) (v : V) : (putK kvs k v).length ≤ kvs.length + 1 := by
 unfold putK
 split
 · rw [List.length_map]; omega
 · rw [List.length_append, List.length_cons, List.length_nil]; omega
theorem RelO.isSome_eq {o : Option V} {u : Option Value} (r : RelO o u) : o.isSome = u.isSome := by
 cases o with
 | none => cases u with
   | none => rfl
   | some _ => exact (show False from r).elim
 | some _ => cases u with
   | none => exact (show False from r).elim
   | some _ => rfl
theorem RelO.getD {o : Option V} {u : Option Value} {d : V} {d' : Value} (r : RelO o u) (rd : RelV d d') : RelV (o.getD d) (u.getD d') := by
 cases o with
 | none => cases u with
   | none => exact rd
   | some _ => exact (show False from r).elim
 | some _ => cases u with
   | none => exact (show False from r).elim
   | some _ => exact r
theorem KV.val {kvs : List (κ × V)} {vs : List (κ × Value)} (r : KV kvs vs) (k : κ) : RelO (valV kvs k) (valueAt vs k) := by
 unfold KV at r
 induction r with
 | nil => exact True.intro
 | @cons p q ps qs h t ih =>
   obtain ⟨h1, h2⟩ := h
   by_cases e : p.1 = k
   · have e' : q.1 = k := h1.symm.trans e
     have b : valueAt (q :: qs) k = some q.2 := by simp [valueAt, List.find?_cons, e']
     rw [valV_pos e, b]; exact h2
   · have e' : ¬ q.1 = k := fun z => e (h1.trans z)
     have b : valueAt (q :: qs) k = valueAt qs k := by simp [valueAt, List.find?_cons, e']
     rw [valV_neg e, b]; exact ih
theorem KV.any {kvs : List (κ × V)} {vs : List (κ × Value)} (r : KV kvs vs) (k : κ) : (kvs.any fun kv => decide (kv.1 = k)) = vs.any fun kv => decide (kv.1 = k) := by
 unfold KV at r
 induction r with
 | nil => rfl
 | cons h t ih => rw [List.any_cons, List.any_cons, ih, h.1]
theorem KV.repl {kvs : List (κ × V)} {vs : List (κ × Value)} (r : KV kvs vs) (k : κ) {y : V} {u : Value} (ry : RelV y u) :
   KV (kvs.map fun kv => if kv.1 = k then (kv.1, y) else kv) (vs.map fun kv => if kv.1 = k then (kv.1, u) else kv) := by
 unfold KV at r ⊢
 induction r with
 | nil => exact .nil
 | @cons p q ps qs h t ih =>
   rw [List.map_cons, List.map_cons]
   refine .cons ?_ ih
   obtain ⟨h1, h2⟩ := h
   by_cases e : p.1 = k
   · rw [if_pos e, if_pos (h1.symm.trans e)]; exact ⟨h1, ry⟩
   · rw [if_neg e, if_neg (fun z => e (h1.trans z))]; exact ⟨h1, h2⟩
theorem KV.put {kvs : List (κ × V)} {vs : List (κ × Value)} (r : KV kvs vs) (k : κ) {y : V} {u : Value} (ry : RelV y u) : KV (putK kvs k y) (stored vs k u) := by
 unfold putK stored
 rw [r.any k]
 by_cases e : (vs.any fun kv => decide (kv.1 = k)) = true
 · rw [if_pos e, if_pos e]; exact r.repl k ry
 · rw [if_neg e, if_neg e]; exact Paired.snoc r ⟨rfl, ry⟩
theorem KV.drop {kvs : List (κ × V)} {vs : List (κ × Value)} (r : KV kvs vs) (k : κ) : KV (dropK kvs k) (without vs k) := by
 unfold KV at r ⊢
 unfold dropK without
 induction r with
 | nil => exact .nil
 | @cons p q ps qs h t ih =>
   obtain ⟨h1, h2⟩ := h
   rw [List.filter_cons, List.filter_cons]
   by_cases e : p.1 = k
   · have a : ¬ decide (p.1 ≠ k) = true := by simp [e]
     have b : ¬ decide (q.1 ≠ k) = true := by simp [h1.symm.trans e]
     rw [if_neg a, if_neg b]; exact ih
   · have e' : ¬ q.1 = k := fun z => e (h1.trans z)
     have a : decide (p.1 ≠ k) = true := by simp [e]
     have b : decide (q.1 ≠ k) = true := by simp [e']
     rw [if_pos a, if_pos b]; exact .cons ⟨h1, h2⟩ ih
theorem KV.keys {kvs : List (κ × V)} {vs : List (κ × Value)} (r : KV kvs vs) : kvs.map (·.1) = vs.map (·.1) := by
 unfold KV at r
 induction r with
 | nil => rfl
 | cons h t ih => rw [List.map_cons, List.map_cons, ih, h.1]
theorem KV.length {kvs : List (κ × V)} {vs : List (κ × Value)} (r : KV kvs vs) : kvs.length = vs.length := Paired.length r
theorem dropK_le (kvs : List (κ × V)) (k : κ) : (dropK kvs k).length ≤ kvs.length := List.length_filter_le _ _
end
theorem kV_is {P : Program} {w : World} {k : Key} {u : Value} (r : RelV (kV k) u) : (mixKind P w).is k u = true := by
 cases k with
 | inl i => obtain ⟨t, e⟩ := (show ∃ t, u = Value.int i t from r); subst e; exact mixKind_int P w i t
 | inr x => obtain ⟨t, e⟩ := (show ∃ t, u = Value.str x t from r); subst e; exact mixKind_str P w x t
theorem items_are {P : Program} {w : World} : ∀ {ks : List Key} {us : List Value}, Vals (ks.map kV) us → ItemsAre (mixKind P w) ks us
 | [], _, r => by rw [List.map_nil] at r; cases r; exact .nil
 | k :: ks, _, r => by
   rw [List.map_cons] at r
   cases r with
   | cons h t => exact .cons (kV_is h) (items_are t)
abbrev KT (H : Hp) : List (List Key × V) → List (List Key × Addr × Value) → Prop := Paired fun p q => p.1 = q.1 ∧ H q.2.1 = some (.tup (p.1.map kV)) ∧ RelV p.2 q.2.2
theorem KT.val {H : Hp} {kvs : List (List Key × V)} {xs : List (List Key × Addr × Value)} (r : KT H kvs xs) (k : List Key) : RelO (valV kvs k) ((atKey xs k).map (·.2)) := by
 induction r with
 | nil => exact True.intro
 | @cons p q ps qs h t ih =>
   obtain ⟨h1, _, h2⟩ := h
   by_cases e : p.1 = k
   · have e' : q.1 = k := h1.symm.trans e
     have b : atKey (q :: qs) k = some q.2 := by simp [atKey, List.find?_cons, e']
     rw [valV_pos e, b]; exact h2
   · have e' : ¬ q.1 = k := fun z => e (h1.trans z)
     have b : atKey (q :: qs) k = atKey qs k := by simp [atKey, List.find?_cons, e']
     rw [valV_neg e, b]; exact ih
theorem KT.repl {H : Hp} {kvs : List (List Key × V)} {xs : List (List Key × Addr × Value)} (r : KT H kvs xs) (k : List Key) {y : V} {u : Value} (ry : RelV y u) :
   KT H (kvs.map fun kv => if kv.1 = k then (kv.1, y) else kv) (xs.map (putAt k u)) := by
 induction r with
 | nil => exact .nil
 | @cons p q ps qs h t ih =>
   rw [List.map_cons, List.map_cons]
   refine .cons ?_ ih
   obtain ⟨h1, h2, h3⟩ := h
   unfold putAt
   by_cases e : p.1 = k
   · rw [if_pos e, if_pos (h1.symm.trans e)]; exact ⟨h1, h2, ry⟩
   · rw [if_neg e, if_neg (fun z => e (h1.trans z))]; exact ⟨h1, h2, h3⟩
theorem KT.put {H : Hp} {kvs : List (List Key × V)} {xs : List (List Key × Addr × Value)} (r : KT H kvs xs) (k : List Key) {b : Addr} {y : V} {u : Value} (hb : H b = some (.tup (k.map kV))) (ry : RelV y u) :
   KT H (putK kvs k y) (storedH xs k b u) := by
 have e : (kvs.any fun kv => decide (kv.1 = k)) = (atKey xs k).isSome := by
   rw [valV_any, (r.val k).isSome_eq, Option.isSome_map]
 unfold putK storedH
 rw [e]
 by_cases q : (atKey xs k).isSome = true
 · rw [if_pos q, if_pos q]; exact r.repl k ry
 · rw [if_neg q, if_neg q]; exact Paired.snoc r ⟨rfl, hb, ry⟩
theorem KT.keeps {H H' : Hp} {kvs : List (List Key × V)} {xs : List (List Key × Addr × Value)} (r : KT H kvs xs) (ht : ∀ b ys, H b = some (.tup ys) → H' b = some (.tup ys)) : KT H' kvs xs :=
 Paired.mapP r fun _ _ z => ⟨z.1, ht _ _ z.2.1, z.2.2⟩
section
variable {P : Program} {w : World} {H : Hp} {h : Heap} {a : Addr}
theorem rd_of {u : HO} (ok : HOk P w H h) (e : Rd H a u) : ObjOk P w H h a u := e.ok ok
theorem dk_rd {kvs : List (Key × V)} (ok : HOk P w H h) (e : Rd H a (.dK kvs)) : kvs.length ≤ sizeLine ∧ (a == sysModules) = false ∧ ∃ vs, KV kvs vs ∧ h.DictOf (mixKind P w) a vs :=
 show ObjOk P w H h a (.dK kvs) from rd_of ok e
theorem dk_of {kvs : List (Key × V)} (ok : HOk P w H h) (e : H a = some (.dK kvs)) : kvs.length ≤ sizeLine ∧ (a == sysModules) = false ∧ ∃ vs, KV kvs vs ∧ h.DictOf (mixKind P w) a vs := dk_rd ok (.inl e)
theorem key_of {ks : List Key} (ok : HOk P w H h) (e : H a = some (.tup (ks.map kV))) : (tupleKind (mixKind P w)).is h ks a := by
 obtain ⟨_, its, r, o, h1, h2, n, h3⟩ := (show ObjOk P w H h a (.tup (ks.map kV)) from ok a _ e)
 exact ⟨o, its.toArray, n, h1, h2, h3, by simpa using items_are r⟩
theorem dt_rd {kvs : List (List Key × V)} (ok : HOk P w H h) (e : Rd H a (.dT kvs)) : kvs.length ≤ sizeLine ∧ (a == sysModules) = false ∧
   ∃ xs, KT H kvs xs ∧ h.DictOfH (tupleKind (mixKind P w)) a xs := by
 obtain ⟨z, y, xs, r, o, es, ep, h1, h2, h3, h4, h5⟩ := (show ObjOk P w H h a (.dT kvs) from rd_of ok e)
 refine ⟨z, y, xs, r, o, es, ep, h1, h2, h3, h4, fun x hx => ?_, h5⟩
 have all : ∀ {l : List (List Key × V)} {m : List (List Key × Addr × Value)}, KT H l m → ∀ x ∈ m, (tupleKind (mixKind P w)).is h x.1 x.2.1 := by
   intro l m q
   induction q with
   | nil => intro x hx; exact nomatch hx
   | @cons p q ps qs hq t ih =>
     intro x hx
     rcases List.mem_cons.mp hx with e | hx
     · subst e
       exact key_of ok (by rw [← hq.1]; exact hq.2.1)
     · exact ih x hx
 exact all r x hx
theorem dt_of {kvs : List (List Key × V)} (ok : HOk P w H h) (e : H a = some (.dT kvs)) : kvs.length ≤ sizeLine ∧ (a == sysModules) = false ∧
   ∃ xs, KT H kvs xs ∧ h.DictOfH (tupleKind (mixKind P w)) a xs := dt_rd ok (.inl e)
end
def DGet (H : Hp) (a : Addr) (y : V) (r : Option V) : Prop :=
 (∃ kvs k, Rd H a (.dK kvs) ∧ y = kV k ∧ r = valV kvs k) ∨ ∃ kvs k b, Rd H a (.dT kvs) ∧ y = .ref b ∧ H b = some (.tup (k.map kV)) ∧ r = valV kvs k
def DPut (H : Hp) (a : Addr) (y v : V) (H' : Hp) : Prop :=
 (∃ kvs k, H a = some (.dK kvs) ∧ y = kV k ∧ kvs.length < sizeLine ∧ H' = upd H a (.dK (putK kvs k v))) ∨
 ∃ kvs k b, H a = some (.dT kvs) ∧ y = .ref b ∧ H b = some (.tup (k.map kV)) ∧ kvs.length < sizeLine ∧ H' = upd H a (.dT (putK kvs k v))
theorem DGet.k {H : Hp} {a : Addr} {kvs : List (Key × V)} {k : Key} (e : H a = some (.dK kvs)) : DGet H a (kV k) (valV kvs k) := .inl ⟨kvs, k, .inl e, rfl, rfl⟩
theorem DGet.t {H : Hp} {a b : Addr} {kvs : List (List Key × V)} {k : List Key} (e : H a = some (.dT kvs)) (eb : H b = some (.tup (k.map kV))) : DGet H a (.ref b) (valV kvs k) := .inr ⟨kvs, k, b, .inl e, rfl, eb, rfl⟩
theorem DPut.k {H : Hp} {a : Addr} {kvs : List (Key × V)} {k : Key} {v : V} (e : H a = some (.dK kvs)) (hl : kvs.length < sizeLine) : DPut H a (kV k) v (upd H a (.dK (putK kvs k v))) := .inl ⟨kvs, k, e, rfl, hl, rfl⟩
theorem DPut.t {H : Hp} {a b : Addr} {kvs : List (List Key × V)} {k : List Key} {v : V} (e : H a = some (.dT kvs)) (eb : H b = some (.tup (k.map kV))) (hl : kvs.length < sizeLine) :
   DPut H a (.ref b) v (upd H a (.dT (putK kvs k v))) := .inr ⟨kvs, k, b, e, rfl, eb, hl, rfl⟩
section
variable {X : Cx} {pins : List (Addr × Obj)} {σ : St} {H : Hp} {s : Shared} {a : Addr} {y v : V} {u r : Value} {o : Option V} {A : Around} {E : Value → Shared → Prop}
theorem Inv.big (I : Inv X pins σ H s) : sysModules < s.heap.objs.size := by
 have h : mainGlobals < s.heap.objs.size := (I.mod.glob.keeps I.bk).lt
 exact Nat.lt_trans (by decide) h
theorem d_getItem {Q : Value → Shared → Prop} (hu : A.units + 1 < cLine) (I : Inv X pins σ H s) (g : DGet H a y (some v)) (ry : RelV y u) (h : ∀ w' s', Inv X pins σ H s' → RelV v w' → Q w' s') :
   wpAny (model X.prog X.w) A (getItem (.ref a) u) Q E s := by
 rcases g with ⟨kvs, k, e, ey, l⟩ | ⟨kvs, k, b, e, ey, eb, l⟩
 · subst ey
   obtain ⟨z, hd, vs, rel, dd⟩ := dk_rd I.hok e
   obtain ⟨w', hw, rw'⟩ := RelO.some_of (v := v) (o := valueAt vs k) (by rw [l]; exact rel.val k)
   exact wpAny_getItem_of (kV_is ry) dd.mapOf hw (h w' _ (I.tok _) rw')
 · subst ey
   cases (show u = Value.ref b from ry)
   obtain ⟨z, hd, xs, rel, dd⟩ := dt_rd I.hok e
   obtain ⟨w', hw, rw'⟩ := RelO.some_of (v := v) (o := (atKey xs k).map (·.2)) (by rw [l]; exact rel.val k)
   obtain ⟨p, hp, hp2⟩ := Option.map_eq_some_iff.mp hw
   refine wpAny_getItem_heap (tupleKind_room_in1 hu) (key_of I.hok eb) dd hp ?_
   rw [hp2]
   exact h w' _ (I.tok _) rw'
theorem d_in {Q : Value → Shared → Prop} (hu : A.units + 1 < cLine) (I : Inv X pins σ H s) (g : DGet H a y o) (ry : RelV y u) (h : ∀ s', Inv X pins σ H s' → Q (.bool o.isSome) s') :
   wpAny (model X.prog X.w) A (compareOp .In u (.ref a)) Q E s := by
 rcases g with ⟨kvs, k, e, ey, l⟩ | ⟨kvs, k, b, e, ey, eb, l⟩
 · subst ey
   obtain ⟨z, hd, vs, rel, dd⟩ := dk_rd I.hok e
   refine wpAny_in_of (kV_is ry) hd dd.mapOf ?_
   rw [← (rel.val k).isSome_eq, ← l]
   exact h _ (I.tok _)
 · subst ey
   cases (show u = Value.ref b from ry)
   obtain ⟨z, hd, xs, rel, dd⟩ := dt_rd I.hok e
   refine wpAny_in_heap (tupleKind_room_in1 hu) (key_of I.hok eb) hd dd ?_
   have q := (rel.val k).isSome_eq
   rw [Option.isSome_map] at q
   rw [← q, ← l]
   exact h _ (I.tok _)
theorem d_notIn {Q : Value → Shared → Prop} (hu : A.units + 1 < cLine) (I : Inv X pins σ H s) (g : DGet H a y o) (ry : RelV y u) (h : ∀ s', Inv X pins σ H s' → Q (.bool (!o.isSome)) s') :
   wpAny (model X.prog X.w) A (compareOp .NotIn u (.ref a)) Q E s := by
 rcases g with ⟨kvs, k, e, ey, l⟩ | ⟨kvs, k, b, e, ey, eb, l⟩
 · subst ey
   obtain ⟨z, hd, vs, rel, dd⟩ := dk_rd I.hok e
   refine wpAny_notIn_of (kV_is ry) hd dd.mapOf ?_
   rw [← (rel.val k).isSome_eq, ← l]
   exact h _ (I.tok _)
 · subst ey
   cases (show u = Value.ref b from ry)
   obtain ⟨z, hd, xs, rel, dd⟩ := dt_rd I.hok e
   refine wpAny_notIn_heap (tupleKind_room_in1 hu) (key_of I.hok eb) hd dd ?_
   have q := (rel.val k).isSome_eq
   rw [Option.isSome_map] at q
   rw [← q, ← l]
   exact h _ (I.tok _)
theorem d_write {h' : Heap} {t' : Nat} {ob : HO} (I : Inv X pins σ H s) (mu : Mut (H a)) (hs : Heap.SameBut a s.heap h') (he : ∃ q, h'.get? a = some q) (new : ObjOk X.prog X.w (upd H a ob) h' a ob) :
   Inv X pins σ (upd H a ob) { s with heap := h', toks := t' } :=
 I.write (x := a) (e := a) mu (.inl rfl) (fun b q hb z => (hs.2 b hb).trans z) he new
theorem dk_new {P : Program} {w : World} {H' : Hp} {h' : Heap} {kvs : List (Key × V)} {vs : List (Key × Value)} (z : kvs.length ≤ sizeLine) (hd : (a == sysModules) = false) (rel : KV kvs vs) (dd : h'.DictOf (mixKind P w) a vs) :
   ObjOk P w H' h' a (.dK kvs) := ⟨z, hd, vs, rel, dd⟩
theorem d_setItem {H' : Hp} {Q : Unit → Shared → Prop} (hu : A.units + 1 < cLine) (I : Inv X pins σ H s) (g : DPut H a y v H') (ry : RelV y u) (rv : RelV v r) (h : ∀ s', Inv X pins σ H' s' → Q () s') :
   wpAny (model X.prog X.w) A (setItem (.ref a) u r) Q E s := by
 rcases g with ⟨kvs, k, e, ey, l, eH⟩ | ⟨kvs, k, b, e, ey, eb, l, eH⟩
 · subst ey eH
   obtain ⟨z, hd, vs, rel, dd⟩ := dk_of I.hok e
   have hz : vs.length ≤ sizeLine := by rw [← rel.length]; exact z
   have hl : (putK kvs k v).length ≤ sizeLine := by have := length_putK kvs k v; omega
   refine wpAny_setItem_pairs (hsz := hz) (kV_is ry) dd fun h' dd' hs => h _ ?_
   have he : ∃ q, h'.get? a = some q := let ⟨q, _, _, hq, _⟩ := dd'; ⟨q, hq⟩
   exact d_write I (by rw [e]; exact True.intro) hs he (dk_new hl hd (rel.put k rv) dd')
 · subst ey eH
   cases (show u = Value.ref b from ry)
   obtain ⟨z, hd, xs, rel, dd⟩ := dt_of I.hok e
   have hz : xs.length ≤ sizeLine := by rw [← Paired.length rel]; exact z
   have hl : (putK kvs k v).length ≤ sizeLine := by have := length_putK kvs k v; omega
   refine wpAny_setItem_heap (hsz := hz) (tupleKind_room_in1 hu) (key_of I.hok eb) dd fun h' dd' hs => h _ ?_
   obtain ⟨q, es, ep, hq, h2, h3, h4, _, h5⟩ := dd'
   refine d_write I (by rw [e]; exact True.intro) hs ⟨q, hq⟩ ⟨hl, hd, _, (rel.put k eb rv).keeps fun c ys ec => ?_, q, es, ep, hq, h2, h3, h4, h5⟩
   rw [upd_ne (ne_of ec e (fun z => nomatch z))]
   exact ec
end
section
variable {X : Cx} {pins : List (Addr × Obj)} {σ : St} {H : Hp} {s : Shared} {a : Addr} {kvs : List (Key × V)} {k : Key} {u : Value} {A : Around} {E : Value → Shared → Prop}
theorem d_pop {v : V} {more : List Value} {Q : Value → Shared → Prop} (I : Inv X pins σ H s) (e : H a = some (.dK kvs)) (ry : RelV (kV k) u) (l : valV kvs k = some v) (hm : more = [] ∨ ∃ x, more = [x])
   (h : ∀ w' s', Inv X pins σ (upd H a (.dK (dropK kvs k))) s' → RelV v w' → Q w' s') : wpAny (model X.prog X.w) A (call (.builtin "dict.pop") (.ref a :: u :: more)) Q E s := by
 obtain ⟨z, hd, vs, rel, dd⟩ := dk_of I.hok e
 obtain ⟨w', hw, rw'⟩ := RelO.some_of (v := v) (o := valueAt vs k) (by rw [← l]; exact rel.val k)
 have hp : (keyPart u).isSome = true := by
   cases k with
   | inl i => obtain ⟨t, q⟩ := (show ∃ t, u = Value.int i t from ry); subst q; rfl
   | inr x => obtain ⟨t, q⟩ := (show ∃ t, u = Value.str x t from ry); subst q; rfl
 have ha : argsOk "dict.pop" ⟨.ref a :: u :: more, []⟩ := by
   rcases hm with q | ⟨x, q⟩
   · subst q; exact PySem.F.args_dict_pop_2 _ _
   · subst q; exact PySem.F.args_dict_pop_3 _ _ _
 refine call_meetsIn PySem.F.slot_dict_pop dd.typeIs PySem.F.entry_dict_pop ha (meets_dict_pop_there (mixKind X.prog X.w) a (kV_is ry) more hm hp)
   ⟨vs, w', dd, by rw [← rel.length]; exact z, hw, fun h' dd' hs => h w' _ ?_ rw'⟩
 have he : ∃ q, h'.get? a = some q := let ⟨q, _, _, hq, _⟩ := dd'; ⟨q, hq⟩
 exact d_write I (by rw [e]; exact True.intro) hs he (dk_new (Nat.le_trans (dropK_le kvs k) z) hd (rel.drop k) dd')
end
def NoSl (i : Expr) : Prop := ∀ ov iv, subscripted i false ov iv = operate [ov, iv] (getItem ov iv)
theorem subD_of {prog : Program} {w : World} {A : Around} {E : Value → Shared → Prop} {s : Shared} {env : Env} {value slice : Expr} {pos : Pos} {T id : String} {Q : Value → Shared → Prop}
   (hl : typeLookup (.type T) "__getitem__" = pure (some (.builtin id))) (hs : NoSl slice)
   (h : wpAny (model prog w) A (eval value env) (fun o s₁ => wpAny (model prog w) A (eval slice env) (fun i s₂ => s₂.TypeIs o T ∧ wpAny (model prog w) A (getItem o i) Q E s₂) E s₁) E s) :
   wpAny (model prog w) A (eval (.Subscript value slice pos) env) Q E s := by
 refine Subscript_ (wpAny_mono h (fun o s₁ h₁ => wpAny_mono h₁ (fun i s₂ h₂ => ?_) fun _ _ x => x) fun _ _ x => x)
 obtain ⟨hT, h₂⟩ := h₂
 unfold subscriptTail
 refine wpAny_bind ?_
 rw [getitemInPython_of_ne hT.not_modules]
 refine wpAny_bind (wpAny_specialOf hT hl ?_)
 have fin : wpAny (model prog w) A (subscripted slice false o i) (fun r s₃ => wpAny (model prog w) A (letTemporaryGo value o r >>= fun _ => pure r) Q E s₃) E s₂ := by
   rw [hs o i]
   exact wpAny_operating (wpAny_mono h₂ (fun r s₃ h₃ => wpAny_bind (wpAny_letTemporaryGo (wpAny_pure h₃))) fun _ _ x => x)
 first
   | exact wpAny_pure (wpAny_bind fin)
   | exact wpAny_bind (wpAny_pure (wpAny_bind fin))
   | exact wpAny_bind fin
theorem dict_typeIs {X : Cx} {pins : List (Addr × Obj)} {σ : St} {H : Hp} {s : Shared} {a : Addr} {y : V} {o : Option V} (I : Inv X pins σ H s) (g : DGet H a y o) : s.TypeIs (.ref a) "dict" := by
 rcases g with ⟨kvs, k, e, _, _⟩ | ⟨kvs, k, b, e, _, _, _⟩
 · obtain ⟨_, _, vs, _, dd⟩ := dk_rd I.hok e
   exact dd.typeIs
 · obtain ⟨_, _, xs, _, dd⟩ := dt_rd I.hok e
   exact dd.typeIs
def tDGet (td ty : TE) : TE := fun σ H Q => td σ H fun x H1 => ty σ H1 fun y H2 => ∃ a v, x = .ref a ∧ DGet H2 a y (some v) ∧ Q v H2
def tDIn (ty td : TE) : TE := fun σ H Q => ty σ H fun y H1 => td σ H1 fun x H2 => ∃ a o, x = .ref a ∧ DGet H2 a y o ∧ Q (.bl o.isSome) H2
def tDNotIn (ty td : TE) : TE := fun σ H Q => ty σ H fun y H1 => td σ H1 fun x H2 => ∃ a o, x = .ref a ∧ DGet H2 a y o ∧ Q (.bl (!o.isSome)) H2
def sDPut (td ty tv : TE) : TS := fun D σ H => tv σ H fun v H1 => td σ H1 fun x H2 => ty σ H2 fun y H3 => ∃ a H4, x = .ref a ∧ DPut H3 a y v H4 ∧ D.nx σ H4
section
variable {X : Cx} {o i e value : Expr} {pos pos' tpos : Pos} {td ty tv : TE}
theorem pe_dget (hu : X.A.units + 1 < cLine) (ho : PE X o td) (hi : PE X i ty) (hs : NoSl i) : PE X (.Subscript o i pos) (tDGet td ty) := by
 intro pins s σ H Q I h
 refine subD_of PySem.F.slot_dict_getitem.lookup hs (thn (ho pins s σ H _ I h) fun u s1 ⟨x, H1, I1, rx, q1⟩ => thn (hi pins s1 σ H1 _ I1 q1) fun iv s2 ⟨y, H2, I2, ry, a, v, ex, g, q2⟩ => ?_)
 subst ex
 obtain rfl : u = Value.ref a := rx
 exact ⟨dict_typeIs I2 g, d_getItem hu I2 g ry fun w' s3 I3 rw' => ⟨v, H2, I3, rw', q2⟩⟩
theorem pc_din (hu : X.A.units + 1 < cLine) (hi : PE X i ty) (ho : PE X o td) : PC X .In i o (tDIn ty td) := by
 intro pins s σ H Q I h
 refine thn (hi pins s σ H _ I h) fun iv s1 ⟨y, H1, I1, ry, q1⟩ => thn (ho pins s1 σ H1 _ I1 q1) fun u s2 ⟨x, H2, I2, rx, a, ov, ex, g, q2⟩ => ?_
 subst ex
 obtain rfl : u = Value.ref a := rx
 exact d_in hu I2 g ry fun s3 I3 => ⟨.bl ov.isSome, H2, I3, rfl, q2⟩
theorem pc_dnotin (hu : X.A.units + 1 < cLine) (hi : PE X i ty) (ho : PE X o td) : PC X .NotIn i o (tDNotIn ty td) := by
 intro pins s σ H Q I h
 refine thn (hi pins s σ H _ I h) fun iv s1 ⟨y, H1, I1, ry, q1⟩ => thn (ho pins s1 σ H1 _ I1 q1) fun u s2 ⟨x, H2, I2, rx, a, ov, ex, g, q2⟩ => ?_
 subst ex
 obtain rfl : u = Value.ref a := rx
 exact d_notIn hu I2 g ry fun s3 I3 => ⟨.bl (!ov.isSome), H2, I3, rfl, q2⟩
theorem ps_dput (hu : X.A.units + 1 < cLine) (ho : PE X o td) (hi : PE X i ty) (hv : PE X value tv) (hs : swapsWith value (some (.Subscript o i pos')) pos.line X.env = pure false) :
   PS X (.Assign [.Subscript o i pos'] value pos) (sDPut td ty tv) := by
 intro pins s σ H D I h
 refine wpAny_Assign_Subscript (thn (hv pins s σ H _ I h) fun r s1 ⟨v, H1, I1, rv, q1⟩ => thn (ho pins s1 σ H1 _ I1 q1) fun u s2 ⟨x, H2, I2, rx, q2⟩ => thn (hi pins s2 σ H2 _ I2 q2) fun iv s3 ⟨y, H3, I3, ry, a, H4, ex, g, q3⟩ => ?_) hs
 subst ex
 obtain rfl : u = Value.ref a := rx
 exact d_setItem hu I3 g ry rv fun s4 I4 => ⟨σ, H4, I4, q3⟩
end
theorem dk_empty {P : Program} {w : World} {H : Hp} (h : Heap) (hb : sysModules < h.objs.size) : ObjOk P w H (h.push { cls := .type "dict", data := .dict #[] }) h.objs.size (.dK []) :=
 ⟨Nat.zero_le _, beq_eq_false_iff_ne.mpr (Ne.symm (Nat.ne_of_lt hb)), [], .nil, Heap.DictOf.new h⟩
def tDNewK : TE := fun _ H Q => ∀ p, H p = none → Q (.ref p) (upd H p (.dK []))
section
variable {X : Cx} {pos : Pos}
theorem pe_dnewK : PE X (.Dict [] [] pos) tDNewK := fun pins s σ H Q I h =>
 wpAny_Dict_empty ⟨.ref s.heap.objs.size, _, I.laid (a := s.heap.objs.size) (o := .dK []) (t' := s.toks) (fun _ _ q => Heap.get?_push_of_some _ q) (Nat.le_refl _) (dk_empty s.heap I.big), rfl, h _ (I.hok.fresh (Nat.le_refl _))⟩
end
structure M1 (X : Cx) (o : Expr) (m : Str) (apos : Pos) (e : Expr) (cpos : Pos) : Prop where
 base : attributeBase o m X.env (eval o X.env) = eval o X.env
 few : ((backTo cpos (starEach [e] X.env)).all (fun x => !x.1) && (backToKw cpos (keywordEach [] X.env)).all (fun x => x.1.isSome)
   && decide (([e] : List Expr).length + ([] : List Keyword).length + (if ([] : List Keyword).isEmpty then 0 else 1) < 30)) = true
 line : (apos.endLine == cpos.line) = true
 trees : backTo cpos (starEach [e] X.env) = [(false, eval e X.env)]
structure M2 (X : Cx) (o : Expr) (m : Str) (apos : Pos) (e f : Expr) (cpos : Pos) : Prop where
 base : attributeBase o m X.env (eval o X.env) = eval o X.env
 few : ((backTo cpos (starEach [e, f] X.env)).all (fun x => !x.1) && (backToKw cpos (keywordEach [] X.env)).all (fun x => x.1.isSome)
   && decide (([e, f] : List Expr).length + ([] : List Keyword).length + (if ([] : List Keyword).isEmpty then 0 else 1) < 30)) = true
 line : (apos.endLine == cpos.line) = true
 trees : backTo cpos (starEach [e, f] X.env) = [(false, eval e X.env), (false, eval f X.env)]
def IsD (H : Hp) (a : Addr) : Prop := (∃ kvs, Rd H a (.dK kvs)) ∨ ∃ kvs, Rd H a (.dT kvs)
theorem isD_at {X : Cx} {pins : List (Addr × Obj)} {σ : St} {H : Hp} {s : Shared} {a : Addr} (I : Inv X pins σ H s) (d : IsD H a) :
   s.TypeIs (.ref a) "dict" ∧ (∀ b, Value.ref a = .ref b → ∃ ob, s.heap.get? b = some ob ∧ ob.dict = none) ∧ (a == sysModules) = false := by
 rcases d with ⟨kvs, e⟩ | ⟨kvs, e⟩
 · obtain ⟨_, hd, vs, _, dd⟩ := dk_rd I.hok e
   refine ⟨dd.typeIs, fun b q => ?_, hd⟩
   cases q
   obtain ⟨ob, _, _, h1, h2, _⟩ := dd
   exact ⟨ob, h1, h2.2.1⟩
 · obtain ⟨_, hd, xs, _, dd⟩ := dt_rd I.hok e
   refine ⟨dd.typeIs, fun b q => ?_, hd⟩
   cases q
   obtain ⟨ob, _, _, h1, h2, _⟩ := dd
   exact ⟨ob, h1, h2.2.1⟩
section
variable {X : Cx} {pins : List (Addr × Obj)} {σ : St} {H : Hp} {s : Shared} {a : Addr} {y d : V} {u r : Value} {o : Option V} {A : Around} {E : Value → Shared → Prop}
end
def tDPop1 (td ty : TE) : TE := fun σ H Q => td σ H fun x H1 => ∃ a, x = .ref a ∧ IsD H1 a ∧ ty σ H1 fun y H2 => ∃ kvs k v, H2 a = some (.dK kvs) ∧ y = kV k ∧ valV kvs k = some v ∧ Q v (upd H2 a (.dK (dropK kvs k)))
section
variable {X : Cx} {o e f : Expr} {apos cpos : Pos} {td ty tx : TE}
theorem pe_dpop1 (ho : PE X o td) (he : PE X e ty) (m : M1 X o "pop" apos e cpos) : PE X (.Call (.Attribute o "pop" apos) [e] [] cpos) (tDPop1 td ty) := by
 intro pins s σ H Q I h
 refine wpAny_Call_method m.base m.few m.line PySem.F.plainAttrs_dict PySem.F.slot_dict_pop PySem.F.type_dict_pop (thn (ho pins s σ H _ I h) fun u s1 ⟨x, H1, I1, rx, a, ex, d, q1⟩ => ?_)
 subst ex
 obtain rfl : u = Value.ref a := rx
 obtain ⟨t1, t2, _⟩ := isD_at I1 d
 refine ⟨t1, t2, ?_⟩
 rw [m.trees]
 refine Calls.callWith_builtin rfl (Calls.evalArgs_plain (Calls.spliced_cons (thn (he pins s1 σ H1 _ I1 q1) fun iv s2 ⟨y, H2, I2, ry, kvs, k, v, ea, ey, l, q2⟩ => Calls.spliced_nil ?_)))
 subst ey
 exact d_pop I2 ea ry l (.inl rfl) fun w' s3 I3 rw' => ⟨v, _, I3, rw', q2⟩
end
section
variable {X : Cx} {pins : List (Addr × Obj)} {σ : St} {H : Hp} {s : Shared} {a : Addr} {kvs : List (Key × V)} {A : Around} {E : Value → Shared → Prop}
end
section
variable {X : Cx} {pins : List (Addr × Obj)} {σ : St} {H : Hp} {s : Shared} {a : Addr} {y : V} {u : Value} {A : Around} {E : Value → Shared → Prop}
end
end L2
namespace Att
open PySem PySem.W PySem.Calls PyProof.Rows
theorem ints_of_wellAll {P : Params} {h : Heap} : ∀ (ns : List Int) (vs : List Value), WellAll P h vs (ns.map WData.int) → IntsAre vs ns := by
 intro ns
 induction ns with
 | nil =>
   intro vs w
   rw [List.map_nil] at w
   cases w
   exact .nil
 | cons n ns ih =>
   intro vs w
   rw [List.map_cons] at w
   cases w with
   | cons a b =>
     cases a
     exact .cons _ _ (ih _ b)
theorem script_of {l : OpenLaw} {n : Nat} (hn : l.most = some n) {P : Params} {h : Heap} {args : List WData} {vals : List Value}
   (hpre : l.row.toRowW.claim.pre args = true) (hwl : WellAll P h vals args) :
   ∃ a vs ns, vals = [Value.ref a] ∧ args = [WData.list (ns.map WData.int)] ∧ h.get? a = some { cls := .type "list", data := .seq vs.toArray } ∧ IntsAre vs ns ∧ ns.length ≤ n := by
 have hsh : WShape.hasAll [] args [.list .int] = true := (pre_splitW hpre).1
 have hc : l.pre.holds [] { args := args } = true := (pre_splitW hpre).2
 obtain ⟨d, r, rfl, h1, h2⟩ := hasAllW_cons hsh
 obtain rfl := hasAllW_nil h2
 obtain ⟨xs, rfl, h3⟩ := hasW_list h1
 obtain ⟨ns, rfl⟩ := items_int h3
 have hlen : ns.length ≤ n := by
   unfold OpenLaw.pre at hc
   have h4 : (WTm.not (.lt (.lit (.int (n : Int))) (.len (.arg 0)))).holds [] { args := [.list (ns.map .int)] } = true := by
     have h4 := (holds_andW hc).1
     rw [hn] at h4
     exact h4
   have h5 := condW_of h4 (w_not (w_lt w_lit (w_len_list (w_arg rfl))))
   rw [List.length_map] at h5
   refine Nat.le_of_not_lt fun q => ?_
   have q' : (n : Int) < ((ns.length : Nat) : Int) := by omega
   first
     | (rw [decide_eq_true q'] at h5; exact absurd h5 (by decide))
     | (simp at h5; omega)
 cases hwl with
 | cons w1 w2 =>
   cases w2
   cases w1 with
   | list ho hall => exact ⟨_, _, ns, rfl, rfl, ho, ints_of_wellAll ns _ hall, hlen⟩
theorem post_true (l : OpenLaw) (args : List WData) : l.row.toRowW.claim.post args (.bool true) args = true :=
 postW_of (r := l.row.toRowW) (X := (true == true))
   (show WShape.has [] (.bool true) .bool = true by first | rfl | decide | simp [WShape.has, WShape.arms, WShape.armsAll])
   (show (WTm.eq .res (.lit (.bool true))).value [] { args := args, res := some (.bool true), after := args } = some (.bool (true == true)) from w_eq_bool (w_res rfl) w_lit) rfl
theorem attach_call {l : OpenLaw} {n : Nat} {q : Program} {loose : List Str} {XP : (Str → Option Value) → Heap → Prop} {YP : World → Heap → Prop} {d : DefRec}
   (hn : l.most = some n) (hdf : d.params.defaults = [])
   (call : ∀ (w : World) (s₀ s₁ : Shared) (mg mb : Str → Option Value) (fa : Addr) (o : Obj) (pm cd doc : Value) (a : Addr) (vs : List Value) (ns : List Int),
     Ground q loose [] XP w s₀ mg mb s₁.heap → YP w s₁.heap →
     s₁.heap.get? fa = some o → o.data = .func (docDef d.name d.params d.body d.scope pm cd doc) → s₁.heap.CodeRec cd d.name → mg d.name = some (.ref fa) →
     s₁.heap.get? a = some { cls := .type "list", data := .seq vs.toArray } → IntsAre vs ns → ns.length ≤ n → s₁.gens = #[] →
     codeAny (model l.prog w) callerA (.call (.ref fa) ⟨[.ref a], []⟩) (fun r s' => r = .ok (.ret (.bool true)) ∧ OldK s₁.heap s'.heap ∧ s'.os = s₁.os ∧ AllBare s'.gens) s₁) :
   WalkO q loose XP YP l.row.toRowW d [] (fun f vs => PySem.call f vs) := by
 intro w s₀ s₁ mg mb G Y fa o pm cd doc dV kV ho hd hcd hD hmg hg args vals as hpre hlay hrd hwl hlo
 obtain rfl : dV = .none := Dflts.none hD hdf
 obtain rfl : kV = .none := Dflts.noKw hD
 obtain ⟨a, vs, ns, rfl, rfl, hobj, hints, hlen⟩ := script_of hn hpre hwl
 refine enter_call (codeAny_mono (call w s₀ s₁ mg mb fa o pm cd doc a vs ns G Y ho (fd_plain hd) hcd hmg hobj hints hlen hg) fun r s' hq => ?_)
 obtain ⟨rfl, h2, h3, h4⟩ := hq
 exact ⟨.inl ⟨.bool true, .bool true, [], rfl, fun _ => rfl, .bool true, post_true l _, fun _ => ⟨List.Pairwise.nil, fun _ hm => (nomatch hm)⟩⟩, h2, h3, h4⟩
section
variable {prog : Program} {w : World} {A : Around} {E : Value → Shared → Prop} {s : Shared} {K : Frag}
end
end Att
namespace L2
open PySem PySem.Spec PyProof.Rows
theorem vals_ints : ∀ {vs : List Value} {ns : List Int}, IntsAre vs ns → Vals (ns.map V.int) vs
 | _, _, .nil => .nil
 | _, _, .cons n t h => .cons ⟨t, rfl⟩ (vals_ints h)
def Only (H : Hp) : Prop := ∀ b, H b = none ∨ ∃ o xs, H b = some (.frz o (.lst xs))
theorem law_call {P : Program} {w : World} {K : PySem.W.Frag} {mg mb : Str → Option Value} {CX : CXT} {k : Nat} {fa a : Addr} {fd : FuncData} {x : Str} {sp : Sp} {s₁ : Shared} {vs : List Value} {ns : List Int}
   (KX : K.In s₁.heap) (hns : s₁.heap.Ns mainGlobals mg) (hb : s₁.heap.Ns builtinsNs mb) (hbb : ∀ x : Str, x ≠ "__name__" → mb x = bootBuiltins x) (hlim : s₁.heap.NoLimit) (hg : s₁.gens = #[])
   (ha : s₁.heap.get? a = some { cls := .type "list", data := .seq vs.toArray }) (hi : IntsAre vs ns) (hl : ns.length ≤ sizeLine) (hr : Room true k callerA)
   (F : ∀ base : Heap, K.In base → base.Ns mainGlobals mg → FnOk P w K mg base CX true k fa fd [x] sp) (hbind : ∀ (s : Shared) (u : Value), BindsTo s fd ⟨[u], []⟩ [(x, u)])
   (hsp : ∀ H : Hp, Only H → SqL K H a (ns.map V.int) → sp [.ref a] H (fun v _ => v = .bl true) fun _ _ _ => False)
   (hCX : ∀ H e s', CX [] H s₁ (fun _ _ _ => False) e s' → False) :
   codeAny (model P w) callerA (.call (.ref fa) ⟨[.ref a], []⟩) (fun r s' => r = .ok (.ret (.bool true)) ∧ OldK s₁.heap s'.heap ∧ s'.os = s₁.os ∧ AllBare s'.gens) s₁ := by
 have rv := vals_ints hi
 have lenV := hi.length
 -- from an abstract heap in which nothing but the script may be tracked
 have core : ∀ H : Hp, Only H → SqL K H a (ns.map V.int) → HOk P w H s₁.heap → (∀ b, H b ≠ none → b = a) → (H a ≠ none → K.lookup a = none) →
     codeAny (model P w) callerA (.call (.ref fa) ⟨[.ref a], []⟩) (fun r s' => r = .ok (.ret (.bool true)) ∧ OldK s₁.heap s'.heap ∧ s'.os = s₁.os ∧ AllBare s'.gens) s₁ := by
   intro H hO hS hok hA hK
   have base_of : ∀ {b : Addr} {o : Obj}, s₁.heap.get? b = some o → H b = none → (hidT s₁.heap H).get? b = some o := fun e n => hidT_get e n
   have noA : ∀ {b : Addr} {o : Obj} {es : Array DictEntry} {ep : Nat}, s₁.heap.get? b = some o → o.data = .dict es ep → H b = none := fun {b o es ep} e d => by
     cases q : H b with
     | none => rfl
     | some u =>
       have e' : b = a := hA b (by rw [q]; simp)
       subst e'
       rw [ha] at e; cases e
       have d' : Data.seq vs.toArray _ = Data.dict es ep := d
       cases d'
   have nsK : ∀ {b : Addr} {m : Str → Option Value}, s₁.heap.Ns b m → (hidT s₁.heap H).Ns b m := fun {b m} ⟨o, es, ep, e, d, r⟩ => ⟨o, es, ep, base_of e (noA e d), d, r⟩
   have hKb : K.In (hidT s₁.heap H) := fun b o e => base_of (KX b o e) (by
     cases q : H b with
     | none => rfl
     | some u =>
       have e' : b = a := hA b (by rw [q]; simp)
       subst e'
       rw [hK (by rw [q]; simp)] at e; cases e)
   have hM : Mod K mg (hidT s₁.heap H) := ⟨hKb, nsK hns, ⟨mb, nsK hb, hbb⟩, let ⟨mc, h1, h2⟩ := hlim; ⟨mc, nsK h1, h2⟩⟩
   have e0 : Env0 P w K mg (hidT s₁.heap H) callerA [] s₁ H := ⟨rfl, hM, fun b o e => of_hidT e, Nat.le_of_eq (hidT_size _ _), trivial, fun b hb => absurd (show b ∈ ([] : List Addr) from hb) (by simp), hok, .of_eq hg⟩
   refine codeAny_mono ((F _ hKb (nsK hns)).run callerA [] s₁ H ⟨[.ref a], []⟩ [.ref a] [.ref a] _ _ hr e0 (hbind s₁ (.ref a)) (.cons rfl .nil) (hsp H hO hS)) fun r s' h => ?_
   cases r with
   | error e => exact (hCX H e s' h).elim
   | ok fl =>
     cases fl with
     | next => exact False.elim h
     | brk => exact False.elim h
     | cont => exact False.elim h
     | ret u =>
       obtain ⟨v, H', os, bare, un, hok', r', q⟩ := h
       have q' : v = .bl true := q
       subst q'
       obtain rfl : u = Value.bool true := r'
       refine ⟨rfl, OldK.of_keep fun b o e => ?_, os, bare⟩
       cases q : H b with
       | none => exact un.keep b o e q (by intro z; exact absurd (show b ∈ ([] : List Addr) from z) (by simp)) (by simp)
       | some u =>
         rcases hO b with z | ⟨ob, xs, z⟩
         · rw [q] at z; cases z
         · have z2 := un.frzs b ob _ z
           obtain ⟨e1, _⟩ := hok b _ z
           obtain ⟨e2, _⟩ := hok' b _ z2
           rw [e] at e1; cases e1
           exact e2
 cases hk : K.lookup a with
 | some o =>
   -- the script is one of the module's own objects
   have e := KX a o hk
   rw [ha] at e
   cases e
   refine core (fun _ => none) (fun _ => .inl rfl) (.inr ⟨_, vs.toArray, _, hk, rfl, rfl, rfl, by rw [List.size_toArray, lenV]; exact hl, by simpa using rv⟩) (fun b u z => by have z' : (none : Option HO) = some u := z; cases z') (fun b z => absurd rfl z) fun z => absurd rfl z
 | none =>
   refine core (fun b => if b = a then some (.frz { cls := .type "list", data := .seq vs.toArray } (.lst (ns.map V.int))) else none) (fun b => ?_) (.inl (.inr ⟨{ cls := .type "list", data := .seq vs.toArray }, if_pos rfl⟩)) (fun b u z => ?_) (fun b z => ?_) fun _ => hk
   · by_cases hb : b = a
     · exact .inr ⟨_, _, if_pos hb⟩
     · exact .inl (if_neg hb)
   · by_cases hb : b = a
     · have z' := (if_pos hb).symm.trans z
       cases z'
       subst hb
       exact ⟨ha, by rw [List.length_map]; exact hl, vs, _, rv, ha⟩
     · have z' := (if_neg hb).symm.trans z
       cases z'
   · by_cases hb : b = a
     · exact hb
     · exact absurd (if_neg hb) z
end L2
namespace L2
open PySem PySem.Spec PyProof.Rows
abbrev KOf {K : PySem.W.Frag} {h : Heap} (_ : K.In h) : PySem.W.Frag := K
theorem walk_of {l : PySem.W.OpenLaw} {n k : Nat} {q : Program} {loose : List Str} {XP : (Str → Option Value) → Heap → Prop} {YP : World → Heap → Prop} {d : DefRec} {K : Params → PySem.W.Frag} {CX : World → CXT} {sp : World → Sp} {x : Str}
   (hn : l.most = some n) (hn2 : n ≤ sizeLine) (hdf : d.params.defaults = []) (hr : Room true k callerA)
   (hY : ∀ (w : World) (h : Heap), YP w h → (K w.params).In h)
   (F : ∀ (w : World) (mg : Str → Option Value) (fa : Addr) (h : Heap), (K w.params).In h → h.Ns mainGlobals mg → mg d.name = some (.ref fa) →
     ∃ fd : FuncData, (∀ (s : Shared) (u : Value), BindsTo s fd ⟨[u], []⟩ [(x, u)]) ∧
       ∀ base : Heap, (K w.params).In base → base.Ns mainGlobals mg → FnOk l.prog w (K w.params) mg base (CX w) true k fa fd [x] (sp w))
   (hsp : ∀ (w : World) (H : Hp) (a : Addr) (ns : List Int), ns.length ≤ n → Only H → SqL (K w.params) H a (ns.map V.int) → sp w [.ref a] H (fun v _ => v = .bl true) fun _ _ _ => False)
   (hCX : ∀ (w : World) (H : Hp) (s : Shared) (e : Value) (s' : Shared), CX w [] H s (fun _ _ _ => False) e s' → False) :
   PySem.W.WalkO q loose XP YP l.row.toRowW d [] (fun f vs => PySem.call f vs) := by
 refine Att.attach_call hn hdf fun w s₀ s₁ mg mb fa o pm cd doc a vs ns G Y ho hd hcd hmg hobj hints hlen hg => ?_
 have KX := hY w _ Y
 obtain ⟨fd, hb, hF⟩ := F w mg fa _ KX G.T.g hmg
 exact law_call KX G.T.g G.T.b G.T.builtins G.T.nolimit hg hobj hints (Nat.le_trans hlen hn2) hr hF hb (fun H hO hS => hsp w H a ns hlen hO hS) fun H e s' => hCX w H s₁ e s'
end L2
/- THE LAST THEOREM (shape; LID, My.* are yours):
  My.Adr: a structure of the addresses that your layer names (classes, functions); My.Txt K t: a structure (Prop) of the equations over K;
  My.txt_mk : {K} {implicit addresses ..} (e1 : nsIn K mainGlobals "law" = some (some (.ref f))) (e2 : K.lookup f = some ⟨oc, od, .func (fnOf "law" "law" params body scope dV kV doc pm an cdv ct), sl⟩) (e3 : codeIn K cdv "law" = true) .. : ∃ t, My.Txt K t
set_option maxRecDepth 100000 in
set_option maxHeartbeats 0 in
theorem PySem.Challenge.cw_LID_holds : PySem.Challenge.rw_LID.Holds := by
 w_on; o_law; k_head; (case hw => w_witness2)
 k_fill
 refine L2.walk_of (l := PySem.Challenge.rw_LID) (n := 63) (k := 40) (x := "script") (CX := fun w => ..) (sp := fun _ => My.sp_law) rfl (by decide) rfl ⟨rfl, by decide, by decide⟩ (fun w h Y => PySem.W.kIn_of Y) ?F ?S ?C
 case F =>
   intro w mg fa h KX G hmg
   have T : ∃ t, My.Txt (L2.KOf KX) t := by
     dsimp only [L2.KOf]                          -- K must stand as «<heap const> w.params» for k_is
     refine' My.txt_mk ?e1 ?e2 ?e3 ..
     (case e1 => PySem.W.k_is)                    -- in the order: a name -> its address -> its object -> its parts
     (case e2 => PySem.W.k_is)
     ..
   obtain ⟨t, T⟩ := T
   have e0 := hmg.symm.trans (PySem.W.mg_of KX G T.law)
   cases e0                                       -- fa is the law's own address
   exact ⟨_, fun s u => .of_eq rfl, fun base kb nb => My.law_fn T kb nb⟩     -- if «.of_eq rfl» comes too early: refine' ⟨_, ?b, fun base kb nb => My.law_fn T kb nb⟩; exact fun s u => .of_eq rfl
 case S => exact fun w H a ns hl hO hS => ..
 case C => exact ..
(the tactic k_is has no namespace: write k_is) -/
namespace L2
open PySem PySem.Spec PyProof.Rows
def inClass (s : Stmt) (j : Nat) : Stmt := match s with
 | .ClassDef _ _ _ body _ _ _ _ _ _ _ => body.getD j (.Pass ⟨0, 0, 0, 0⟩)
 | _ => .Pass ⟨0, 0, 0, 0⟩
def defArgs (s : Stmt) : Arguments := match s with
 | .FunctionDef _ a _ _ _ _ _ _ _ _ => a
 | _ => { posonlyargs := [], args := [], vararg := none, kwonlyargs := [], kw_defaults := [], kwarg := none, defaults := [] }
def defBody (s : Stmt) : List Stmt := match s with
 | .FunctionDef _ _ b _ _ _ _ _ _ _ => b
 | _ => []
def defScope (s : Stmt) : Scope := match s with
 | .FunctionDef _ _ _ _ _ _ sc _ _ _ => sc
 | _ => { kind := .function, names := [], isGenerator := false, isCoroutine := false }
abbrev CX0 : CXT := fun _ _ _ _ _ _ => False
abbrev E0 : XK := fun _ _ _ => False
theorem pass0 {X : Cx} : Passes CX0 X E0 := fun _ _ _ _ _ _ _ h => h.elim
structure Fun (K : PySem.W.Frag) (x qual : Str) (st : Stmt) (f : Addr) (fd : FuncData) : Prop where
 ex : ∃ (oc : Value) (od : Option Addr) (kV doc pm : Value) (an : Option Addr) (cdv ct : Value) (osl : Array (Option Value)),
   fd = PySem.W.fnOf x qual (defArgs st) (defBody st) (defScope st) .none kV doc pm an cdv ct ∧ K.lookup f = some ⟨oc, od, .func fd, osl⟩ ∧ PySem.W.codeIn K cdv qual = true
 kp : PySem.W.keepIn K (.ref f) = true
section
variable {P : Program} {w : World} {K : PySem.W.Frag} {mg : Str → Option Value} {base : Heap}
theorem Fun.ok {x qual : Str} {st : Stmt} {f : Addr} {fd : FuncData} {N ps : List Str} {k : Nat} {sp : Sp} (F : Fun K x qual st f fd) (S : FnScope N ps (defScope st)) (len : ∀ vs H Q E, sp vs H Q E → vs.length = ps.length)
   (hbody : ∀ (cdv : Value) (A : Around) (outer : List Env) (s : Shared) (H : Hp) (vs : List V) (Q : VK) (E : XK), Room cm k (A.deeper (envOfC qual (defScope st) s.heap.objs.size f cdv)) → sp vs H Q E →
     ∃ t, PSs (cxOf CX0 cm P w K mg base N qual (defScope st) f cdv A outer s H E).nox (defBody st) t ∧ t { nx := fun _ H' => Q .non H', rt := Q } (start N vs) H) : FnOk P w K mg base CX0 cm (k + 1) f fd ps sp := by
 obtain ⟨oc, od, kV, doc, pm, an, cdv, ct, osl, rfl, lk, hcd⟩ := F.ex
 refine fn_of lk hcd S len fun A outer s H vs Q E hr hsp => ?_
 obtain ⟨t, h, q⟩ := hbody cdv A outer s H vs Q E hr hsp
 exact ⟨t, h.nox, q⟩
theorem Fun.binds {x qual : Str} {st : Stmt} {f : Addr} {fd : FuncData} {ps : List Str} (F : Fun K x qual st f fd)
   (h : ∀ (kV doc pm : Value) (an : Option Addr) (cdv ct : Value) (us : List Value), us.length = ps.length → bindArgs (PySem.W.fnOf x qual (defArgs st) (defBody st) (defScope st) .none kV doc pm an cdv ct) ⟨us, []⟩ = pure (ps.zip us)) : Binds K fd ps [] := by
 obtain ⟨oc, od, kV, doc, pm, an, cdv, ct, osl, rfl, lk, hcd⟩ := F.ex
 exact .all (h kV doc pm an cdv ct)
end
theorem hu_of {cm : Bool} {A : Around} {k : Nat} (hr : Room cm k A) : A.units + 1 < cLine := Nat.lt_of_le_of_lt (Nat.add_le_add_left (by decide : 1 ≤ 64) _) hr.units
section
variable {X : Cx}
theorem pv (i : Nat) {x : Str} {pos : Pos} (hN : X.N[i]? = some x := by rfl) (hv : Vis X.env.scope x := by first | exact Or.inl rfl | exact Or.inr (Or.inl rfl) | exact Or.inr (Or.inr rfl)) (hd : (x == ("__debug__" : Str)) = false := by decide)
   (hcd : (x == ("__classdict__" : Str)) = false := by decide) : PE X (.Name x pos) (tVar i) := pe_var hN hv hd hcd
end
theorem iteF {A B : Prop} (h : B) : if false = true then A else B := by
 rw [if_neg Bool.false_ne_true]
 exact h
theorem iteT {A B : Prop} (h : A) : if true = true then A else B := by
 rw [if_pos rfl]
 exact h
def Same (H H' : Hp) : Prop := ∀ b o, H b = some o → H' b = some o
theorem Same.refl (H : Hp) : Same H H := fun _ _ h => h
theorem Same.trans {H H1 H2 : Hp} (a : Same H H1) (b : Same H1 H2) : Same H H2 := fun c o h => b c o (a c o h)
theorem Same.free {H H' : Hp} (e : Same H H') {l : Addr} (h : H' l = Option.none) : H l = Option.none := by
 cases q : H l with
 | none => rfl
 | some o =>
   rw [e l o q] at h
   cases h
theorem Same.seq {K : PySem.W.Frag} {H H' : Hp} {a : Addr} {xs : List V} (e : Same H H') (h : SqL K H a xs) : SqL K H' a xs := by
 rcases h with (h | ⟨o, h⟩) | h
 · exact .inl (.inl (e _ _ h))
 · exact .inl (.inr ⟨o, e _ _ h⟩)
 · exact .inr h
section
variable {κ : Type} [DecidableEq κ]
end
end L2
namespace L3
open PySem
def Rec (h : Heap) (x : Addr) (C : Value) (dx : Option Addr) (tb : Value) : Prop :=
 ∃ oe vs, h.get? x = some oe ∧ oe.cls = C ∧ oe.dict = dx ∧ oe.data = .fields vs ∧ vs[1]? = some tb
def Tra (h : Heap) (T : Addr) (fl : Value) : Prop := ∃ oT ts, h.get? T = some oT ∧ oT.data = .fields ts ∧ ts[3]? = some fl
theorem dict_mapFields (o : Obj) (f) : (o.mapFields f).dict = o.dict := by
 obtain ⟨c, d, dt, sl⟩ := o
 cases dt <;> rfl
structure Aft (S ch : List Addr) (h h' : Heap) : Prop where
 keep : ∀ b o, b ∉ S → b ∉ ch → h.get? b = some o → h'.get? b = some o
 slot : ∀ b o, b ∉ ch → h.get? b = some o → ∃ sl, h'.get? b = some { o with slots := sl }
 size : h.objs.size ≤ h'.objs.size
theorem Aft.refl (S ch : List Addr) (h : Heap) : Aft S ch h h := ⟨fun _ _ _ _ e => e, fun _ o _ e => ⟨o.slots, e⟩, Nat.le_refl _⟩
theorem Aft.trans {S ch : List Addr} {h1 h2 h3 : Heap} (a : Aft S ch h1 h2) (b : Aft S ch h2 h3) : Aft S ch h1 h3 where
 keep := fun c o hs hc e => b.keep c o hs hc (a.keep c o hs hc e)
 slot := fun c o hc e => by
   obtain ⟨s1, e1⟩ := a.slot c o hc e
   obtain ⟨s2, e2⟩ := b.slot c _ hc e1
   exact ⟨s2, e2⟩
 size := Nat.le_trans a.size b.size
theorem Aft.mono {S S' ch ch' : List Addr} {h h' : Heap} (a : Aft S ch h h') (hs : ∀ b, b ∈ S → b ∈ S') (hc : ∀ b, b ∈ ch → b ∈ ch') : Aft S' ch' h h' :=
 ⟨fun b o z1 z2 e => a.keep b o (fun q => z1 (hs b q)) (fun q => z2 (hc b q)) e, fun b o z e => a.slot b o (fun q => z (hc b q)) e, a.size⟩
section
variable {M : Model} {A : Around} {E : Value → Shared → Prop} {s : Shared}
theorem set_rec {T : Addr} {oT : Obj} {ts : Array Value} {i : Nat} {v : Value} {Q : Unit → Shared → Prop} (hT : s.heap.get? T = some oT) (hd : oT.data = .fields ts) (hi : i < ts.size)
   (h : ∀ h', Aft [] [T] s.heap h' → h'.get? T = some (oT.mapFields (·.setIfInBounds i v)) → Q () { s with heap := h' }) : wpAny M A (setField (.ref T) i v) Q E s := by
 refine wpAny_setField hT hd hi (h _ ⟨fun b o _ hb e => ?_, fun b o hb e => ⟨o.slots, ?_⟩, ?_⟩ ?_)
 · rw [Heap.get?_update_other _ _ (fun z => hb (by simp [z]))]; exact e
 · rw [Heap.get?_update_other _ _ (fun z => hb (by simp [z]))]; exact e
 · exact Nat.le_of_eq (Heap.size_after_update ..).symm
 · exact Heap.get?_update_self _ hT (Obj.isFreed_of_fields (Obj.data_mapFields hd _))
theorem new_rec {base : Heap} {env : Env} {outer : List Env} {L x : Addr} {oe : Obj} {vs : Array Value} {head : Value} {hadNext : Bool} {Q : Unit → Shared → Prop}
   (hfr : A.frames = some (env :: outer)) (hl : s.heap.FunFrames base (env :: outer)) (hf : env.frame = some L) (he : s.heap.get? x = some oe) (hd : oe.data = .fields vs) (hsz : 1 < vs.size)
   (h : ∀ h' T, Aft ((env :: outer).filterMap (·.frame)) [x] s.heap h' → s.heap.objs.size ≤ T → Rec h' x oe.cls oe.dict (.ref T) → Tra h' T (rawInt L) → Q () { s with heap := h' }) :
   wpAny M A (do let a ← frameOf env; let pl ← entryPlaceOf L hadNext; let b ← EntryCells.newEntry head a .none (rawInt L) .none pl; setField (.ref x) 1 b) Q E s := by
 have hne : x ∉ (env :: outer).filterMap (·.frame) := fun hm => by
   obtain ⟨_, o, ho, hnf⟩ := hl.mem hm
   rw [he] at ho
   cases ho
   exact hnf vs hd
 refine wpAny_bind (wpAny_frameOf_fun hfr hl hf fun h1 hs1 => ?_)
 refine wpAny_bind (wpAny_entryPlaceOf fun pl hpl => ?_)
 unfold EntryCells.newEntry newFields
 refine wpAny_bind (wpAny_newObj_type ?_ (hpl.sizeOk5 _ _ _ _ _))
 have he1 : h1.get? x = some oe := (hs1.2.1 x hne).trans he
 refine set_rec (Heap.get?_push_of_some _ he1) hd hsz fun h' a hx => ?_
 have hTx : h1.objs.size ≠ x := Nat.ne_of_gt (Heap.lt_size he1)
 refine h h' h1.objs.size ⟨fun b o hb hc e => ?_, fun b o hc e => ?_, ?_⟩ (Nat.le_of_eq hs1.1.symm) ⟨_, _, hx, Obj.cls_mapFields _ _, dict_mapFields _ _, Obj.data_mapFields hd _, by simp [hsz]⟩ ?_
 · exact a.keep b o (by simp) hc (Heap.get?_push_of_some _ ((hs1.2.1 b hb).trans e))
 · obtain ⟨sl, e1⟩ := hs1.2.2 b o e
   exact ⟨sl, a.keep b _ (by simp) hc (Heap.get?_push_of_some _ e1)⟩
 · refine Nat.le_trans ?_ a.size
   show s.heap.objs.size ≤ (h1.push _).objs.size
   rw [Heap.size_push, hs1.1]
   exact Nat.le_succ _
 · refine ⟨_, _, a.keep _ _ (by simp) (by simp [hTx]) (Heap.get?_push_size h1 rfl), rfl, ?_⟩
   first | (simp; done) | (rcases hpl with rfl | ⟨_, _, _, _, _, _, _, rfl⟩ <;> simp)
theorem note_new {base : Heap} {env : Env} {outer : List Env} {L x : Addr} {C : Value} {dx : Option Addr} {Q : Unit → Shared → Prop}
   (hfr : A.frames = some (env :: outer)) (hl : s.heap.FunFrames base (env :: outer)) (hf : env.frame = some L) (r : Rec s.heap x C dx .none)
   (h : ∀ h' T, Aft ((env :: outer).filterMap (·.frame)) [x] s.heap h' → s.heap.objs.size ≤ T → Rec h' x C dx (.ref T) → Tra h' T (rawInt L) → Q () { s with heap := h' }) :
   wpAny M A (noteFrame (.ref x) env) Q E s := by
 obtain ⟨oe, vs, he, rfl, rfl, hd, h1⟩ := r
 unfold noteFrame
 simp only [hf]
 refine wpAny_bind (wpAny_field he hd h1 ?_)
 rw [if_neg (by decide)]
 exact new_rec hfr hl hf he hd (Array.getElem?_eq_some_iff.mp h1).1 h
theorem note_any {base : Heap} {env : Env} {outer : List Env} {L x T : Addr} {C : Value} {dx : Option Addr} {fl : Value} {Q : Unit → Shared → Prop}
   (hfr : A.frames = some (env :: outer)) (hl : s.heap.FunFrames base (env :: outer)) (hf : env.frame = some L) (r : Rec s.heap x C dx (.ref T)) (hx : T ≠ x) (t : Tra s.heap T fl)
   (h : ∀ h' T' fl', Aft ((env :: outer).filterMap (·.frame)) [x, T] s.heap h' → (T' = T ∨ s.heap.objs.size ≤ T') → Rec h' x C dx (.ref T') → Tra h' T' fl' → Q () { s with heap := h' }) :
   wpAny M A (noteFrame (.ref x) env) Q E s := by
 obtain ⟨oe, vs, he, rfl, rfl, hd, h1⟩ := r
 obtain ⟨oT, ts, hT, hdT, h3⟩ := t
 unfold noteFrame
 simp only [hf]
 refine wpAny_bind (wpAny_field he hd h1 ?_)
 rw [if_pos (show (Value.ref T != Value.none) = true from by simp)]
 refine wpAny_bind (wpAny_field hT hdT h3 ?_)
 by_cases hb : (fl == rawInt L) = true
 · rw [if_pos hb]
   exact wpAny_pure (h s.heap T fl (Aft.refl ..) (.inl rfl) ⟨oe, vs, he, rfl, rfl, hd, h1⟩ ⟨oT, ts, hT, hdT, h3⟩)
 rw [if_neg hb]
 refine wpAny_bind (set_rec hT hdT (Array.getElem?_eq_some_iff.mp h3).1 fun h2 a2 e2 => ?_)
 have nT : ∀ b o, s.heap.get? b = some o → (∀ ws, o.data ≠ .fields ws) → b ∉ [T] := fun b o e hn z => by
   have z' : b = T := by simpa using z
   rw [z', hT] at e
   cases e
   exact hn ts hdT
 refine new_rec hfr (hl.of_keeps fun b o e hn => ⟨o, a2.keep b o (by simp) (nT b o e hn) e, rfl⟩) hf (a2.keep x oe (by simp) (by simp [Ne.symm hx]) he) hd (Array.getElem?_eq_some_iff.mp h1).1 fun h' T' a r' t' l => ?_
 refine h h' T' _ (Aft.trans (a2.mono (by simp) (by simp)) (a.mono (fun _ z => z) (by simp))) (.inr (Nat.le_trans a2.size r')) t' l
theorem note_env {e : Value} {env1 env2 : Env} (h : env1.frame = env2.frame) : noteFrame e env1 = noteFrame e env2 := by
 unfold noteFrame frameOf
 rw [h]
theorem flight_to {x T : Addr} {C : Value} {dx : Option Addr} {fl : Value} {fr : Option Addr} {Q : Unit → Shared → Prop} (r : Rec s.heap x C dx (.ref T)) (hx : T ≠ x) (t : Tra s.heap T fl)
   (h : ∀ h' fl', Aft [] [T] s.heap h' → Rec h' x C dx (.ref T) → Tra h' T fl' → Q () { s with heap := h' }) : wpAny M A (setFlight (.ref x) fr) Q E s := by
 obtain ⟨oe, vs, he, rfl, rfl, hd, h1⟩ := r
 obtain ⟨oT, ts, hT, hdT, h3⟩ := t
 unfold setFlight
 refine wpAny_bind (wpAny_field he hd h1 ?_)
 rw [if_pos (show (Value.ref T != Value.none) = true from by simp)]
 have h3' := (Array.getElem?_eq_some_iff.mp h3).1
 refine set_rec hT hdT h3' fun h2 a2 e2 => h h2 (fr.elim .none fun f => rawInt f) a2 ⟨oe, vs, a2.keep x oe (by simp) (by simp [Ne.symm hx]) he, rfl, rfl, hd, h1⟩ ⟨_, _, e2, Obj.data_mapFields hdT _, ?_⟩
 simp [h3']
theorem flight_none {x T : Addr} {C : Value} {dx : Option Addr} {fl : Value} {Q : Unit → Shared → Prop} (r : Rec s.heap x C dx (.ref T)) (hx : T ≠ x) (t : Tra s.heap T fl)
   (h : ∀ h', Aft [] [T] s.heap h' → Rec h' x C dx (.ref T) → Tra h' T .none → Q () { s with heap := h' }) : wpAny M A (setFlight (.ref x) none) Q E s := by
 obtain ⟨oe, vs, he, rfl, rfl, hd, h1⟩ := r
 obtain ⟨oT, ts, hT, hdT, h3⟩ := t
 unfold setFlight
 refine wpAny_bind (wpAny_field he hd h1 ?_)
 rw [if_pos (show (Value.ref T != Value.none) = true from by simp)]
 have h3' := (Array.getElem?_eq_some_iff.mp h3).1
 refine set_rec hT hdT h3' fun h2 a2 e2 => h h2 a2 ⟨oe, vs, a2.keep x oe (by simp) (by simp [Ne.symm hx]) he, rfl, rfl, hd, h1⟩ ⟨_, _, e2, Obj.data_mapFields hdT _, ?_⟩
 simp [h3']
end
end L3
namespace L3
open PySem
def Rds {α : Type} (M : Model) (h : Heap) (t : Sem α) (r : α) : Prop :=
 ∀ (A : Around) (Q : α → Shared → Prop) (E : Value → Shared → Prop) (s : Shared), (∀ b o, h.get? b = some o → s.heap.get? b = some o) → Q r s → wpAny M A t Q E s
structure XC (h : Heap) (C : Addr) (bm : List Value) : Prop where
 at_ : ∃ nm q N bs sn sub ab col dd k0 k1 k2 k3 k5, h.get? C = some (excClassObj nm q C N bs bm true sn sub ab col dd k0 k1 k2 k3 k5 "ValueError.__new__")
 val : bm.contains (.type "ValueError") = true
 bas : bm.contains (.type "BaseException") = true
 ob : bm.contains (.type "object") = true
 noA : bm.contains (.type "AttributeError") = false
 noN : bm.contains (.type "NameError") = false
theorem XC.keeps {h h' : Heap} {C : Addr} {bm : List Value} (x : XC h C bm) (k : ∀ b o, h.get? b = some o → h'.get? b = some o) : XC h' C bm := by
 obtain ⟨⟨nm, q, N, bs, sn, sub, ab, col, dd, k0, k1, k2, k3, k5, e⟩, h1, h2, h3, h4, h5⟩ := x
 exact ⟨⟨nm, q, N, bs, sn, sub, ab, col, dd, k0, k1, k2, k3, k5, k _ _ e⟩, h1, h2, h3, h4, h5⟩
theorem has_more {C : Addr} {bm : List Value} {T : String} {b : Bool} (h : bm.contains (.type T) = b) : (Value.ref C :: bm).contains (.type T) = b := by
 rw [List.contains_cons, h]
 cases b <;> rfl
section
variable {P : Program} {w : World} {A : Around} {E : Value → Shared → Prop} {h : Heap} {g : Array GenState} {d : Drawn} {t : Nat} {os : OsState} {C : Addr} {bm : List Value}
theorem new_check {M : Model} {more : List Value} {Q : Unit → Shared → Prop} (x : XC h C bm) (hq : Q () ⟨h, g, d, t, os⟩) : wpAny M A (checkBuiltinCall "ValueError.__new__" ⟨.ref C :: more, []⟩) Q E ⟨h, g, d, t, os⟩ := by
 obtain ⟨⟨nm, q, N, bs, sn, sub, ab, col, dd, k0, k1, k2, k3, k5, cC⟩, val, bas, _, _, _⟩ := x
 have F := PySem.F.excBase_ValueError
 have c1 : (Value.ref C :: bm).contains (.type "ValueError") = true := has_more val
 have star := F.noStar
 simp only [checkBuiltinCall, F.newKind, F.newSplit, F.newRow]
 repeat (first
   | refine wpAny_loadPart_at cC ?_
   | (refine wpAny_isSubtype_exc cC ?_; rw [c1])
   | refine wpAny_staticBase_exc cC ?_
   | refine wpAny_madeBy_exc cC ?_
   | simp only [bne_self_eq_false, Bool.false_eq_true, if_false]
   | wp_step)
 exact hq
theorem new_run {more : List Value} {R : Result → Shared → Prop} (x : XC h C bm)
   (hq : R (.ok (.ret (.ref (h.objs.size + 1)))) ⟨(h.push { cls := .type "tuple", data := .seq more.toArray }).push { cls := .ref C, data := .fields #[.ref h.objs.size, .none, .none, .none, .bool false, .none] }, g, d, t, os⟩)
   (hrest : more.length ≤ sizeLine) : codeAny (model P w) A (.builtin "ValueError.__new__" ⟨.ref C :: more, []⟩) R ⟨h, g, d, t, os⟩ := by
 obtain ⟨⟨nm, q, N, bs, sn, sub, ab, col, dd, k0, k1, k2, k3, k5, cC⟩, val, bas, _, noA, noN⟩ := x
 have F := PySem.F.excBase_ValueError
 have ends := F.ends
 have c1 : (Value.ref C :: bm).contains (.type "ValueError") = true := has_more val
 have c2 : (Value.ref C :: bm).contains (.type "AttributeError") = false := has_more noA
 have c3 : (Value.ref C :: bm).contains (.type "NameError") = false := has_more noN
 refine codeAny_builtinAt F.entry ?_
 unfold Builtin.«BaseException.__new__»
 refine wpAt_bind ?_
 show wpAt _ _ _ (stack >>= _) _ _ _
 refine wpAt_bind (wpAt_stack fun p below => wpAt_of_wpAny ?_)
 wp_walk
 refine wpAt_of_wpAny ?_
 rw [F.owner]
 repeat (first
   | with_reducible refine wpAny_madeHere_exc F.canon cC ?_
   | with_reducible refine wpAny_loadPart_at cC ?_
   | (with_reducible refine wpAny_isSubtype_exc cC ?_; first | rw [c1] | rw [c2] | rw [c3])
   | wp_step)
 show R _ _
 rw [Heap.size_push]
 exact hq
theorem init_check {M : Model} {e : Addr} {oe : Obj} {more : List Value} {Q : Unit → Shared → Prop} (x : XC h C bm) (he : h.get? e = some oe) (hc : oe.cls = .ref C) (hq : Q () ⟨h, g, d, t, os⟩) :
   wpAny M A (checkBuiltinCall "ValueError.__init__" ⟨.ref e :: more, []⟩) Q E ⟨h, g, d, t, os⟩ := by
 obtain ⟨⟨nm, q, N, bs, sn, sub, ab, col, dd, k0, k1, k2, k3, k5, cC⟩, val, _, _, _, _⟩ := x
 have F := PySem.F.excBase_ValueError
 have c1 : (Value.ref C :: bm).contains (.type "ValueError") = true := has_more val
 have star := F.noStar
 simp only [checkBuiltinCall, F.initKind, F.initSplit, F.initRow]
 repeat (first
   | (with_reducible refine wpAny_loadPart_at he ?_; rw [hc])
   | with_reducible refine wpAny_loadPart_at cC ?_
   | (with_reducible refine wpAny_isSubtype_exc cC ?_; rw [c1])
   | wp_step)
 refine wpAny_onRaise ?_
 rw [show ∀ (a b : String) (n : Nat), Bind.check ⟨.positional, "*", "ValueError", .self, [⟨"args", .varPos, false⟩]⟩ a b n (List.map (fun x => x.fst) ({ pos := Value.ref e :: more } : Args).kw) = pure () from fun a b n => check_star_args _ _ _ _ _ _]
 exact wpAny_pure hq
theorem class_run {iv : Value} {more : List Value} {Q : PySem.Fin → Shared → Prop} (x : XC h C bm) (li : Rds (model P w) h (typeLookup (.ref C) "__init__") (some iv))
   (hrest : more.length ≤ sizeLine)
   (hq : ∀ h' e, Heap.MadeExcOf h h' e (.ref C) more → h.objs.size ≤ e → wpAny (model P w) A (bindSpecial iv (.ref e)) (fun p s1 => wpAny (model P w) A (call p.1 (p.2 ++ more)) (fun r s2 => r = .none ∧ Q (.done (.ret (.ref e))) s2) E s1) E ⟨h', g, d, t, os⟩) :
   wpAny (model P w) A (Builtin.«type.__call__» ⟨.ref C :: more, []⟩) Q E ⟨h, g, d, t, os⟩ := by
 have x0 := x
 obtain ⟨⟨nm, q, N, bs, sn, sub, ab, col, dd, k0, k1, k2, k3, k5, cC⟩, val, bas, _, noA, noN⟩ := x
 have F := PySem.F.excBase_ValueError
 repeat (first
   | with_reducible refine wpAny_loadPart_at cC ?_
   | with_reducible refine wpAny_madeBy_exc cC ?_
   | wp_step)
 refine codeAny_call_builtin_code (Code.quiet_builtin _ F.quiet) (new_check x0 ?_)
 refine new_run x0 ?_ hrest
 show wpAny _ _ _ _ _ _
 have up : ∀ b o, h.get? b = some o → ((h.push { cls := .type "tuple", data := .seq more.toArray }).push { cls := .ref C, data := .fields #[.ref h.objs.size, .none, .none, .none, .bool false, .none] }).get? b = some o :=
   fun b o e => Heap.get?_push_of_some _ (Heap.get?_push_of_some _ e)
 have cC1 := up _ _ cC
 have here : ((h.push { cls := .type "tuple", data := .seq more.toArray }).push { cls := .ref C, data := .fields #[.ref h.objs.size, .none, .none, .none, .bool false, .none] }).get? (h.objs.size + 1) =
     some { cls := .ref C, data := .fields #[.ref h.objs.size, .none, .none, .none, .bool false, .none] } := by heap_get
 have c0 : (Value.ref C :: bm).contains (.ref C) = true := by simp
 unfold isInstance
 repeat (first
   | with_reducible refine wpAny_loadPart_at here ?_
   | (with_reducible refine wpAny_isSubtype_exc cC1 ?_; rw [c0])
   | wp_step)
 show wpAny _ _ (typeLookup (.ref C) _) _ _ _
 refine li _ _ _ _ up ?_
 refine wpAny_holding (wpAny_bind (wpAny_mono (hq _ (h.objs.size + 1) ⟨up, Heap.get?_none_of_le (Nat.le_succ _), h.objs.size, here, Heap.get?_none_of_le (Nat.le_refl _), ?_⟩ (Nat.le_succ _)) (fun p s1 h1 => ?_) fun _ _ z => z))
 · exact Heap.get?_push_of_some _ (Heap.get?_push_at rfl rfl)
 · obtain ⟨p1, p2⟩ := p
   refine wpAny_bind (wpAny_mono h1 (fun r s2 hr => ?_) fun _ _ z => z)
   obtain ⟨rfl, hQ⟩ := hr
   wp_walk
   exact hQ
end
end L3
namespace L3
open PySem
section
variable {P : Program} {w : World} {A : Around} {E : Value → Shared → Prop} {h : Heap} {g : Array GenState} {d : Drawn} {t : Nat} {os : OsState} {C : Addr} {bm : List Value}
theorem class_call {iv : Value} {more : List Value} {Q : Value → Shared → Prop} (x : XC h C bm) (li : Rds (model P w) h (typeLookup (.ref C) "__init__") (some iv)) (hrest : more.length ≤ sizeLine)
   (hq : ∀ h' e, Heap.MadeExcOf h h' e (.ref C) more → h.objs.size ≤ e → wpAny (model P w) (A.under (.builtin "type.__call__" ⟨.ref C :: more, []⟩)) (bindSpecial iv (.ref e))
     (fun p s1 => wpAny (model P w) (A.under (.builtin "type.__call__" ⟨.ref C :: more, []⟩)) (call p.1 (p.2 ++ more)) (fun r s2 => r = .none ∧ Q (.ref e) s2) E s1) E ⟨h', g, d, t, os⟩) :
   wpAny (model P w) A (call (.ref C) more) Q E ⟨h, g, d, t, os⟩ := by
 have x0 := x
 obtain ⟨⟨nm, q, N, bs, sn, sub, ab, col, dd, k0, k1, k2, k3, k5, cC⟩, _⟩ := x
 have f1 := tc_lookup
 have f2 := tc_bind (.ref C)
 have ty : (⟨h, g, d, t, os⟩ : Shared).TypeIs (.ref C) "type" := ⟨_, cC, rfl⟩
 refine wpAny_call (codeAny_of_tree ?_)
 show wpAny _ _ (callAny (.ref C) _) _ _ _
 repeat (any_goals (first
   | assumption
   | with_reducible refine wpAny_loadPart_at cC ?_
   | wp_step))
 refine ⟨rfl, ?_⟩
 exact codeAny_call_builtin_at (Code.quiet_builtin _ (by decide +kernel)) entry_typeCall (wpAny_check_type_call_sub cC (class_run x0 li hrest fun h' e hm hs => hq h' e hm hs))
def Bare (s : Shared) (e C : Addr) : Prop := ∃ dx t, s.heap.get? e = some { cls := .ref C, dict := dx, data := .fields #[.ref t, .none, .none, .none, .bool false, .none] }
theorem raise_run {env : Env} {s : Shared} {x : Sem Value} {Q : Flow → Shared → Prop} (hh : A.handled = none)
   (hx : wpAny (model P w) A x (fun v s1 => ∃ e, v = .ref e ∧ XC s1.heap C bm ∧ Bare s1 e C ∧ E (.ref e) s1) E s) : wpAny (model P w) A (raiseStmt env (some x) none) Q E s := by
 unfold raiseStmt
 refine wpAny_bind (wpAny_mono hx (fun v s1 h1 => ?_) fun _ _ z => z)
 obtain ⟨e, rfl, xc, ⟨dx, tt, he⟩, hE⟩ := h1
 obtain ⟨⟨nm, q, N, bs, sn, sub, ab, col, dd, k0, k1, k2, k3, k5, cC⟩, _, bas, _⟩ := xc
 have c1 : (Value.ref C :: bm).contains (.type "BaseException") = true := has_more bas
 obtain ⟨hp, g1, d1, tk, os1⟩ := s1
 repeat (first
   | with_reducible refine wpAny_loadPart_at he ?_
   | with_reducible refine wpAny_loadPart_at cC ?_
   | (with_reducible refine wpAny_isSubtype_exc cC ?_; rw [c1])
   | wp_step)
 exact wpAny_raiseNew_none hh hE
theorem raise_call {env : Env} {s : Shared} {x : Str} {np cpos pos : Pos} {args : List Expr} {iv : Value} {Q : Flow → Shared → Prop} (hh : A.handled = none) (hplain : (backTo cpos (starEach args env)).any (·.1) = false)
   (hx : wpAny (model P w) A (eval (.Name x np) env) (fun f s1 => f = .ref C ∧ wpAny (model P w) A (evalArgs (.ref C) true (backTo cpos (starEach args env)) [])
     (fun a s2 => a.kw = [] ∧ a.pos.length ≤ sizeLine ∧ XC s2.heap C bm ∧ Rds (model P w) s2.heap (typeLookup (.ref C) "__init__") (some iv) ∧
       ∀ h' e, Heap.MadeExcOf s2.heap h' e (.ref C) a.pos → s2.heap.objs.size ≤ e → wpAny (model P w) (A.under (.builtin "type.__call__" ⟨.ref C :: a.pos, []⟩)) (bindSpecial iv (.ref e))
         (fun p s3 => wpAny (model P w) (A.under (.builtin "type.__call__" ⟨.ref C :: a.pos, []⟩)) (call p.1 (p.2 ++ a.pos)) (fun r s4 => r = .none ∧ XC s4.heap C bm ∧ Bare s4 e C ∧ E (.ref e) s4) E s3) E { s2 with heap := h' }) E s1) E s) :
   wpAny (model P w) A (exec (.Raise (some (.Call (.Name x np) args [] cpos)) none pos) env) Q E s := by
 rw [arm_exec_Raise]
 have go : wpAny (model P w) A (eval (.Call (.Name x np) args [] cpos) env) (fun v s1 => ∃ e, v = .ref e ∧ XC s1.heap C bm ∧ Bare s1 e C ∧ E (.ref e) s1) E s := by
   refine wpAny_Call_ofName (wpAny_mono hx (fun f s1 h1 => ?_) fun _ _ z => z)
   obtain ⟨rfl, h1⟩ := h1
   unfold callWith
   refine wpAny_bind (wpAny_holding (wpAny_mono h1 (fun a s2 h2 => wpAny_bind (wpAny_standAt ?_)) fun _ _ z => z))
   obtain ⟨ap, ak⟩ := a
   obtain ⟨hkw, hlen, xc, li, h2⟩ := h2
   obtain rfl : ak = [] := hkw
   obtain ⟨hp, g1, d1, tk, os1⟩ := s2
   simp only [hplain]
   obtain ⟨⟨nm, q, N, bs, sn, sub, ab, col, dd, k0, k1, k2, k3, k5, cC⟩, _⟩ := id xc
   refine wpAny_bind (wpAny_keeperOf_exc cC ?_)
   refine wpAny_bind (class_call xc li hlen fun h' e hm hs => wpAny_mono (h2 h' e hm hs) (fun p s3 h3 => wpAny_mono h3 (fun r s4 h4 => ?_) fun _ _ z => z) fun _ _ z => z)
   exact ⟨h4.1, wpAny_bind (wpAny_holding (wpAny_point (wpAny_pure ⟨e, rfl, h4.2⟩)))⟩
 first
   | refine wpAny_bind (wpAny_standAt (raise_run (C := C) (bm := bm) hh (wpAny_bind (wpAny_mono go (fun v s3 h3 => wpAny_bind (wpAny_standAt (wpAny_pure h3))) fun _ _ z => z))))
   | (simp only [evalOpt, Option.map]; refine wpAny_bind (wpAny_standAt (raise_run (C := C) (bm := bm) hh (wpAny_bind (wpAny_mono go (fun v s3 h3 => wpAny_bind (wpAny_standAt (wpAny_pure h3))) fun _ _ z => z)))))
end
end L3
namespace L3
open PySem
section
variable {P : Program} {w : World} {A : Around} {E : Value → Shared → Prop} {h h' : Heap} {g : Array GenState} {d : Drawn} {t : Nat} {os : OsState} {C : Addr} {bm : List Value}
theorem plain_init {e : Addr} {more : List Value} {Q : Shared → Prop} (hm : Heap.MadeExcOf h h' e (.ref C) more) (xc : XC h' C bm) (hrest : more.length ≤ sizeLine)
   (hq : ∀ h2, Heap.MadeExcOf h h2 e (.ref C) more → (∀ b o, h.get? b = some o → h2.get? b = some o) → Q ⟨h2, g, d, t, os⟩) :
   wpAny (model P w) A (bindSpecial (.builtin "ValueError.__init__") (.ref e)) (fun p s1 => wpAny (model P w) A (call p.1 (p.2 ++ more)) (fun r s2 => r = .none ∧ Q s2) E s1) E ⟨h', g, d, t, os⟩ := by
 have F := PySem.F.excBase_ValueError
 obtain ⟨tt, he, htn, ht⟩ := hm.there
 refine wpAny_of_eq (F.init.bind _) ?_
 refine wpAny_call (codeAny_call_builtin F.init.plain F.initEntry (init_check xc he rfl ?_))
 wp_walk
 refine ⟨rfl, hq _ ⟨fun b o hb => ?_, hm.new, h'.objs.size, ?_, ?_, ?_⟩ fun b o hb => ?_⟩
 · have hb' := hm.keeps b o hb
   have hne : e ≠ b := fun z => by rw [← z, hm.new] at hb; cases hb
   rw [Heap.get?_update_other _ _ hne]
   exact Heap.get?_push_of_some _ hb'
 · rw [Heap.get?_update_self _ (Heap.get?_push_of_some _ he) rfl]
   rfl
 · cases q : h.get? h'.objs.size with
   | none => rfl
   | some o => exact absurd (Heap.lt_size (hm.keeps _ _ q)) (Nat.lt_irrefl _)
 · rw [Heap.get?_update_other _ _ (Nat.ne_of_lt (Heap.lt_size he))]
   exact Heap.get?_push_size _ rfl
 · have hb' := hm.keeps b o hb
   have hne : e ≠ b := fun z => by rw [← z, hm.new] at hb; cases hb
   rw [Heap.get?_update_other _ _ hne]
   exact Heap.get?_push_of_some _ hb'
end
end L3
namespace L3
open PySem Builtin Builtin.ObjectAttr
section
variable {P : Program} {w : World} {A : Around} {E : Value → Shared → Prop} {h : Heap} {g : Array GenState} {d : Drawn} {t : Nat} {os : OsState} {C x : Addr} {bm : List Value}
 {mA : Str → Option Value} {name : Str} {v : Value} {B : String} {bmB : List Value}
theorem Rds.go {α : Type} {M : Model} {r : α} {u : Sem α} {s : Shared} {Q : α → Shared → Prop} (l : Rds M h u r) (k : ∀ b o, h.get? b = some o → s.heap.get? b = some o) (q : Q r s) : wpAny M A u Q E s := l A Q E s k q
def Stored (h : Heap) (x C : Addr) (mA : Str → Option Value) (name : Str) (v : Value) (h' : Heap) : Prop :=
 h'.Inst x C (fun y => if y = name then some v else mA y) ∧
 (∀ b o, b ≠ x → (∀ o0 dx, h.get? x = some o0 → o0.dict = some dx → b ≠ dx) → h.get? b = some o → h'.get? b = some o) ∧
 (∀ o0, h.get? x = some o0 → ∃ o1, h'.get? x = some o1 ∧ o1.cls = o0.cls ∧ o1.data = o0.data ∧ o1.slots = o0.slots ∧ ∀ dx, o0.dict = some dx → o1.dict = some dx) ∧
 (∀ o0, h.get? x = some o0 → o0.dict = none → ∃ o1, h'.get? x = some o1 ∧ o1.dict = some h.objs.size)
theorem set_check {M : Model} {o : Obj} {nameV : Value} {Q : Unit → Shared → Prop} (SF : StoreFacts B bmB "object.__setattr__" "object") (xc : XC h C bm) (hx : h.get? x = some o) (hc : o.cls = .ref C)
   (hq : Q () ⟨h, g, d, t, os⟩) : wpAny M A (checkBuiltinCall "object.__setattr__" ⟨[.ref x, nameV, v], []⟩) Q E ⟨h, g, d, t, os⟩ := by
 obtain ⟨⟨nm, q, N, bs, sn, sub, ab, col, dd, k0, k1, k2, k3, k5, cC⟩, _, _, ob, _, _⟩ := xc
 have c1 : (Value.ref C :: bm).contains (.type "object") = true := has_more ob
 simp only [checkBuiltinCall, SF.kind, SF.split]
 refine wpAny_bind ?_
 · unfold isInstance
   repeat (first
     | (with_reducible refine wpAny_loadPart_at hx ?_; rw [hc])
     | (with_reducible refine wpAny_isSubtype_exc cC ?_; rw [c1])
     | wp_step)
   exact hq
theorem set_entry {tk : Tok} {Q : PySem.Fin → Shared → Prop} {ns : List Str} (xc : XC h C bm) (hpass : ∀ self, refuseLoop self "__setattr__" bm = pure ()) (la : Rds (model P w) h (typeLookup (.ref C) name) none) (I : h.Inst x C mA)
   (hw : Within mA ns) (hsz : ns.length ≤ sizeLine) (hq : ∀ h' tk', Stored h x C mA name v h' → Q (.done (.ret .none)) ⟨h', g, d, tk', os⟩) :
   wpAny (model P w) A (Builtin.«object.__setattr__» ⟨[.ref x, .str name tk, v], []⟩) Q E ⟨h, g, d, t, os⟩ := by
 obtain ⟨⟨nm, q, N, bs, sn, sub, ab, col, dd, k0, k1, k2, k3, k5, cC⟩, _⟩ := xc
 obtain ⟨o, hx, hc, hnc, hd⟩ := I
 have hp := hpass (.ref x)
 unfold Builtin.«object.__setattr__»
 repeat (first
   | rw [refuse_eq]
   | (rw [refuseLoop_ref, hp])
   | (with_reducible refine wpAny_loadPart_at hx ?_; rw [hc])
   | with_reducible refine wpAny_mroOf_exc cC ?_
   | with_reducible refine Rds.go la (fun _ _ z => z) ?_
   | wp_step)
 rcases hd with ⟨hdn, hmA⟩ | ⟨dx, hdx, hne, hns⟩
 · rw [hdn, if_neg (by simp [typeHasDict])]
   split
   · rename_i z
     cases z
   split
   · rename_i c z
     exact absurd z (hnc c)
   · have hx1 : (h.push { cls := .type "dict", data := .dict #[] }).get? x = some o := Heap.get?_push_of_some _ hx
     have hxs : x ≠ h.objs.size := Nat.ne_of_lt (Heap.lt_size hx)
     refine wpAny_bind (wpAny_alloc' ?_)
     refine wpAny_bind (wpAny_update' hx1 ?_)
     refine wpAny_pure ?_
     have g1 : ((h.push { cls := .type "dict", data := .dict #[] }).update x fun o => { cls := o.cls, dict := some h.objs.size, data := o.data, slots := o.slots }).get? h.objs.size =
         some { cls := .type "dict", data := .dict #[] } := (Heap.get?_update_ne _ _ _ _ hxs.symm).trans (Heap.get?_push_at rfl rfl)
     have g2 : ((h.push { cls := .type "dict", data := .dict #[] }).update x fun o => { cls := o.cls, dict := some h.objs.size, data := o.data, slots := o.slots }).Ns h.objs.size (fun _ => none) :=
       ⟨_, #[], _, g1, rfl, (fun e he => absurd he (by simp)), fun _ => rfl⟩
     show wpAny _ _ (storeInDict h.objs.size (.str name tk) name v) _ _ _
     unfold storeInDict newKeyGuard
     refine wpAny_bind (wpAny_pure (wpAny_bind (wpAny_nsSet1 (Heap.Ns1.of_empty g2) fun h' hn' hs => ?_)))
     obtain ⟨oD, esD, epD, hoD, hdD, hcD⟩ := hn'.count (Within.cons name v Within.nil)
     refine wpAny_bind (wpAny_lookBehind hoD (by rw [hdD]; exact pastItsLine_dict (Nat.le_trans hcD (by rw [List.length_cons, List.length_nil, sizeLine_eq]; omega))) ?_)
     wp_walk
     have hx' : h'.get? x = some { cls := o.cls, dict := some h.objs.size, data := o.data, slots := o.slots } := by
       refine (hs.2 x hxs).trans (Heap.get?_update_self _ hx1 ?_)
       have fr := (Heap.get?_some_iff.mp hx).2
       obtain ⟨oc, od, odt, osl⟩ := o
       cases odt <;> first | rfl | exact fr
     refine hq h' _ ⟨⟨_, hx', hc, hnc, .inr ⟨h.objs.size, rfl, hxs.symm, ?_⟩⟩, fun b ob hbx _ hb => ?_, fun o0 h0 => ?_, fun o0 h0 _ => ⟨_, hx', rfl⟩⟩
     · obtain ⟨o', es, ep, e1, e2, e3, eu, e4⟩ := hn'
       exact ⟨o', es, ep, e1, e2, e3, eu, fun y => by rw [e4 y]; by_cases hy : y = name <;> simp [hy, hmA]⟩
     · exact (hs.2 b (Nat.ne_of_lt (Heap.lt_size hb))).trans ((Heap.get?_update_ne _ _ _ _ hbx).trans (Heap.get?_push_of_some _ hb))
     · obtain rfl : o = o0 := Option.some.inj (hx.symm.trans h0)
       exact ⟨_, hx', rfl, rfl, rfl, fun dx e => by rw [hdn] at e; cases e⟩
 · rw [hdx]
   refine wpAny_pure ?_
   show wpAny _ _ (storeInDict dx (.str name tk) name v) _ _ _
   unfold storeInDict newKeyGuard
   refine wpAny_bind (wpAny_pure (wpAny_bind (wpAny_nsSet1 hns fun h' hn' hs => ?_)))
   obtain ⟨oD, esD, epD, hoD, hdD, hcD⟩ := hn'.count (Within.cons name v hw)
   refine wpAny_bind (wpAny_lookBehind hoD (by rw [hdD]; exact pastItsLine_dict (Nat.le_trans hcD (by rw [List.length_cons]; omega))) ?_)
   wp_walk
   refine hq h' _ ⟨⟨o, (hs.2 x hne.symm).trans hx, hc, hnc, .inr ⟨dx, hdx, hne, hn'⟩⟩, fun b ob _ hbd hb => ?_, fun o0 h0 => ⟨o0, (hs.2 x hne.symm).trans h0, rfl, rfl, rfl, fun _ e => e⟩, fun o0 h0 hn0 => ?_⟩
   · exact (hs.2 b (hbd o dx hx hdx)).trans hb
   · obtain rfl : o = o0 := Option.some.inj (hx.symm.trans h0)
     rw [hdx] at hn0
     cases hn0
theorem set_attr {Q : Unit → Shared → Prop} {ns : List Str} (SF : StoreFacts B bmB "object.__setattr__" "object") (xc : XC h C bm) (hpass : ∀ self, refuseLoop self "__setattr__" bm = pure ())
   (ls : Rds (model P w) h (typeLookup (.ref C) "__setattr__") (some (.builtin "object.__setattr__"))) (la : Rds (model P w) h (typeLookup (.ref C) name) none) (I : h.Inst x C mA) (hw : Within mA ns) (hsz : ns.length ≤ sizeLine)
   (hq : ∀ h' tk', Stored h x C mA name v h' → Q () ⟨h', g, d, tk', os⟩) : wpAny (model P w) A (setAttr (.ref x) name v) Q E ⟨h, g, d, t, os⟩ := by
 obtain ⟨o, hx, hc, _⟩ := id I
 have f3 := SF.slot.bind (.ref x)
 unfold setAttr callSpecial? specialOf
 repeat (any_goals (first
   | assumption
   | (with_reducible refine wpAny_loadPart_at hx ?_; rw [hc])
   | with_reducible refine Rds.go ls (fun _ _ z => z) ?_
   | wp_step))
 refine codeAny_call_builtin SF.slot.plain SF.entry (set_check SF xc hx hc (set_entry xc hpass la I hw hsz fun h' tk' st => ?_))
 repeat (any_goals (first | assumption | wp_step))
 exact hq h' tk' st
end
end L3
namespace L3
open PySem Builtin Builtin.ObjectAttr
section
variable {P : Program} {w : World} {A : Around} {E : Value → Shared → Prop} {h : Heap} {g : Array GenState} {d : Drawn} {t : Nat} {os : OsState} {C x dx : Addr} {bm : List Value}
 {mA : Str → Option Value} {name : Str} {v : Value} {o : Obj} {vs : Array Value}
theorem get_check {M : Model} {nameV : Value} {Q : Unit → Shared → Prop} (xc : XC h C bm) (hx : h.get? x = some o) (hc : o.cls = .ref C) (hq : Q () ⟨h, g, d, t, os⟩) :
   wpAny M A (checkBuiltinCall "BaseException.__getattribute__" ⟨[.ref x, nameV], []⟩) Q E ⟨h, g, d, t, os⟩ := by
 obtain ⟨⟨nm, q, N, bs, sn, sub, ab, col, dd, k0, k1, k2, k3, k5, cC⟩, _, bas, _, _, _⟩ := xc
 have f1 : builtinKind "BaseException.__getattribute__" = some .slot := by decide +kernel
 have f2 : splitId "BaseException.__getattribute__" = some ("BaseException", "__getattribute__") := by decide +kernel
 have c1 : (Value.ref C :: bm).contains (.type "BaseException") = true := has_more bas
 have ha := PySem.F.args_bexc_ga (.ref x) nameV
 simp only [checkBuiltinCall, f1, f2]
 refine wpAny_bind ?_
 unfold isInstance
 repeat (first
   | (with_reducible refine wpAny_loadPart_at hx ?_; rw [hc])
   | (with_reducible refine wpAny_isSubtype_exc cC ?_; rw [c1])
   | wp_step)
 exact hq
theorem get_entry {tk : Tok} {Q : PySem.Fin → Shared → Prop} (xc : XC h C bm) (la : Rds (model P w) h (typeLookup (.ref C) name) none) (hx : h.get? x = some o) (hc : o.cls = .ref C) (hd : o.data = .fields vs) (hdx : o.dict = some dx)
   (hn : h.Ns1 dx mA) (hv : mA name = some v) (hq : Q (.done (.ret v)) ⟨h, g, d, t, os⟩) :
   wpAny (model P w) A (Builtin.«object.__getattribute__» ⟨[.ref x, .str name tk], []⟩) Q E ⟨h, g, d, t, os⟩ := by
 obtain ⟨⟨nm, q, N, bs, sn, sub, ab, col, dd, k0, k1, k2, k3, k5, cC⟩, _⟩ := xc
 obtain ⟨oc, od, odt, osl⟩ := o
 dsimp only at hc hd hdx
 subst hc hd hdx
 repeat (any_goals (first
   | assumption
   | with_reducible refine wpAny_loadPart_at hx ?_
   | with_reducible refine wpAny_loadPart_at cC ?_
   | with_reducible refine Rds.go la (fun _ _ z => z) ?_
   | with_reducible refine wpAny_nsGet hn.ns ?_
   | wp_step))
 rw [hv]
 repeat (any_goals (first | assumption | wp_step))
theorem get_attr {ex : Bool} {Q : Value → Shared → Prop} (FB : ExcAttrFacts "ValueError") (xc : XC h C bm) (lg : Rds (model P w) h (typeLookup (.ref C) "__getattribute__") (some (.builtin "BaseException.__getattribute__")))
   (lh : Rds (model P w) h (typeLookup (.ref C) "__getattr__") none) (la : Rds (model P w) h (typeLookup (.ref C) name) none) (hx : h.get? x = some o) (hc : o.cls = .ref C) (hd : o.data = .fields vs) (hdx : o.dict = some dx)
   (hn : h.Ns1 dx mA) (hv : mA name = some v) (hh : handedOut v = pure v) (hq : Q v ⟨h, g, d, t + 1, os⟩) : wpAny (model P w) A (getAttr (.ref x) name ex) Q E ⟨h, g, d, t, os⟩ := by
 have f3 := FB.ga.bind (.ref x)
 have e0 : (ex && onTheHeap (Value.builtin "BaseException.__getattribute__")) = false := by cases ex <;> rfl
 have e2 : (Value.builtin "BaseException.__getattribute__" == Value.builtin "object.__getattribute__") = false := by decide +kernel
 have e1 : (onTheHeap (Value.ref C) && Value.builtin "BaseException.__getattribute__" == Value.builtin "object.__getattribute__") = false := by rw [e2]; rfl
 unfold getAttr
 repeat (any_goals (first
   | assumption
   | (with_reducible refine wpAny_loadPart_at hx ?_; rw [hc])
   | with_reducible refine Rds.go lg (fun _ _ z => z) ?_
   | with_reducible refine Rds.go lh (fun _ _ z => z) ?_
   | wp_step))
 refine codeAny_call_builtin FB.ga.plain PySem.F.entry_bexc_ga (get_check xc hx hc (get_entry xc la hx hc hd hdx hn hv ?_))
 repeat (any_goals (first | assumption | wp_step))
end
end L3
namespace L3
open PySem Builtin Builtin.ObjectAttr
section
variable {P : Program} {w : World} {A : Around} {E : Value → Shared → Prop} {h : Heap} {g : Array GenState} {d : Drawn} {t : Nat} {os : OsState} {C x : Addr} {bm : List Value} {o : Obj}
theorem cls_get {R : Result → Shared → Prop} (xc : XC h C bm) (hx : h.get? x = some o) (hc : o.cls = .ref C) (hq : R (.ok (.ret (.ref C))) ⟨h, g, d, t, os⟩) :
   codeAny (model P w) A (.call (.builtin "getset_descriptor.__get__") ⟨[.builtin "object.__class__", .ref x, .ref C], []⟩) R ⟨h, g, d, t, os⟩ := by
 obtain ⟨⟨nm, q, N, bs, sn, sub, ab, col, dd, k0, k1, k2, k3, k5, cC⟩, _, _, ob, _, _⟩ := xc
 have ty : (⟨h, g, d, t, os⟩ : Shared).TypeIs (.builtin "object.__class__") "getset_descriptor" := PySem.F.typeOf_object_class
 have c1 : (Value.ref C :: bm).contains (.type (".".intercalate ("object.__class__".cutAt '.').dropLast)) = true := by
   rw [PySem.F.owner_object_class]
   exact has_more ob
 refine codeAny_call_builtin PySem.F.slot_gs_get.plain PySem.F.entry_gs_get (PySem.F.slot_gs_get.check _ _ _ _ _ _ _ _ ty (PySem.F.args_gs_get _ _ _) ?_)
 repeat (any_goals (first
   | assumption
   | (with_reducible refine wpAny_loadPart_at hx ?_; rw [hc])
   | (with_reducible refine wpAny_isSubtype_exc cC ?_; rw [c1])
   | wp_step))
 refine ⟨Code.quiet_builtin _ (by decide +kernel), codeAny_builtin PySem.F.entry_object_class ?_⟩
 repeat (any_goals (first
   | assumption
   | (with_reducible refine wpAny_loadPart_at hx ?_; rw [hc])
   | wp_step))
theorem cls_entry {tk : Tok} {Q : PySem.Fin → Shared → Prop} (xc : XC h C bm) (lc : Rds (model P w) h (typeLookup (.ref C) "__class__") (some (.builtin "object.__class__"))) (hx : h.get? x = some o) (hc : o.cls = .ref C)
   (hq : Q (.done (.ret (.ref C))) ⟨h, g, d, t, os⟩) : wpAny (model P w) A (Builtin.«object.__getattribute__» ⟨[.ref x, .str "__class__" tk], []⟩) Q E ⟨h, g, d, t, os⟩ := by
 have ty : (⟨h, g, d, t, os⟩ : Shared).TypeIs (.builtin "object.__class__") "getset_descriptor" := PySem.F.typeOf_object_class
 have f5 := PySem.F.typeOf_object_class
 have f6 := PySem.F.slot_gs_get.lookup
 have f7 := PySem.F.slot_gs_set.lookup
 repeat (any_goals (first
   | assumption
   | (with_reducible refine wpAny_loadPart_at hx ?_; rw [hc])
   | with_reducible refine Rds.go lc (fun _ _ z => z) ?_
   | wp_step))
 refine cls_get xc hx hc ?_
 repeat (any_goals (first | assumption | wp_step))
theorem cls_attr {Q : Option Value → Shared → Prop} (FB : ExcAttrFacts "ValueError") (xc : XC h C bm) (lg : Rds (model P w) h (typeLookup (.ref C) "__getattribute__") (some (.builtin "BaseException.__getattribute__")))
   (lh : Rds (model P w) h (typeLookup (.ref C) "__getattr__") none) (lc : Rds (model P w) h (typeLookup (.ref C) "__class__") (some (.builtin "object.__class__"))) (hx : h.get? x = some o) (hc : o.cls = .ref C)
   (hq : Q (some (.ref C)) ⟨h, g, d, t + 1, os⟩) : wpAny (model P w) A (getAttr? (.ref x) "__class__") Q E ⟨h, g, d, t, os⟩ := by
 have f3 := FB.ga.bind (.ref x)
 have e0 : (false && onTheHeap (Value.builtin "BaseException.__getattribute__")) = false := rfl
 have e2 : (Value.builtin "BaseException.__getattribute__" == Value.builtin "object.__getattribute__") = false := by decide +kernel
 have e1 : (onTheHeap (Value.ref C) && Value.builtin "BaseException.__getattribute__" == Value.builtin "object.__getattribute__") = false := by rw [e2]; rfl
 unfold getAttr? getAttrBy?
 repeat (any_goals (first
   | assumption
   | (with_reducible refine wpAny_loadPart_at hx ?_; rw [hc])
   | with_reducible refine Rds.go lg (fun _ _ z => z) ?_
   | with_reducible refine Rds.go lh (fun _ _ z => z) ?_
   | wp_step))
 refine codeAny_call_builtin FB.ga.plain PySem.F.entry_bexc_ga (get_check xc hx hc (cls_entry xc lc hx hc ?_))
 repeat (any_goals (first | assumption | wp_step))
end
end L3
namespace L2
open PySem PySem.Spec PyProof.Rows L3
def onlyVal : List Value → Bool
 | .ref _ :: r => onlyVal r
 | l => l == [.type "ValueError", .type "Exception", .type "BaseException", .type "object"]
theorem refuse_val (self : Value) {l : List Value} (e : onlyVal l = true) : refuseLoop self "__setattr__" l = pure () := by
 induction l with
 | nil => cases e
 | cons c r ih =>
   cases c with
   | ref a =>
     rw [refuseLoop_ref]
     exact ih e
   | type n =>
     rw [show Value.type n :: r = [.type "ValueError", .type "Exception", .type "BaseException", .type "object"] from beq_iff_eq.mp e]
     exact PySem.F.store_ValueError.passes self
   | _ => exact absurd (beq_iff_eq.mp e) (by simp)
def bmOf (K : PySem.W.Frag) (C : Addr) : List Value := match K.lookup C with
 | some ⟨_, _, .cls cd, _⟩ => cd.mro.tail
 | _ => []
def xclsIn (K : PySem.W.Frag) (C : Addr) : Bool := match K.lookup C with
 | some ⟨.type "type", _, .cls cd, sl⟩ => (match cd.mro, sl.toList with
   | .ref C' :: bm, [_, _, _, _, some (.builtin n), _] => C' == C && !cd.hasDel && cd.hasDict && n == "ValueError.__new__" && bm.contains (.type "ValueError") && bm.contains (.type "BaseException") && bm.contains (.type "object") && !bm.contains (.type "AttributeError") && !bm.contains (.type "NameError") && onlyVal bm
   | _, _ => false)
 | _ => false
theorem xc_of {K : PySem.W.Frag} {h : Heap} {C : Addr} (X : K.In h) (q : xclsIn K C = true) : XC h C (bmOf K C) ∧ onlyVal (bmOf K C) = true := by
 unfold xclsIn at q
 split at q
 · rename_i dd cd sl ho
   split at q
   · rename_i C' bm k0 k1 k2 k3 n k5 hm hs
     simp only [Bool.and_eq_true, beq_iff_eq, Bool.not_eq_true'] at q
     obtain ⟨⟨⟨⟨⟨⟨⟨⟨⟨rfl, hdel⟩, hhd⟩, rfl⟩, hv⟩, hb⟩, hob⟩, hA⟩, hN⟩, ho'⟩ := q
     have eb : bmOf K C' = bm := by
       unfold bmOf
       rw [ho]
       show cd.mro.tail = bm
       rw [hm]
       rfl
     obtain ⟨nm, bs, mro, ns, qn, hd, sn, sub, ab, col, del⟩ := cd
     dsimp only at hm hdel hhd
     subst hm hdel hhd
     have hsl : sl = #[k0, k1, k2, k3, some (.builtin "ValueError.__new__"), k5] := by
       obtain ⟨l⟩ := sl
       simp only at hs
       rw [hs]
     subst hsl
     rw [eb]
     exact ⟨⟨⟨nm, qn, ns, bs, sn, sub, ab, col, dd, k0, k1, k2, k3, k5, X _ _ ho⟩, hv, hb, hob, hA, hN⟩, ho'⟩
   · cases q
 · cases q
structure XCls (K : PySem.W.Frag) (C : Addr) : Prop where
 sh : xclsIn K C = true
 ga : PySem.W.findIn K (.ref C) "__getattribute__" = some (some (.builtin "BaseException.__getattribute__"))
 gh : PySem.W.findIn K (.ref C) "__getattr__" = some none
 sa : PySem.W.findIn K (.ref C) "__setattr__" = some (some (.builtin "object.__setattr__"))
 cl : PySem.W.findIn K (.ref C) "__class__" = some (some (.builtin "object.__class__"))
theorem rds_of {K : PySem.W.Frag} {M : Model} {h : Heap} {C : Addr} {name : Str} {r : Option Value} (X : K.In h) (e : PySem.W.findIn K (.ref C) name = some r) : Rds M h (typeLookup (.ref C) name) r := PySem.W.looks_findIn X e
theorem XCls.xc {K : PySem.W.Frag} {h : Heap} {C : Addr} (c : XCls K C) (X : K.In h) : XC h C (bmOf K C) := (xc_of X c.sh).1
theorem XCls.pass {K : PySem.W.Frag} {h : Heap} {C : Addr} (c : XCls K C) (X : K.In h) (self : Value) : refuseLoop self "__setattr__" (bmOf K C) = pure () := refuse_val self (xc_of X c.sh).2
section
variable {X : Cx} {pins : List (Addr × Obj)} {σ : St} {H : Hp} {s : Shared} {h' : Heap}
theorem aft {ch : List Addr} (I : Inv X pins σ H s) (a : Aft (frs X.stack) ch s.heap h') (hc : ∀ b ∈ ch, FpOk X pins H b) : Inv X pins σ H { s with heap := h' } := by
 have nS : ∀ b, b ≠ X.env.locals → b ∉ X.fs → b ∉ frs X.stack := fun b h1 h2 z => (List.mem_cons.mp (I.stkSub b z)).elim h1 h2
 refine I.step (g' := s.gens) (d' := s.drawn) (t' := s.toks) (ch := ch) (fun b hb => ?_) (fun b o h1 h2 h3 e _ => a.keep b o (nS b h1 h2) h3 e) (fun b o _ _ h3 e _ => a.slot b o h3 e) (fun _ _ _ _ n => n)
   (fun b o h3 e => ?_) (fun _ _ e => e) (fun _ _ _ e => e) (fun b ps e => ⟨#[], by rw [e]; simp⟩) (fun m hm => ?_) (fun b u e => ?_) I.bare
 · obtain ⟨_, f1, _, f3, f4, f5⟩ := hc b hb
   exact ⟨f3, f1, f4, f5⟩
 · obtain ⟨sl, q⟩ := a.slot b o h3 e
   exact ⟨_, q⟩
 · obtain ⟨o, es, ep, ho, r⟩ := hm
   obtain ⟨sl, q⟩ := a.slot _ o (fun z => (hc _ z).2.1 rfl) ho
   exact ⟨_, es, ep, q, r⟩
 · refine (I.hok b u e).stay (fun c v hb q => a.keep c v (fun z => ?_) (fun z => ?_) q) (fun _ q => q) fun _ _ q => q
   · rcases hb with rfl | hb
     · rw [I.stkFree c z] at e; cases e
     · rw [I.stkFree c z] at hb; cases hb
   · rcases hb with rfl | hb
     · rw [(hc c z).1] at e; cases e
     · rw [(hc c z).1] at hb; cases hb
theorem track {x : Addr} {o : HO} (I : Inv X pins σ H s) (f : FpOk X pins H x) (new : ObjOk X.prog X.w (upd H x o) s.heap x o) : Inv X pins σ (upd H x o) s := by
 obtain ⟨f0, f1, f2, f3, f4, f5⟩ := f
 have nx : ∀ b u, H b = some u → b ≠ x := fun b u e z => by rw [z, f0] at e; cases e
 refine ⟨I.ok, I.os, I.bare, ⟨I.base.keep, I.base.slot, fun b ob e n hx => ?_, I.base.there, fun b xs e => ?_, fun b ob u e => ?_, fun b ps e => ?_⟩, I.loc, I.cell, ?_, fun y c e => ?_, fun p hp => ?_, fun b u e => ?_, I.len⟩
 · have hb : b ≠ x := fun z => by
     rcases f3 with q | q
     · exact hx (z ▸ q)
     · exact absurd (Nat.lt_of_lt_of_le (Heap.lt_size e) (z ▸ q)) (Nat.lt_irrefl _)
   rw [upd_ne hb]
   exact I.base.free b ob e n hx
 · have q := I.base.tups b xs e
   rw [upd_ne (nx _ _ q)]
   exact q
 · have q := I.base.frzs b ob u e
   rw [upd_ne (nx _ _ q)]
   exact q
 · obtain ⟨more, q⟩ := I.base.tbls b ps e
   exact ⟨more, by rw [upd_ne (nx _ _ q)]; exact q⟩
 · rw [upd_ne (Ne.symm f1)]
   exact I.free
 · rw [upd_ne (f4 y c e)]
   exact I.freeC y c e
 · obtain ⟨e, n, ne, nf, d⟩ := I.pin p hp
   exact ⟨e, by rw [upd_ne (f5 p hp)]; exact n, ne, nf, d⟩
 · by_cases hb : b = x
   · subst hb
     rw [upd_same] at e
     cases e
     exact new
   · rw [upd_ne hb] at e
     exact (I.hok b u e).stay (fun _ _ _ q => q) (fun c q => by rw [upd_ne (nx _ _ q)]; exact q) fun c xs q => by rw [upd_ne (nx _ _ q)]; exact q
end
structure ExIn (X : Cx) (pins : List (Addr × Obj)) (H : Hp) (s : Shared) (x : Addr) (C : Value) (dx : Option Addr) : Prop where
 own : FpOk X pins H x
 tr : Rec s.heap x C dx .none ∨ ∃ T fl, Rec s.heap x C dx (.ref T) ∧ T ≠ x ∧ Tra s.heap T fl ∧ FpOk X pins H T
def XeIs (X : Cx) (R : St → Prop) (Ek : XK) : Prop :=
 ∀ (pins : List (Addr × Obj)) (σ : St) (H : Hp) (s : Shared) (x : Addr) (C : Value) (dx : Option Addr), Inv X pins σ H s → R σ → ExIn X pins H s x C dx → Ek C dx H → X.xe (.ref x) s
def CX1 (P : Program) (w : World) : CXT := fun outer H s E e s' =>
 ∃ (x : Addr) (C : Value) (dx : Option Addr) (T : Addr) (H' : Hp), e = .ref x ∧ s'.os = s.os ∧ AllBare s'.gens ∧ Un (frs outer) [] H H' s.heap s'.heap ∧ HOk P w H' s'.heap ∧ (s.heap.objs.size ≤ x ∧ H' x = none) ∧ (s.heap.objs.size ≤ T ∧ H' T = none) ∧ T ≠ x ∧
   Rec s'.heap x C dx (.ref T) ∧ Tra s'.heap T .none ∧ E C dx H'
section
variable {X : Cx}
theorem pass1 {R : St → Prop} {E : XK} (hx : XeIs X R E) {pins : List (Addr × Obj)} {σ : St} {H : Hp} {s : Shared} {e : Value} {s' : Shared} (I : Inv X pins σ H s) (r : R σ) (h : CX1 X.prog X.w X.stack H s E e s') : X.xe e s' := by
 obtain ⟨x, C, dx, T, H', rfl, os, bare, un, hok, ⟨x1, x2⟩, ⟨t1, t2⟩, ne, rc, tr, q⟩ := h
 have I' : Inv X pins σ H' s' := I.call' os un hok bare (ch := []) (fun _ z => nomatch z)
 exact hx pins σ H' s' x C dx I' r ⟨I.fpOk x1 x2, .inr ⟨T, _, rc, ne, tr, I.fpOk t1 t2⟩⟩ q
end
theorem xe_def {P : Program} {w : World} {K : PySem.W.Frag} {mg : Str → Option Value} {base : Heap} {cm : Bool} {N : List Str} {qual : Str} {scope : Scope} {f : Addr} {cd : Value} {A : Around} {outer : List Env} {s : Shared} {H : Hp} {E : XK} :
   XeIs (cxOf (CX1 P w) cm P w K mg base N qual scope f cd A outer s H E) (fun _ => True) E := by
 intro pins σ H1 s1 x C dx I _ ex e
 show wpAny (model P w) (A.deeper (envOfC qual scope s.heap.objs.size f cd)) (leaving (envOfC qual scope s.heap.objs.size f cd) (.ref x)) (fun _ s2 => CX1 P w outer H s E (.ref x) s2) (fun e' s2 => CX1 P w outer H s E e' s2) s1
 have fin : ∀ (T : Addr) (h2 : Heap), Inv (cxOf (CX1 P w) cm P w K mg base N qual scope f cd A outer s H E) pins σ H1 { s1 with heap := h2 } → s.heap.objs.size ≤ T → H1 T = none → T ≠ x → Rec h2 x C dx (.ref T) → Tra h2 T .none → CX1 P w outer H s E (.ref x) { s1 with heap := h2 } := by
   intro T h2 J t1 t2 ne r t
   obtain ⟨f0, _, _, f3, _⟩ := ex.own
   have x1 : s.heap.objs.size ≤ x := f3.elim (fun z => absurd (show x ∈ ([] : List Addr) from z) (by simp)) id
   exact ⟨x, C, dx, T, H1, rfl, J.os, J.bare, J.base, J.hok, ⟨x1, f0⟩, ⟨t1, t2⟩, ne, r, t, e⟩
 unfold leaving
 rcases ex.tr with r | ⟨T0, fl0, r, ne0, t0, f0⟩
 · refine wpAny_bind (note_new I.ok.frames I.stack rfl r fun h' T a sz r' t' => ?_)
   have xT : T ≠ x := by
     obtain ⟨oe, _, he, _⟩ := r
     exact fun z => absurd (Nat.lt_of_lt_of_le (Heap.lt_size he) (z ▸ sz)) (Nat.lt_irrefl _)
   have hT := I.hok.fresh sz
   have I1 := aft I a (by intro b hb; have : b = x := by simpa using hb
                          subst this; exact ex.own)
   refine flight_none r' xT t' fun h2 a2 r2 t2 => ?_
   have I2 := aft (h' := h2) I1 (a2.mono (by simp) fun _ z => z) (by intro b hb; have : b = T := by simpa using hb
                                                                     subst this; exact I.fpOk sz hT)
   exact fin T h2 I2 (Nat.le_trans I.sz sz) hT xT r2 t2
 · refine wpAny_bind (note_any I.ok.frames I.stack rfl r ne0 t0 fun h' T fl' a sz r' t' => ?_)
   have xT : T ≠ x := by
     obtain ⟨oe, _, he, _⟩ := r
     rcases sz with z0 | z0
     · rw [z0]; exact ne0
     · exact fun z => absurd (Nat.lt_of_lt_of_le (Heap.lt_size he) (z ▸ z0)) (Nat.lt_irrefl _)
   have fT : FpOk (cxOf (CX1 P w) cm P w K mg base N qual scope f cd A outer s H E) pins H1 T := by
     rcases sz with z0 | z0
     · rw [z0]; exact f0
     · exact I.fpOk z0 (I.hok.fresh z0)
   have I1 := aft I a (by intro b hb
                          rcases (show b = x ∨ b = T0 by simpa using hb) with z | z
                          · subst z; exact ex.own
                          · subst z; exact f0)
   refine flight_none r' xT t' fun h2 a2 r2 t2 => ?_
   have I2 := aft (h' := h2) I1 (a2.mono (by simp) fun _ z => z) (by intro b hb; have : b = T := by simpa using hb
                                                                     subst this; exact fT)
   obtain ⟨g0, _, _, g3, _⟩ := fT
   exact fin T h2 I2 (g3.elim (fun z => absurd (show T ∈ ([] : List Addr) from z) (by simp)) id) g0 xT r2 t2
end L2
namespace L2
open PySem PySem.Spec PyProof.Rows L3
def tRaise (R : St → Prop) (C : Value) (ta : TA) (Ek : XK) : TS := fun _ σ H => ta σ H fun vs H1 => vs.length ≤ sizeLine ∧ R σ ∧ Ek C none H1
section
variable {X : Cx} {x : Str} {C : Addr} {np cpos pos : Pos} {e : Expr} {es : List Expr} {ta : TA} {R : St → Prop} {Ek : XK}
theorem ps_raise0 (hc : X.calm = true) (hxe : XeIs X R Ek) (hg : Gl X x) (hm : X.mg x = some (.ref C)) (T : XCls X.K C) (hi : PySem.W.findIn X.K (.ref C) "__init__" = some (some (.builtin "ValueError.__init__"))) (ha : PA X (e :: es) ta)
   (hdb : (x == ("__debug__" : Str)) = false := by decide) (he : starEach (e :: es) X.env = (false, eval e X.env) :: starEach es X.env := by rfl) (hpl : (backTo cpos (starEach (e :: es) X.env)).any (·.1) = false := by rfl) :
   PS X (.Raise (some (.Call (.Name x np) (e :: es) [] cpos)) none pos) (tRaise R (.ref C) ta Ek) := by
 intro pins s σ H D I h
 refine raise_call (C := C) (bm := bmOf X.K C) (iv := .builtin "ValueError.__init__") (I.ok.hd hc) hpl (ld_glob I hg hm ⟨rfl, ?_⟩ hdb)
 have hb : backTo cpos (starEach (e :: es) X.env) = (false, eval e X.env) :: backTo cpos (starEach es X.env) := by rw [he]; rfl
 rw [hb]
 refine Calls.evalArgs_plain ?_
 rw [← hb]
 refine thn (ha cpos pins s σ H _ I h) fun us s1 ⟨vs, H1, I1, r, hl, hR, hE⟩ => ?_
 have hlen : us.length ≤ sizeLine := by rw [← r.length]; exact hl
 refine ⟨rfl, hlen, T.xc I1.kIn, rds_of I1.kIn hi, fun h' x' hm' hs' => ?_⟩
 obtain ⟨hp, g, d, t, os⟩ := s1
 have KX : X.K.In h' := I1.kIn.keeps hm'.keeps
 refine plain_init (bm := bmOf X.K C) hm' (T.xc KX) hlen fun h2 hm2 k2 => ?_
 have KX2 : X.K.In h2 := I1.kIn.keeps k2
 obtain ⟨tt, hx2, htn, ht⟩ := hm2.there
 have I2 : Inv X pins σ H1 ⟨h2, g, d, t, os⟩ := I1.kept (t' := t) k2
 exact ⟨T.xc KX2, ⟨none, tt, hx2⟩, hxe pins σ H1 _ x' (.ref C) none I2 hR ⟨I1.fpOk hs' (I1.hok.fresh hs'), .inl ⟨_, _, hx2, rfl, rfl, rfl, rfl⟩⟩ hE⟩
end
def tCallR (R : St → Prop) (sp : Sp) (dvs : List V) (E : XK) (t : TA) : TE := fun σ H Q => t σ H fun vs H1 => R σ ∧ sp (vs ++ dvs) H1 Q E
def tMethR (R : St → Prop) (C : Addr) (m : Str) (sp : Sp) (dvs : List V) (E : XK) (ta : TE) (t : TA) : TE := fun σ H Q => ta σ H fun x H1 => ∃ a dx fs, x = .ref a ∧ H1 a = some (.ins C dx fs) ∧ fs.lookup m = none ∧
 t σ H1 fun vs H2 => R σ ∧ sp (x :: (vs ++ dvs)) H2 Q E
section
variable {X : Cx} {cm : Bool} {k : Nat} {f C : Addr} {fd : FuncData} {ps : List Str} {sp : Sp} {dvs : List V} {ds : List Value} {E : XK} {R : St → Prop} {x m : Str} {p pos apos : Pos} {e o : Expr} {es : List Expr} {ta : TE} {t : TA}
theorem run_fnR {pins : List (Addr × Obj)} {σ : St} {H : Hp} {s : Shared} {Q : VK} {us : List Value} {vs : List V} (F : FnOk X.prog X.w X.K X.mg X.base (CX1 X.prog X.w) cm k f fd ps sp) (hr : Room cm k X.A) (hb : Binds X.K fd ps ds) (hd : Vals dvs ds) (hx : XeIs X R E)
   (I : Inv X pins σ H s) (r : Vals vs us) (hR : R σ) (h : sp (vs ++ dvs) H Q E) : wpAny (model X.prog X.w) X.A (call (.ref f) us) (EP X pins σ Q) X.xe s := by
 have r2 : Vals (vs ++ dvs) (us ++ ds) := r.append hd
 have hl : (us ++ ds).length = ps.length := by rw [← r2.length]; exact F.len _ _ _ _ h
 refine wpAny_call (codeAny_mono (F.run X.A X.stack s H ⟨us, []⟩ (us ++ ds) (vs ++ dvs) Q E hr I.env0 (hb s us I.kIn hl) r2 h) fun r s' hq => ?_)
 cases r with
 | error e => exact pass1 hx I hR hq
 | ok fl =>
   cases fl with
   | ret u => exact I.after hq
   | next => exact False.elim hq
   | brk => exact False.elim hq
   | cont => exact False.elim hq
theorem pe_callR (F : FnOk X.prog X.w X.K X.mg X.base (CX1 X.prog X.w) cm k f fd ps sp) (hr : Room cm k X.A) (hg : Gl X x) (hm : X.mg x = some (.ref f)) (hk : PySem.W.keepIn X.K (.ref f) = true) (hb : Binds X.K fd ps ds) (hd : Vals dvs ds) (hx : XeIs X R E)
   (ha : PA X (e :: es) t) (hdb : (x == ("__debug__" : Str)) = false := by decide) (he : starEach (e :: es) X.env = (false, eval e X.env) :: starEach es X.env := by rfl) (hpl : (backTo pos (starEach es X.env)).any (·.1) = false := by rfl) :
   PE X (.Call (.Name x p) (e :: es) [] pos) (tCallR R sp dvs E t) := by
 intro pins s σ H Q I h
 refine wpAny_Call_Name_kw (ld_glob I hg hm ?_ hdb)
 refine PySem.W.callWith_K (h₀ := X.base) I.ok.mod.kin hk (thn (ha pos pins s σ H _ I h) fun us s1 ⟨vs, H1, I1, r, hR, q⟩ => ⟨I1.kIn, ?_⟩) he hpl
 exact run_fnR F hr hb hd hx I1 r hR q
theorem pe_methR {pl : Sem Bool} (he : PE X o ta) (c : Cls X.K C) (hm : Meth X.K C m f) (F : FnOk X.prog X.w X.K X.mg X.base (CX1 X.prog X.w) cm k f fd ps sp) (hr : Room cm k X.A) (hb : Binds X.K fd ps ds) (hd : Vals dvs ds) (hx : XeIs X R E) (ha : PA X (e :: es) t)
   (hst : starEach (e :: es) X.env = (false, eval e X.env) :: starEach es X.env := by rfl) (hpl : (backTo pos (starEach es X.env)).any (·.1) = false := by rfl)
   (ht : eval (.Call (.Attribute o m apos) (e :: es) [] pos) X.env = (do
     let ov ← eval o X.env
     standAt apos.atName
     let (f, first) ← holding [ov] (getMethod ov m pl)
     callWith pos f first (backTo pos (starEach (e :: es) X.env)) (backToKw pos (keywordEach [] X.env))) := by rfl) :
   PE X (.Call (.Attribute o m apos) (e :: es) [] pos) (tMethR R C m sp dvs E ta t) := by
 intro pins s σ H Q I h
 refine PySem.W.methodCall_KW (pl := pl) (thn (he pins s σ H _ I h) fun u s1 ⟨x, H1, I1, rx, a, dx, fs, ex, ea, l, q⟩ => ?_) ht
 subst ex
 obtain rfl : u = Value.ref a := rx
 refine getmeth_ok I1 ea c hm l ?_
 refine PySem.W.callWith_K (first := [.ref a]) (h₀ := X.base) I.ok.mod.kin hm.kp (thn (ha pos pins s1 σ H1 _ I1 q) fun us s2 ⟨vs, H2, I2, r, hR, q2⟩ => ⟨I2.kIn, ?_⟩) hst hpl
 exact run_fnR (us := .ref a :: us) (vs := .ref a :: vs) F hr hb hd hx I2 (.cons rfl r) hR q2
end
structure FunD (K : PySem.W.Frag) (x qual : Str) (st : Stmt) (f : Addr) (fd : FuncData) (dV : Value) : Prop where
 ex : ∃ (oc : Value) (od : Option Addr) (kV doc pm : Value) (an : Option Addr) (cdv ct : Value) (osl : Array (Option Value)),
   fd = PySem.W.fnOf x qual (defArgs st) (defBody st) (defScope st) dV kV doc pm an cdv ct ∧ K.lookup f = some ⟨oc, od, .func fd, osl⟩ ∧ PySem.W.codeIn K cdv qual = true
 kp : PySem.W.keepIn K (.ref f) = true
section
variable {P : Program} {w : World} {K : PySem.W.Frag} {mg : Str → Option Value} {base : Heap} {cm : Bool}
theorem FunD.okX {x qual : Str} {st : Stmt} {f : Addr} {fd : FuncData} {dV : Value} {N ps : List Str} {k : Nat} {sp : Sp} (F : FunD K x qual st f fd dV) (S : FnScope N ps (defScope st)) (len : ∀ vs H Q E, sp vs H Q E → vs.length = ps.length)
   (hbody : ∀ (cdv : Value) (A : Around) (outer : List Env) (s : Shared) (H : Hp) (vs : List V) (Q : VK) (E : XK), Room cm k (A.deeper (envOfC qual (defScope st) s.heap.objs.size f cdv)) → sp vs H Q E →
     ∃ t, PSs (cxOf (CX1 P w) cm P w K mg base N qual (defScope st) f cdv A outer s H E) (defBody st) t ∧ t { nx := fun _ H' => Q .non H', rt := Q } (start N vs) H) : FnOk P w K mg base (CX1 P w) cm (k + 1) f fd ps sp := by
 obtain ⟨oc, od, kV, doc, pm, an, cdv, ct, osl, rfl, lk, hcd⟩ := F.ex
 exact fn_of lk hcd S len fun A outer s H vs Q E hr hsp => hbody cdv A outer s H vs Q E hr hsp
theorem FunD.ok {x qual : Str} {st : Stmt} {f : Addr} {fd : FuncData} {dV : Value} {N ps : List Str} {k : Nat} {sp : Sp} (F : FunD K x qual st f fd dV) (S : FnScope N ps (defScope st)) (len : ∀ vs H Q E, sp vs H Q E → vs.length = ps.length)
   (hbody : ∀ (cdv : Value) (A : Around) (outer : List Env) (s : Shared) (H : Hp) (vs : List V) (Q : VK) (E : XK), Room cm k (A.deeper (envOfC qual (defScope st) s.heap.objs.size f cdv)) → sp vs H Q E →
     ∃ t, PSs (cxOf CX0 cm P w K mg base N qual (defScope st) f cdv A outer s H E).nox (defBody st) t ∧ t { nx := fun _ H' => Q .non H', rt := Q } (start N vs) H) : FnOk P w K mg base CX0 cm (k + 1) f fd ps sp := by
 obtain ⟨oc, od, kV, doc, pm, an, cdv, ct, osl, rfl, lk, hcd⟩ := F.ex
 refine fn_of lk hcd S len fun A outer s H vs Q E hr hsp => ?_
 obtain ⟨t, h, q⟩ := hbody cdv A outer s H vs Q E hr hsp
 exact ⟨t, h.nox, q⟩
theorem FunD.binds {x qual : Str} {st : Stmt} {f : Addr} {fd : FuncData} {dV : Value} {ps : List Str} (F : FunD K x qual st f fd dV)
   (h : ∀ (kV doc pm : Value) (an : Option Addr) (cdv ct : Value) (us : List Value), us.length = ps.length → bindArgs (PySem.W.fnOf x qual (defArgs st) (defBody st) (defScope st) dV kV doc pm an cdv ct) ⟨us, []⟩ = pure (ps.zip us)) : Binds K fd ps [] := by
 obtain ⟨oc, od, kV, doc, pm, an, cdv, ct, osl, rfl, lk, hcd⟩ := F.ex
 exact .all (h kV doc pm an cdv ct)
theorem funD_mk {x qual : Str} {st : Stmt} {f : Addr} {oc dV : Value} {od an : Option Addr} {osl : Array (Option Value)} {kV doc pm cdv ct : Value} (l : K.lookup f = some ⟨oc, od, .func (PySem.W.fnOf x qual (defArgs st) (defBody st) (defScope st) dV kV doc pm an cdv ct), osl⟩)
   (c : PySem.W.codeIn K cdv qual = true) (k : PySem.W.keepIn K (.ref f) = true) : FunD K x qual st f (PySem.W.fnOf x qual (defArgs st) (defBody st) (defScope st) dV kV doc pm an cdv ct) dV := ⟨⟨oc, od, kV, doc, pm, an, cdv, ct, osl, rfl, l, c⟩, k⟩
end
end L2
namespace L2
open PySem PySem.Spec PyProof.Rows L3
abbrev into (X : Cx) (pn : List (Addr × Obj)) (E : Value → Shared → Prop) : Cx := { X with pn := pn, xe := E }
abbrev sup (X : Cx) (x : Addr) : Cx := { X with A := X.A.mark (some (.ref x)), calm := false, xe := fun _ _ => False }
def excO (x : Addr) (C : Value) (dx : Option Addr) : HO := .ext fun h => ∃ o vs, h.get? x = some o ∧ o.cls = C ∧ o.dict = dx ∧ o.data = .fields vs
theorem excO_ok {P : Program} {w : World} {H : Hp} {h : Heap} {x : Addr} {C : Value} {dx : Option Addr} {tb : Value} (r : Rec h x C dx tb) : ObjOk P w H h x (excO x C dx) := by
 obtain ⟨oe, vs, he, hc, hd, hf, _⟩ := r
 refine ⟨⟨oe, vs, he, hc, hd, hf⟩, ⟨oe, he⟩, fun h1 h2 z k => ?_⟩
 obtain ⟨o, vs, e, q⟩ := z
 exact ⟨o, vs, k o e, q⟩
theorem excO_get {P : Program} {w : World} {H : Hp} {h : Heap} {x : Addr} {C : Value} {dx : Option Addr} (hok : HOk P w H h) (e : H x = some (excO x C dx)) : ∃ o vs, h.get? x = some o ∧ o.cls = C ∧ o.dict = dx ∧ o.data = .fields vs := by
 obtain ⟨q, _⟩ := (show ObjOk P w H h x (excO x C dx) from hok x _ e)
 exact q
section
variable {X : Cx} {pins pins' : List (Addr × Obj)} {σ : St} {H : Hp} {s : Shared} {E : Value → Shared → Prop} {D : Ends}
theorem ok_into (ok : X.Ok) (pn : List (Addr × Obj)) (E : Value → Shared → Prop) : (into X pn E).Ok :=
 ⟨ok.mod, ok.kind, ok.glob, ok.blt, ok.above, ok.inj, ok.has, ok.cab, ok.hd, ok.frames, ok.stk, ok.exf, ok.bs, ok.bsz, ok.noex, ok.exfs, ok.funs, ok.frf⟩
theorem ok_outof {pn : List (Addr × Obj)} (ok : (into X pn E).Ok) : X.Ok :=
 ⟨ok.mod, ok.kind, ok.glob, ok.blt, ok.above, ok.inj, ok.has, ok.cab, ok.hd, ok.frames, ok.stk, ok.exf, ok.bs, ok.bsz, ok.noex, ok.exfs, ok.funs, ok.frf⟩
theorem inv_into (I : Inv X pins σ H s) (E : Value → Shared → Prop) : Inv (into X (X.pn ++ pins) E) [] σ H s :=
 ⟨ok_into I.ok _ E, I.os, I.bare, I.base, I.loc, I.cell, I.free, I.freeC, fun p hp => I.pin p (by simpa using hp), I.hok, I.len⟩
theorem inv_outof (I : Inv (into X (X.pn ++ pins) E) pins' σ H s) : Inv X pins σ H s :=
 ⟨ok_outof I.ok, I.os, I.bare, I.base, I.loc, I.cell, I.free, I.freeC, fun p hp => I.pin p (List.mem_append_left _ hp), I.hok, I.len⟩
theorem ok_sup (ok : X.Ok) (x : Addr) : (sup X x).Ok :=
 ⟨ok.mod, ok.kind, ok.glob, ok.blt, ok.above, ok.inj, ok.has, ok.cab, fun z => (by cases z), ok.frames, ok.stk, ok.exf, ok.bs, ok.bsz, ok.noex, ok.exfs, ok.funs, ok.frf⟩
theorem inv_sup (I : Inv X pins σ H s) (x : Addr) : Inv (sup X x) pins σ H s := ⟨ok_sup I.ok x, I.os, I.bare, I.base, I.loc, I.cell, I.free, I.freeC, I.pin, I.hok, I.len⟩
theorem inv_unsup {x : Addr} (ok : X.Ok) (I : Inv (sup X x) pins σ H s) : Inv X pins σ H s := ⟨ok, I.os, I.bare, I.base, I.loc, I.cell, I.free, I.freeC, I.pin, I.hok, I.len⟩
theorem sp_outof {f : Flow} {s' : Shared} (h : SP (into X (X.pn ++ pins) E) [] D f s') : SP X pins D f s' := by
 cases f with
 | next => obtain ⟨σ', H', I, q⟩ := h; exact ⟨σ', H', inv_outof I, q⟩
 | brk => obtain ⟨σ', H', I, q⟩ := h; exact ⟨σ', H', inv_outof I, q⟩
 | cont => obtain ⟨σ', H', I, q⟩ := h; exact ⟨σ', H', inv_outof I, q⟩
 | ret u => obtain ⟨v, σ', H', I, r, q⟩ := h; exact ⟨v, σ', H', inv_outof I, r, q⟩
theorem fp_outof {b : Addr} (f : FpOk (into X (X.pn ++ pins) E) pins' H b) : FpOk X pins H b := by
 obtain ⟨f0, f1, f2, f3, f4, f5⟩ := f
 exact ⟨f0, f1, f2, f3, f4, fun p hp => f5 p (List.mem_append_left _ hp)⟩
theorem unbind_ok {M : Model} {A : Around} {i : Nat} {n : Str} {pos : Pos} {Q : Unit → Shared → Prop} (I : Inv X pins σ H s) (hN : X.N.Nodup) (hi : X.N[i]? = some n) (hl : X.env.scope.names.lookup n = some .local)
   (h : ∀ s', Inv X pins (σ.set i none) H s' → Q () s') : wpAny M A (do bindName X.env n .none; unbindBehindTheSuite X.env n pos) Q E s := by
 obtain ⟨m, hn, hlk⟩ := id I.loc
 have hcls : (X.env.scope.kind == .class || (X.env.scope.kind == .module && X.env.locals != X.env.globals)) = false := by rw [I.ok.kind]; rfl
 obtain ⟨oL, _, _, hoL, _⟩ := id hn
 have lt : ∀ b o, X.s₀.heap.get? b = some o → b ≠ X.env.locals := fun b o e => Nat.ne_of_lt (Nat.lt_of_lt_of_le (Heap.lt_size e) I.ok.above)
 refine wpAny_nameGoes_keeps hl hn hcls fun h' v hn' hs => h _ ⟨I.ok, I.os, I.bare, ⟨fun b o e n hb hx => ?_, fun b o e n hb hx => ?_, I.base.free, fun b o e hx => ?_, I.base.tups, I.base.frzs, I.base.tbls⟩, ⟨_, hn', fun j y v' e1 e2 e3 => ?_⟩, fun y c e => ?_, I.free, I.freeC, fun p hp => ?_, fun b u e => ?_, by simpa using I.len⟩
 · exact (hs.2 b (lt b o e)).trans (I.base.keep b o e n hb hx)
 · obtain ⟨sl, e1⟩ := I.base.slot b o e n hb hx
   exact ⟨sl, (hs.2 b (lt b o e)).trans e1⟩
 · obtain ⟨o', e1⟩ := I.base.there b o e hx
   exact ⟨o', (hs.2 b (lt b o e)).trans e1⟩
 · by_cases hj : j = i
   · subst hj
     have hiσ : j < σ.length := by rw [I.len]; exact (List.getElem?_eq_some_iff.mp hi).1
     rw [List.getElem?_set_self hiσ] at e2
     cases e2
   · rw [List.getElem?_set_ne (Ne.symm hj)] at e2
     obtain ⟨u', r', q⟩ := hlk j y v' e1 e2 e3
     refine ⟨u', r', ?_⟩
     rcases q with ⟨k, e⟩ | ⟨k, c, e, z⟩
     · refine .inl ⟨k, ?_⟩
       have : y ≠ n := fun e => hj (nodup_ix hN e1 (e ▸ hi))
       simp [this, e]
     · exact .inr ⟨k, c, e, z.sameBut hs (I.cne y c e)⟩
 · obtain ⟨w', z⟩ := I.cell y c e
   exact ⟨w', z.sameBut hs (I.cne y c e)⟩
 · obtain ⟨e, n, ne, nf, d⟩ := I.pin p hp
   exact ⟨(hs.2 p.1 ne).trans e, n, ne, nf, d⟩
 · refine (I.hok b u e).stay (fun c w' hc q => (hs.2 c ?_).trans q) (fun _ q => q) fun _ _ q => q
   rintro rfl
   rcases hc with rfl | hc
   · rw [I.free] at e; cases e
   · rw [I.free] at hc; cases hc
end
def tTry (K : PySem.W.Frag) (CB : Addr) (i : Nat) (tb : (St → Prop) → XK → TS) (ts : TS) : TS := fun D σ H =>
 tb (fun σ' => σ' = σ) (fun C dx H' => PySem.W.exmOne K C (.ref CB) = some true ∧ ∀ x, H' x = none →
   ts { nx := fun σ2 H2 => D.nx (σ2.set i none) H2, rt := D.rt, bk := fun σ2 H2 => D.bk (σ2.set i none) H2, ct := fun σ2 H2 => D.ct (σ2.set i none) H2 } (σ.set i (some (.ref x))) (upd H' x (excO x C dx))) D σ H
section
variable {X : Cx}
theorem ps_try {body suite : List Stmt} {b0 : Stmt} {y n : Str} {np hpos pos : Pos} {CB : Addr} {i : Nat} {tb : (St → Prop) → XK → TS} {ts : TS} (hN : X.N.Nodup) (hi : X.N[i]? = some n) (hl : X.env.scope.names.lookup n = some .local)
   (hst : X.stack = X.env :: X.outer) (hfr : X.env.frame = some X.env.locals) (hg : Gl X y) (hm : X.mg y = some (.ref CB))
   (hb : ∀ (pn : List (Addr × Obj)) (E : Value → Shared → Prop) (R : St → Prop) (Ek : XK), PassesOwn (model X.prog X.w) X.A X.env E → XeIs (into X pn E) R Ek → PSs (into X pn E) body (tb R Ek)) (hs : ∀ x, PSs (sup X x) (b0 :: suite) ts)
   (hdb : (y == ("__debug__" : Str)) = false := by decide) : PS X (.Try body [.ExceptHandler (some (.Name y np)) (some n) (b0 :: suite) hpos] [] [] pos) (tTry X.K CB i tb ts) := by
 intro pins s σ H D I h
 refine wpAny_Try_except ?_
 have hxe : XeIs (into X (X.pn ++ pins) (fun e s1 => wpAny (model X.prog X.w) X.A (noteFrame e X.env) (fun _ s2 => wpAny (model X.prog X.w) X.A (setFlight e none)
     (fun _ s3 => wpAny (model X.prog X.w) X.A (handleBy e X.env [.ExceptHandler (some (.Name y np)) (some n) (b0 :: suite) hpos]) (SP X pins D) X.xe s3) X.xe s2) X.xe s1)) (fun σ' => σ' = σ)
     (fun C dx H' => PySem.W.exmOne X.K C (.ref CB) = some true ∧ ∀ x, H' x = none →
       ts { nx := fun σ2 H2 => D.nx (σ2.set i none) H2, rt := D.rt, bk := fun σ2 H2 => D.bk (σ2.set i none) H2, ct := fun σ2 H2 => D.ct (σ2.set i none) H2 } (σ.set i (some (.ref x))) (upd H' x (excO x C dx))) := by
   rintro pins' σ' H' s' x C dx I' rfl ex ⟨hmt, hsu⟩
   have I1 : Inv X pins σ' H' s' := inv_outof I'
   have own : FpOk X pins H' x := fp_outof ex.own
   -- behind noteFrame and setFlight
   have fin : ∀ (T : Addr) (s3 : Shared), Inv X pins σ' H' s3 → FpOk X pins H' T → T ≠ x → Rec s3.heap x C dx (.ref T) → Tra s3.heap T .none →
       wpAny (model X.prog X.w) X.A (handleBy (.ref x) X.env [.ExceptHandler (some (.Name y np)) (some n) (b0 :: suite) hpos]) (SP X pins D) X.xe s3 := by
     intro T s3 I3 fT ne r3 t3
     have LT : PySem.W.Looks (model X.prog X.w) s3.heap (typeOf (.ref x)) C := by
       obtain ⟨oe, vs, he, hc, _⟩ := id r3
       exact hc ▸ (PySem.W.Looks.ld he).andThen .now
     refine wpAny_handleBy_cons (codeAny_handlers_test (ld_glob (X := sup X x) (inv_sup I3 x) hg hm ((PySem.W.exm_one I3.kIn LT hmt).here ?_) hdb)) (by intro z; cases z)
     show codeAny _ _ (.handlers (.ref x) [.ExceptHandler none (some n) (b0 :: suite) hpos] X.env) _ s3
     refine codeAny_handlers_suite_as (flight_none r3 ne t3 fun h4 a4 r4 t4 => ?_)
     have I4 : Inv X pins σ' H' { s3 with heap := h4 } := aft I3 (a4.mono (by simp) fun _ z => z) (by intro b hb; have : b = T := by simpa using hb
                                                                                                      subst this; exact fT)
     have I5 := track (o := excO x C dx) I4 own (excO_ok r4)
     refine store_ok (X := sup X x) (inv_sup I5 x) hN hi (.inl hl) (v := .ref x) rfl (fun s6 I6 => ?_) (.inr hl)
     refine wpAny_mono (hs x pins s6 _ _ _ I6 (hsu x own.1)) (fun f s7 q => ?_) fun _ _ z => z.elim
     cases f with
     | next => obtain ⟨σ7, H7, I7, q7⟩ := q; exact unbind_ok (inv_unsup I.ok I7) hN hi hl fun s8 I8 => ⟨_, _, I8, q7⟩
     | brk => obtain ⟨σ7, H7, I7, q7⟩ := q; exact unbind_ok (inv_unsup I.ok I7) hN hi hl fun s8 I8 => ⟨_, _, I8, q7⟩
     | cont => obtain ⟨σ7, H7, I7, q7⟩ := q; exact unbind_ok (inv_unsup I.ok I7) hN hi hl fun s8 I8 => ⟨_, _, I8, q7⟩
     | ret u => obtain ⟨v7, σ7, H7, I7, r7, q7⟩ := q; exact unbind_ok (inv_unsup I.ok I7) hN hi hl fun s8 I8 => ⟨v7, _, _, I8, r7, q7⟩
   have fr : X.A.frames = some (X.env :: X.outer) := by rw [I1.ok.frames, hst]
   have stk : s'.heap.FunFrames X.base (X.env :: X.outer) := by rw [← hst]; exact I1.stack
   have big : ∀ {T : Addr}, s'.heap.objs.size ≤ T → (∃ tb, Rec s'.heap x C dx tb) → T ≠ x := fun sz ⟨_, oe, _, he, _⟩ z => absurd (Nat.lt_of_lt_of_le (Heap.lt_size he) (z ▸ sz)) (Nat.lt_irrefl _)
   rcases ex.tr with r | ⟨T0, fl0, r, ne0, t0, f0⟩
   · refine note_new fr stk hfr r fun h' T a sz r' t' => ?_
     have J1 := aft I1 (by rw [hst]; exact a) (by intro b hb; have : b = x := by simpa using hb
                                                  subst this; exact own)
     have ne := big sz ⟨_, r⟩
     have fT := I1.fpOk (H' := H') sz (I1.hok.fresh sz)
     refine flight_none r' ne t' fun h2 a2 r2 t2 => ?_
     exact fin T _ (aft (h' := h2) J1 (a2.mono (by simp) fun _ z => z) (by intro b hb; have : b = T := by simpa using hb
                                                                           subst this; exact fT)) fT ne r2 t2
   · refine note_any fr stk hfr r ne0 t0 fun h' T fl' a sz r' t' => ?_
     have J1 := aft I1 (by rw [hst]; exact a) (by intro b hb
                                                  rcases (show b = x ∨ b = T0 by simpa using hb) with z | z
                                                  · subst z; exact own
                                                  · subst z; exact fp_outof f0)
     have ne : T ≠ x := by
       rcases sz with z0 | z0
       · rw [z0]; exact ne0
       · exact big z0 ⟨_, r⟩
     have fT : FpOk X pins H' T := by
       rcases sz with z0 | z0
       · rw [z0]; exact fp_outof f0
       · exact I1.fpOk (H' := H') z0 (I1.hok.fresh z0)
     refine flight_none r' ne t' fun h2 a2 r2 t2 => ?_
     exact fin T _ (aft (h' := h2) J1 (a2.mono (by simp) fun _ z => z) (by intro b hb; have : b = T := by simpa using hb
                                                                           subst this; exact fT)) fT ne r2 t2
 refine wpAny_mono (hb (X.pn ++ pins) _ _ _ PassesOwn.looking hxe [] s σ H D (inv_into I _) h) (fun f s1 q => ?_) fun _ _ z => z
 have q' := sp_outof q
 cases f with
 | next => exact wpAny_execs_nil q'
 | brk => exact q'
 | cont => exact q'
 | ret u => exact q'
end
end L2
namespace L2
open PySem PySem.Spec PyProof.Rows L3
theorem kitx_exc {K : PySem.W.Frag} {x C : Addr} (T : XCls K C) : PySem.W.KitX K (.ref x) (.ref C) (fun h => ∃ o, h.get? x = some o ∧ o.cls = .ref C) where
 ty := fun M h _ p => by
   obtain ⟨o, e, c⟩ := p
   exact c ▸ (PySem.W.Looks.ld e).andThen .now
 it := fun M h X _ => by
   obtain ⟨⟨nm, q, N, bs, sn, sub, ab, col, dd, k0, k1, k2, k3, k5, cC⟩, _⟩ := T.xc X
   intro A Q E s k z
   unfold isType loadHead
   exact wpAny_bind (wpAny_loadPart (k _ _ cC) (wpAny_pure z))
 ne := fun h tp dd its n sl X htp => by
   obtain ⟨⟨nm, q, N, bs, sn, sub, ab, col, dd', k0, k1, k2, k3, k5, cC⟩, _⟩ := T.xc X
   refine Bool.eq_false_iff.mpr fun z => ?_
   have e : C = tp := Value.ref.inj (beq_iff_eq.mp z)
   subst e
   rw [cC] at htp
   have z2 := congrArg Obj.data (Option.some.inj htp)
   cases z2
 ca := fun {P w A E Q s} X p k => by
   obtain ⟨o, e, c⟩ := p
   obtain ⟨h, g, d, t, os⟩ := s
   exact cls_attr PySem.F.excAttr_ValueError (T.xc X) (rds_of X T.ga) (rds_of X T.gh) (rds_of X T.cl) e c k
inductive TyX (K : PySem.W.Frag) (H : Hp) : V → Value → Prop where
 | of {x : V} {t : Value} (e : TyOf K H x t) : TyX K H x t
 | exc {a C : Addr} {dx : Option Addr} (e : H a = some (excO a (.ref C) dx)) (T : XCls K C) : TyX K H (.ref a) (.ref C)
def clsV : V → Option Value
 | .ty n => some (.type n)
 | .ref a => some (.ref a)
 | _ => none
theorem clsV_is {c : V} {u t : Value} (e : clsV c = some u) (r : RelV c t) : t = u := by
 cases c with
 | ty n => cases e; exact r
 | ref a => cases e; exact r
 | _ => cases e
def rIs (K : PySem.W.Frag) : List V → Hp → VK → Prop := fun xs H Q => ∃ x c t u b, xs = [x, c] ∧ TyX K H x t ∧ clsV c = some u ∧ PySem.W.kitOne K t u = some b ∧ Q (.bl b) H
section
variable {X : Cx}
theorem call_is : CallR X (.builtin "isinstance") (rIs X.K) := by
 intro pins s σ H xs us Q I r h
 obtain ⟨x, c, t, u, b, rfl, ty, hc, e, q⟩ := h
 cases r with
 | cons r1 r2 =>
   cases r2 with
   | cons r2 r3 =>
     cases r3
     rename_i v1 v2
     rw [clsV_is hc r2]
     cases ty with
     | of ty => exact isinst_ok I r1 ty e fun tk => ⟨.bl b, H, I.tok _, rfl, q⟩
     | @exc a C dx ea T =>
       cases (show v1 = Value.ref a from r1)
       obtain ⟨o, vs, e1, e2, _⟩ := excO_get I.hok ea
       exact PySem.W.kia_one (kitx_exc T) I.kIn ⟨o, e1, e2⟩ e (fun z => nomatch z) fun tk => ⟨.bl b, H, I.tok _, rfl, q⟩
end
def tFldX (K : PySem.W.Frag) (ta : TE) (f : Str) : TE := fun σ H Q => ta σ H fun x H1 => ∃ a C dx fs v, x = .ref a ∧ H1 a = some (excO a (.ref C) (some dx)) ∧ H1 dx = some (.xd fs) ∧ XCls K C ∧ NoAttr K C f ∧ fs.lookup f = some v ∧ Q v H1
section
variable {X : Cx} {e : Expr} {f : Str} {pos : Pos} {ta : TE}
theorem pe_fldX (he : PE X e ta) (hb : attributeBase e f X.env (eval e X.env) = eval e X.env) : PE X (.Attribute e f pos) (tFldX X.K ta f) := by
 intro pins s σ H Q I h
 refine attr_of hb (thn (he pins s σ H _ I h) fun u s1 ⟨x, H1, I1, rx, a, C, dx, fs, v, ex, ea, ed, T, n, l, q⟩ => ?_)
 subst ex
 obtain rfl : u = Value.ref a := rx
 obtain ⟨o, vs, e1, e2, e3, e4⟩ := excO_get I1.hok ea
 obtain ⟨mA, hn, rel⟩ := (show ObjOk X.prog X.w H1 s1.heap dx (.xd fs) from I1.hok dx _ ed)
 obtain ⟨w', hw, rw'⟩ := RelO.some_of (v := v) (o := mA f) (by rw [← l]; exact rel f)
 obtain ⟨hp, g, d, t, os⟩ := s1
 exact get_attr PySem.F.excAttr_ValueError (T.xc I1.kIn) (rds_of I1.kIn T.ga) (rds_of I1.kIn T.gh) (rds_of I1.kIn n) e1 e2 e4 e3 hn hw (PySem.W.handedOut_of (handed_of rw')) ⟨v, H1, I1.tok _, rw', q⟩
end
end L2
namespace L2
open PySem PySem.Spec PyProof.Rows L3
def bareO (x : Addr) (C : Value) (dx : Option Addr) : HO := .ext fun h => ∃ t, h.get? x = some { cls := C, dict := dx, data := .fields #[.ref t, .none, .none, .none, .bool false, .none] }
theorem bareO_ok {P : Program} {w : World} {H : Hp} {h : Heap} {x t : Addr} {C : Value} {dx : Option Addr} (e : h.get? x = some { cls := C, dict := dx, data := .fields #[.ref t, .none, .none, .none, .bool false, .none] }) : ObjOk P w H h x (bareO x C dx) :=
 ⟨⟨t, e⟩, ⟨_, e⟩, fun h1 h2 ⟨t', z⟩ k => ⟨t', k _ z⟩⟩
theorem bareO_get {P : Program} {w : World} {H : Hp} {h : Heap} {x : Addr} {C : Value} {dx : Option Addr} (hok : HOk P w H h) (e : H x = some (bareO x C dx)) : ∃ t, h.get? x = some { cls := C, dict := dx, data := .fields #[.ref t, .none, .none, .none, .bool false, .none] } :=
 (show ObjOk P w H h x (bareO x C dx) from hok x _ e).1
theorem within_xd {fs : List (Str × V)} {mA : Str → Option Value} (rel : ∀ f, RelO (fs.lookup f) (mA f)) : PySem.Within mA (fs.map (·.1)) := fun g hg => by
 cases q : fs.lookup g with
 | none => exact absurd (RelO.none_of (by rw [← q]; exact rel g)) hg
 | some v => exact List.mem_map.mpr ⟨(g, v), PySem.mem_of_lookup q, rfl⟩
theorem rel_put {fs : List (Str × V)} {mA : Str → Option Value} {f : Str} {y : V} {u : Value} (rel : ∀ g, RelO (fs.lookup g) (mA g)) (ry : RelV y u) (g : Str) : RelO ((putF f y fs).lookup g) (if g = f then some u else mA g) := by
 rw [lookup_putF]
 by_cases q : g = f
 · rw [if_pos q, if_pos q]; exact ry
 · rw [if_neg q, if_neg q]; exact rel g
section
variable {X : Cx} {pins : List (Addr × Obj)} {σ : St} {H : Hp} {s : Shared} {A : Around} {E : Value → Shared → Prop} {a C : Addr} {f : Str} {y : V} {u : Value} {Q : Unit → Shared → Prop}
theorem setb_new (I : Inv X pins σ H s) (ea : H a = some (bareO a (.ref C) none)) (T : XCls X.K C) (n : NoAttr X.K C f) (ry : RelV y u)
   (h : ∀ d s', H d = none → d ≠ a → Inv X pins σ (upd (upd H d (.xd (putF f y []))) a (bareO a (.ref C) (some d))) s' → Q () s') : wpAny (model X.prog X.w) A (setAttr (.ref a) f u) Q E s := by
 obtain ⟨t, e0⟩ := bareO_get I.hok ea
 obtain ⟨hp, g, dr, tk, os⟩ := s
 have KX := I.kIn
 refine set_attr (mA := fun _ => none) (ns := []) PySem.F.store_ValueError (T.xc KX) (T.pass KX) (rds_of KX T.sa) (rds_of KX n) ⟨_, e0, rfl, (fun c z => nomatch z), .inl ⟨rfl, fun _ => rfl⟩⟩ (fun g hg => absurd rfl hg) (Nat.zero_le _) fun h' tk' st => ?_
 obtain ⟨⟨o', i1, i2, i3, i4⟩, keep, same, newd⟩ := st
 obtain ⟨o1, s1, s2, s3, s4, _⟩ := same _ e0
 obtain ⟨o2, n1, n2⟩ := newd _ e0 rfl
 have q1 : o2 = o1 := Option.some.inj (n1.symm.trans s1)
 have q2 : o' = o1 := Option.some.inj (i1.symm.trans s1)
 rw [q1] at n2
 rw [q2] at i4
 have hne : hp.objs.size ≠ a := Nat.ne_of_gt (Heap.lt_size e0)
 have hd : H hp.objs.size = none := I.hok.fresh (Nat.le_refl _)
 rcases i4 with ⟨z, _⟩ | ⟨d', z, z2, ns⟩
 · rw [n2] at z; cases z
 · rw [n2] at z
   cases z
   have e1 : h'.get? a = some { cls := .ref C, dict := some hp.objs.size, data := .fields #[.ref t, .none, .none, .none, .bool false, .none] } := by
     rw [s1]
     obtain ⟨oc, od, odt, osl⟩ := o1
     dsimp only at s2 s3 s4 n2
     subst s2 s3 s4 n2
     rfl
   have kp : ∀ b o, b ≠ a → hp.get? b = some o → h'.get? b = some o := fun b o hb e => keep b o hb (fun o0 dx q1 q2 => by rw [e0] at q1; cases q1; cases q2) e
   refine h hp.objs.size _ hd hne (I.step (g' := g) (d' := dr) (t' := tk') (ch := []) (fun _ z => nomatch z) (fun b o _ _ _ e nb => kp b o (fun z => by rw [z, ea] at nb; cases nb) e) (fun b o _ _ _ e nb => ⟨o.slots, kp b o (fun z => by rw [z, ea] at nb; cases nb) e⟩)
     (fun b o _ e nb => ?_) (fun b o _ e => ?_) (fun b xs e => ?_) (fun b o v e => ?_) (fun b ps e => ?_) (fun m hm => ?_) (fun b v e => ?_) I.bare)
   · rw [upd_ne (fun z => by rw [z, ea] at nb; cases nb), upd_ne (Nat.ne_of_lt (Heap.lt_size e))]
     exact nb
   · by_cases hb : b = a
     · exact ⟨_, hb ▸ e1⟩
     · exact ⟨o, kp b o hb e⟩
   · rw [upd_ne (fun z => by rw [z, ea] at e; cases e), upd_ne (ne_of_none e hd)]
     exact e
   · rw [upd_ne (fun z => by rw [z, ea] at e; cases e), upd_ne (ne_of_none e hd)]
     exact e
   · exact ⟨#[], by rw [upd_ne (fun z => by rw [z, ea] at e; cases e), upd_ne (ne_of_none e hd), e]; simp⟩
   · obtain ⟨o, es, ep, ho, r⟩ := hm
     exact ⟨o, es, ep, kp _ o (fun z => by have q := I.free; rw [z, ea] at q; cases q) ho, r⟩
   · by_cases hb : b = a
     · subst hb
       rw [upd_same] at e
       cases e
       exact bareO_ok e1
     · rw [upd_ne hb] at e
       by_cases hb2 : b = hp.objs.size
       · subst hb2
         rw [upd_same] at e
         cases e
         exact ⟨_, ns, fun g => rel_put (fs := []) (mA := fun _ => none) (fun _ => True.intro) ry g⟩
       · rw [upd_ne hb2] at e
         refine (I.hok b v e).stay (fun c o hc q => kp c o (fun z => ?_) q) (fun c q => ?_) fun c xs q => ?_
         · rcases hc with rfl | hc
           · exact hb z
           · rw [z, ea] at hc; cases hc
         · rw [upd_ne (fun z => by rw [z, ea] at q; cases q), upd_ne (ne_of_none q hd)]; exact q
         · rw [upd_ne (fun z => by rw [z, ea] at q; cases q), upd_ne (ne_of_none q hd)]; exact q
theorem setb_more {d : Addr} {fs : List (Str × V)} (I : Inv X pins σ H s) (ea : H a = some (bareO a (.ref C) (some d))) (ed : H d = some (.xd fs)) (T : XCls X.K C) (n : NoAttr X.K C f) (hl : fs.length < 1000) (ry : RelV y u)
   (h : ∀ s', Inv X pins σ (upd H d (.xd (putF f y fs))) s' → Q () s') : wpAny (model X.prog X.w) A (setAttr (.ref a) f u) Q E s := by
 obtain ⟨t, e0⟩ := bareO_get I.hok ea
 obtain ⟨mA, hn, rel⟩ := (show ObjOk X.prog X.w H s.heap d (.xd fs) from I.hok d _ ed)
 obtain ⟨hp, g, dr, tk, os⟩ := s
 have KX := I.kIn
 have hda : d ≠ a := fun z => by rw [z, ea] at ed; cases ed
 refine set_attr (mA := mA) (ns := fs.map (·.1)) PySem.F.store_ValueError (T.xc KX) (T.pass KX) (rds_of KX T.sa) (rds_of KX n) ⟨_, e0, rfl, (fun c z => nomatch z), .inr ⟨d, rfl, hda, hn⟩⟩ (within_xd rel) (by rw [List.length_map, sizeLine_eq]; omega) fun h' tk' st => ?_
 obtain ⟨⟨o', i1, i2, i3, i4⟩, keep, same, newd⟩ := st
 obtain ⟨o1, s1, s2, s3, s4, s5⟩ := same _ e0
 have n2 := s5 d rfl
 have q2 : o' = o1 := Option.some.inj (i1.symm.trans s1)
 rw [q2] at i4
 rcases i4 with ⟨z, _⟩ | ⟨d', z, z2, ns⟩
 · rw [n2] at z; cases z
 · rw [n2] at z
   cases z
   have e1 : h'.get? a = some { cls := .ref C, dict := some d, data := .fields #[.ref t, .none, .none, .none, .bool false, .none] } := by
     rw [s1]
     obtain ⟨oc, od, odt, osl⟩ := o1
     dsimp only at s2 s3 s4 n2
     subst s2 s3 s4 n2
     rfl
   have kp : ∀ b o, b ≠ d → hp.get? b = some o → h'.get? b = some o := fun b o hb e => by
     by_cases z : b = a
     · rw [z] at e ⊢
       rw [e0] at e
       cases e
       exact e1
     · exact keep b o z (fun o0 dx q1 q2 => by rw [e0] at q1; cases q1; cases q2; exact hb) e
   refine h _ (I.step (g' := g) (d' := dr) (t' := tk') (ch := []) (fun _ z => nomatch z) (fun b o _ _ _ e nb => kp b o (fun z => by rw [z, ed] at nb; cases nb) e) (fun b o _ _ _ e nb => ⟨o.slots, kp b o (fun z => by rw [z, ed] at nb; cases nb) e⟩)
     (fun b o _ e nb => ?_) (fun b o _ e => ?_) (fun b xs e => ?_) (fun b o v e => ?_) (fun b ps e => ?_) (fun m hm => ?_) (fun b v e => ?_) I.bare)
   · rw [upd_ne (fun z => by rw [z, ed] at nb; cases nb)]
     exact nb
   · by_cases hb : b = d
     · obtain ⟨od, _, _, q, _⟩ := ns
       exact ⟨_, hb ▸ q⟩
     · exact ⟨o, kp b o hb e⟩
   · rw [upd_ne (fun z => by rw [z, ed] at e; cases e)]
     exact e
   · rw [upd_ne (fun z => by rw [z, ed] at e; cases e)]
     exact e
   · exact ⟨#[], by rw [upd_ne (fun z => by rw [z, ed] at e; cases e), e]; simp⟩
   · obtain ⟨o, es, ep, ho, r⟩ := hm
     exact ⟨o, es, ep, kp _ o (fun z => by have q := I.free; rw [z, ed] at q; cases q) ho, r⟩
   · by_cases hb : b = d
     · subst hb
       rw [upd_same] at e
       cases e
       exact ⟨_, ns, fun g => rel_put rel ry g⟩
     · rw [upd_ne hb] at e
       refine (I.hok b v e).stay (fun c o hc q => kp c o (fun z => ?_) q) (fun c q => ?_) fun c xs q => ?_
       · rcases hc with rfl | hc
         · exact hb z
         · rw [z, ed] at hc; cases hc
       · rw [upd_ne (fun z => by rw [z, ed] at q; cases q)]; exact q
       · rw [upd_ne (fun z => by rw [z, ed] at q; cases q)]; exact q
theorem letgo {x : Addr} {C : Value} {dx : Option Addr} (I : Inv X pins σ H s) (e : H x = some (bareO x C dx)) : Inv X pins σ (fun b => if b = x then none else H b) s := by
 have go : ∀ {b : Addr} {o : HO}, (fun b => if b = x then none else H b) b = some o → H b = some o := fun {b o} q => by
   dsimp only at q
   split at q
   · cases q
   · exact q
 have off : ∀ {b : Addr}, H b = none → (fun b => if b = x then none else H b) b = none := fun {b} q => by
   dsimp only
   split
   · rfl
   · exact q
 have on : ∀ {b : Addr} {o : HO}, H b = some o → o ≠ bareO x C dx → (fun b => if b = x then none else H b) b = some o := fun {b o} q ne => by
   dsimp only
   rw [if_neg (fun z => ne (by rw [z, e] at q; exact (Option.some.inj q).symm))]
   exact q
 refine ⟨I.ok, I.os, I.bare, ⟨I.base.keep, I.base.slot, fun b ob q n hx => off (I.base.free b ob q n hx), I.base.there, fun b xs q => on (I.base.tups b xs q) (fun z => nomatch z), fun b ob u q => on (I.base.frzs b ob u q) (fun z => nomatch z), fun b ps q => ?_⟩, I.loc, I.cell, off I.free, fun y c q => off (I.freeC y c q), fun p hp => ?_, fun b u q => ?_, I.len⟩
 · obtain ⟨more, q'⟩ := I.base.tbls b ps q
   exact ⟨more, on q' (fun z => nomatch z)⟩
 · obtain ⟨q, n, r⟩ := I.pin p hp
   exact ⟨q, off n, r⟩
 · exact (I.hok b u (go q)).stay (fun _ _ _ z => z) (fun c z => on z (fun z => nomatch z)) fun c xs z => on z (fun z => nomatch z)
end
def sFldB (K : PySem.W.Frag) (ta tv : TE) (f : Str) : TS := fun D σ H => tv σ H fun y H1 => ta σ H1 fun x H2 => ∃ a C, x = .ref a ∧ XCls K C ∧ NoAttr K C f ∧
 ((H2 a = some (bareO a (.ref C) none) ∧ ∀ d, H2 d = none → d ≠ a → D.nx σ (upd (upd H2 d (.xd (putF f y []))) a (bareO a (.ref C) (some d)))) ∨
  (∃ d fs, H2 a = some (bareO a (.ref C) (some d)) ∧ H2 d = some (.xd fs) ∧ fs.length < 1000 ∧ D.nx σ (upd H2 d (.xd (putF f y fs)))))
section
variable {X : Cx} {o value : Expr} {f : Str} {pos pos' : Pos} {ta tv : TE}
theorem ps_fldB (ha : PE X o ta) (hv : PE X value tv) (hs : swapsWith value (some (.Attribute o f pos')) pos.line X.env = pure false) : PS X (.Assign [.Attribute o f pos'] value pos) (sFldB X.K ta tv f) := by
 intro pins s σ H D I h
 refine plainObj_wpAny_Assign_Attribute (thn (hv pins s σ H _ I h) fun u s1 ⟨y, H1, I1, ry, q⟩ => thn (ha pins s1 σ H1 _ I1 q) fun ov s2 ⟨x, H2, I2, rx, a, C, ex, T, n, q2⟩ => ?_) hs
 subst ex
 obtain rfl : ov = Value.ref a := rx
 rcases q2 with ⟨ea, q2⟩ | ⟨d, fs, ea, ed, l, q2⟩
 · exact setb_new I2 ea T n ry fun d s3 hd hda I3 => ⟨σ, _, I3, q2 d hd hda⟩
 · exact setb_more I2 ea ed T n l ry fun s3 I3 => ⟨σ, _, I3, q2⟩
end
def tRaiseI (R : St → Prop) (C : Addr) (sp : Sp) (ta : TA) (Ek : XK) : TS := fun _ σ H => ta σ H fun vs H1 => vs.length ≤ sizeLine ∧ R σ ∧ ∀ x, H1 x = none →
 sp (.ref x :: vs) (upd H1 x (bareO x (.ref C) none)) (fun v H2 => v = .non ∧ ∃ dx, H2 x = some (bareO x (.ref C) dx) ∧ Ek (.ref C) dx (fun b => if b = x then none else H2 b)) E0
section
variable {X : Cx} {cm : Bool} {k : Nat} {fI : Addr} {fd : FuncData} {ps : List Str} {sp : Sp} {x : Str} {C : Addr} {np cpos pos : Pos} {e : Expr} {es : List Expr} {ta : TA} {R : St → Prop} {Ek : XK}
theorem ps_raiseI (hc : X.calm = true) (hxe : XeIs X R Ek) (hg : Gl X x) (hm : X.mg x = some (.ref C)) (T : XCls X.K C) (hi : PySem.W.findIn X.K (.ref C) "__init__" = some (some (.ref fI))) (hfn : PySem.W.isFn X.K (.ref fI) = true)
   (F : FnOk X.prog X.w X.K X.mg X.base CX0 cm k fI fd ps sp) (hr : Room cm (k + 1) X.A) (hb : Binds X.K fd ps []) (ha : PA X (e :: es) ta)
   (hdb : (x == ("__debug__" : Str)) = false := by decide) (he : starEach (e :: es) X.env = (false, eval e X.env) :: starEach es X.env := by rfl) (hpl : (backTo cpos (starEach (e :: es) X.env)).any (·.1) = false := by rfl) :
   PS X (.Raise (some (.Call (.Name x np) (e :: es) [] cpos)) none pos) (tRaiseI R C sp ta Ek) := by
 intro pins s σ H D I h
 refine raise_call (C := C) (bm := bmOf X.K C) (iv := .ref fI) (I.ok.hd hc) hpl (ld_glob I hg hm ⟨rfl, ?_⟩ hdb)
 have hbk : backTo cpos (starEach (e :: es) X.env) = (false, eval e X.env) :: backTo cpos (starEach es X.env) := by rw [he]; rfl
 rw [hbk]
 refine Calls.evalArgs_plain ?_
 rw [← hbk]
 refine thn (ha cpos pins s σ H _ I h) fun us s1 ⟨vs, H1, I1, r, hl, hR, hE⟩ => ?_
 have hlen : us.length ≤ sizeLine := by rw [← r.length]; exact hl
 refine ⟨rfl, hlen, T.xc I1.kIn, rds_of I1.kIn hi, fun h' x' hm' hs' => ?_⟩
 obtain ⟨hp, g, d, t, os⟩ := s1
 have nx : H1 x' = none := I1.hok.fresh hs'
 have fx : FpOk X pins H1 x' := I1.fpOk hs' nx
 obtain ⟨tt, hx2, htn, ht⟩ := hm'.there
 have I2 : Inv X pins σ H1 ⟨h', g, d, t, os⟩ := I1.kept (t' := t) hm'.keeps
 have I3 := track (o := bareO x' (.ref C) none) I2 fx (bareO_ok hx2)
 refine PySem.W.Looks.here (s := ⟨h', g, d, t, os⟩) (PySem.W.bind_fn I3.kIn (.ref x') (beq_iff_eq.mp hfn)) ?_
 have sp1 := hE x' nx
 have rv : Vals (.ref x' :: vs) (.ref x' :: us) := .cons rfl r
 have hln : (Value.ref x' :: us).length = ps.length := by rw [← rv.length]; exact F.len _ _ _ _ sp1
 have hbi : BindsTo ⟨h', g, d, t, os⟩ fd ⟨.ref x' :: us, []⟩ (ps.zip (.ref x' :: us)) := by
   have z := hb ⟨h', g, d, t, os⟩ (.ref x' :: us) I3.kIn (by rw [List.append_nil]; exact hln)
   rw [List.append_nil] at z
   exact z
 refine wpAny_call (codeAny_mono (F.run _ X.stack _ _ ⟨.ref x' :: us, []⟩ (.ref x' :: us) (.ref x' :: vs) _ E0 (hr.make C us []) (I3.env0.make C us []) hbi rv sp1) fun rr s4 hq => ?_)
 cases rr with
 | error e => exact False.elim hq
 | ok fl =>
   cases fl with
   | next => exact False.elim hq
   | brk => exact False.elim hq
   | cont => exact False.elim hq
   | ret u =>
     obtain ⟨v, H2, os2, bare2, un2, hok2, rv2, rfl, dx, ex, hEk⟩ := hq
     have I4 : Inv X pins σ H2 s4 := I3.call' os2 un2 hok2 bare2 (ch := []) (fun _ z => nomatch z)
     obtain ⟨t4, e4⟩ := bareO_get I4.hok ex
     have I5 := letgo I4 ex
     refine ⟨rv2, T.xc I4.kIn, ⟨dx, t4, e4⟩, hxe pins σ _ s4 x' (.ref C) dx I5 hR ⟨⟨if_pos rfl, fx.2⟩, .inl ⟨_, _, e4, rfl, rfl, rfl, rfl⟩⟩ hEk⟩
end
end L2
namespace L2
open PySem PySem.Spec PyProof.Rows L3
section
variable {X : Cx}
theorem op_mulB : OpR X (binaryOp .Mult) (rI IntMulOk fun i j => .int (i * j)) := opI fun _ _ _ _ _ _ _ hc q => mul_int q hc
theorem op_fdivB : OpR X (binaryOp .FloorDiv) (rI (fun _ j => j ≠ 0 ∧ j.natAbs.log2 < 9000) fun i j => .int (i.fdiv j)) := opI fun _ _ _ _ _ _ _ hc q => floordiv_int hc.1 q (.inl (PyProof.noPylong_of_log2 hc.2))
end
theorem bits_of {x : Int} (lo : -(2 ^ 250 * 2 ^ 250 * 2 ^ 250 * 2 ^ 250) ≤ x) (hi : x ≤ 2 ^ 250 * 2 ^ 250 * 2 ^ 250 * 2 ^ 250) : Builtin.Int.intBits x ≤ 1001 := by
 refine PySem.intBits_le_iff.mpr ?_
 have e : (2 : Nat) ^ 1001 = 2 ^ 250 * 2 ^ 250 * 2 ^ 250 * 2 ^ 250 * 2 := by
   rw [show (1001 : Nat) = 250 + 250 + 250 + 250 + 1 from rfl, Nat.pow_add, Nat.pow_add, Nat.pow_add, Nat.pow_add]
 rw [e]
 omega
theorem log_of {y : Int} (h0 : y ≠ 0) (lo : -(2 ^ 250 * 2 ^ 250 * 2 ^ 250 * 2 ^ 250) ≤ y) (hi : y ≤ 2 ^ 250 * 2 ^ 250 * 2 ^ 250 * 2 ^ 250) : y ≠ 0 ∧ y.natAbs.log2 < 9000 := by
 have q := PySem.intBits_le_iff.mp (bits_of lo hi)
 have n0 : y.natAbs ≠ 0 := by omega
 have := (Nat.log2_lt n0).mpr q
 exact ⟨h0, by omega⟩
theorem mul_of {x y : Int} (l1 : -(2 ^ 250 * 2 ^ 250 * 2 ^ 250 * 2 ^ 250) ≤ x) (h1 : x ≤ 2 ^ 250 * 2 ^ 250 * 2 ^ 250 * 2 ^ 250) (l2 : -(2 ^ 250 * 2 ^ 250 * 2 ^ 250 * 2 ^ 250) ≤ y) (h2 : y ≤ 2 ^ 250 * 2 ^ 250 * 2 ^ 250 * 2 ^ 250) : IntMulOk x y :=
 PySem.IntMulOk.of_le (bits_of l1 h1) (bits_of l2 h2) (by decide)
theorem decT {p : Prop} [Decidable p] {A B : Prop} (h : p) (k : A) : if decide p = true then A else B := by rw [if_pos (decide_eq_true h)]; exact k
theorem decF {p : Prop} [Decidable p] {A B : Prop} (h : ¬ p) (k : B) : if decide p = true then A else B := by rw [if_neg (by simpa using h)]; exact k
theorem dec2 {p : Prop} [Decidable p] {A B : Prop} (h1 : p → A) (h2 : ¬ p → B) : if decide p = true then A else B := by
 by_cases h : p
 · exact decT h (h1 h)
 · exact decF h (h2 h)
theorem ndecT {p : Prop} [Decidable p] {A B : Prop} (h : ¬ p) (k : A) : if (!decide p) = true then A else B := by rw [if_pos (by simp [h])]; exact k
theorem ndecF {p : Prop} [Decidable p] {A B : Prop} (h : p) (k : B) : if (!decide p) = true then A else B := by rw [if_neg (by simp [h])]; exact k
theorem ndec2 {p : Prop} [Decidable p] {A B : Prop} (h1 : ¬ p → A) (h2 : p → B) : if (!decide p) = true then A else B := by
 by_cases h : p
 · exact ndecF h (h2 h)
 · exact ndecT h (h1 h)
end L2
namespace L2
open PySem PySem.Spec PyProof.Rows L3
theorem bt_len : bootBuiltins "len" = some (.builtin "len") := by decide +kernel
theorem bt_isinstance : bootBuiltins "isinstance" = some (.builtin "isinstance") := by decide +kernel
theorem bt_int : bootBuiltins "int" = some (.type "int") := by decide +kernel
theorem bt_bool : bootBuiltins "bool" = some (.type "bool") := by decide +kernel
theorem bt_tuple : bootBuiltins "tuple" = some (.type "tuple") := by decide +kernel
theorem bt_list : bootBuiltins "list" = some (.type "list") := by decide +kernel
theorem bt_str : bootBuiltins "str" = some (.type "str") := by decide +kernel
theorem bt_ValueError : bootBuiltins "ValueError" = some (.type "ValueError") := by decide +kernel
def Def (K : PySem.W.Frag) (mg : Str → Option Value) (x : Str) (st : Stmt) (dV : Value) : Prop := ∃ f fd, FunD K x x st f fd dV ∧ mg x = some (.ref f)
def Cal (P : Program) (w : World) (K : PySem.W.Frag) (mg : Str → Option Value) (base : Heap) (CX : CXT) (cm : Bool) (k : Nat) (x : Str) (ps : List Str) (ds : List V) (sp : Sp) : Prop :=
 ∃ f fd dvs, FnOk P w K mg base CX cm k f fd ps sp ∧ mg x = some (.ref f) ∧ PySem.W.keepIn K (.ref f) = true ∧ Binds K fd ps [] ∧ Vals ds dvs ∧ Binds K fd ps dvs
end L2
namespace L2
open PySem PySem.Spec PyProof.Rows L3
theorem xe_off {X : Cx} : XeIs X (fun _ => True) E0 := fun _ _ _ _ _ _ _ _ _ _ z => z.elim
end L2
namespace L2
open PySem PySem.Spec PyProof.Rows L3
theorem Room.sup {cm : Bool} {k : Nat} {A : Around} (r : Room cm k A) (h : Option Value) : Room false k (A.mark h) := ⟨(fun z => nomatch z), r.dp, r.un⟩
end L2
namespace L2
open PySem PySem.Spec PyProof.Rows L3
def eqPl : V → Bool
 | .byt _ => false
 | .flt _ => false
 | _ => true
theorem eqAt_self {A : Around} {s : Shared} {x : V} {v u : Value} (hp : eqPl x = true) (r : RelV x v) (r' : RelV x u) : SeqAt.EqAt A s v u true := by
 cases x with
 | non => cases r; cases r'; exact SeqAt.EqAt.same _
 | bl b => cases r; cases r'; exact SeqAt.EqAt.same _
 | int i =>
   obtain ⟨t, rfl⟩ := r
   obtain ⟨t', rfl⟩ := r'
   have := SeqAt.EqAt.int_int (A := A) (s := s) i t i t'
   rw [beq_self_eq_true] at this
   exact this
 | str i =>
   obtain ⟨t, rfl⟩ := r
   obtain ⟨t', rfl⟩ := r'
   have := SeqAt.EqAt.str_str (A := A) (s := s) i t i t'
   rw [beq_self_eq_true] at this
   exact this
 | byt b => cases hp
 | flt b => cases hp
 | ref a => cases r; cases r'; exact SeqAt.EqAt.same _
 | ty n => cases r; cases r'; exact SeqAt.EqAt.same _
theorem vals_at : ∀ {xs : List V} {us : List Value}, Vals xs us → ∀ j (h : j < us.length), ∃ x, xs[j]? = some x ∧ RelV x us[j] := by
 intro xs us r
 induction r with
 | nil => intro j h; cases h
 | cons r rr ih =>
   intro j h
   cases j with
   | zero => exact ⟨_, rfl, r⟩
   | succ j => exact ih j (by simpa using h)
end L2
namespace L2
open PySem PySem.Spec PyProof.Rows L3
def Cx.inC (X : Cx) (scope : Scope) (cl : List (Str × Addr)) (C : Addr) (s2 : Shared) (H2 : Hp) (fp : List Addr) (N' : List Str) (xe : Value → Shared → Prop) : Cx :=
 { X with N := N', s₀ := s2, H₀ := H2, env := compEnvC scope cl C X.env, outer := X.stack, ex := fp, fn := fun _ => false, pn := [], xe := xe }
def tLC (wi : TI) (te : TE) (js : List Nat) : TE := fun σ H Q => wi σ H fun J H1 => ∃ W : Nat → Nat → List V → Hp → Prop, (∃ m, W 0 m [] H1) ∧ ∀ i m ys H, W i m ys H →
 (J.stop i H ∧ ∀ l, H l = none → Q (.ref l) (upd H l (.lst ys))) ∨ (J.go i H ∧ ys.length < sizeLine ∧ ∃ N : VK, (∀ y H2, N y H2 → ∃ m', m' < m ∧ W (i + 1) m' (ys ++ [y]) H2) ∧ ∀ x H', J.yld i H x H' → te (some x :: js.map (fun j => σ.getD j none)) H' N)
section
variable {X : Cx}
structure LcOk (X : Cx) (x : Str) (scope : Scope) (cl : List (Str × Addr)) (js : List Nat) : Prop where
 clos : closureFor scope X.env = pure cl
 sub : ∀ y c, cl.lookup y = some c → X.env.cells.lookup y = some c
 kind : scope.kind = .function
 cell : ∀ y ∈ scope.names, y.2 ≠ .cell
 names : ∀ y ∈ scope.names, y.2 = .local → scope.names.lookup y.1 = some .local
 loc : scope.names.lookup x = some .local
 has : ∀ y, (((relabel scope X.env).names.lookup y = some .cell) ∨ ((relabel scope X.env).names.lookup y = some .free)) → ∃ c, cl.lookup y = some c
 nd : (x :: js.map (fun j => X.N.getD j "")).Nodup
 fr : ∀ j ∈ js, ∃ y, X.N[j]? = some y ∧ X.env.kindOf y = some .cell ∧ (relabel scope X.env).names.lookup y = some .cell ∧ ∃ c, cl.lookup y = some c
theorem Inv.inC {x : Str} {scope : Scope} {cl : List (Str × Addr)} {js : List Nat} {pins : List (Addr × Obj)} {σ : St} {H2 : Hp} {s2 : Shared} {fp : List Addr} {C D : Addr} {h1 : Heap} {xe : Value → Shared → Prop} {oD : Obj} {m0 : Str → Option Value}
   (L : LcOk X x scope cl js) (I2 : Inv X pins σ H2 s2) (f2 : ∀ b ∈ fp, FpOk X pins H2 b) (fo : ∀ b ∈ fp, ∃ o, s2.heap.get? b = some o) (hC : s2.heap.objs.size ≤ C) (hD : s2.heap.objs.size ≤ D) (hDC : D ≠ C)
   (old : ∀ b o, s2.heap.get? b = some o → h1.get? b = some o) (hns : h1.Ns C m0) (hoD : h1.get? D = some oD) (hdD : ∀ v, oD.data ≠ .cell v) {t' : Nat} :
   Inv (X.inC scope cl C s2 H2 fp (x :: js.map (fun j => X.N.getD j "")) xe) [(D, oD)] (none :: js.map (fun j => σ.getD j none)) H2 { s2 with heap := h1, toks := t' } where
 ok := {
   mod := I2.ok.mod
   kind := L.kind
   glob := I2.ok.glob
   blt := I2.ok.blt
   above := hC
   inj := fun a b c e1 e2 => I2.ok.inj a b c (L.sub a c e1) (L.sub b c e2)
   has := fun y hy => L.has y hy
   cab := fun _ _ z => nomatch z
   hd := I2.ok.hd
   frames := I2.ok.frames
   stk := .inl rfl
   exf := fun b hb => by
     obtain ⟨o, e⟩ := fo b hb
     refine ⟨Nat.ne_of_lt (Nat.lt_of_lt_of_le (Heap.lt_size e) hC), fun y c e' => ?_⟩
     exact (f2 b hb).2.2.2.2.1 y c (L.sub y c e')
   bs := fun b o e => I2.bs b o e
   bsz := Nat.le_trans I2.ok.bsz I2.sz
   noex := fun b o e hb => by
     rcases (f2 b hb).2.2.2.1 with z | z
     · exact I2.ok.noex b o e z
     · exact absurd (Nat.lt_of_lt_of_le (Heap.lt_size e) (Nat.le_trans I2.ok.bsz z)) (Nat.lt_irrefl _)
   exfs := fun b hb z => by
     rcases List.mem_cons.mp (I2.stkSub b z) with e | e
     · exact (f2 b hb).2.1 e
     · exact (f2 b hb).2.2.1 e
   funs := I2.stack
   frf := I2.stkFree }
 os := rfl
 bare := I2.bare
 base := Un.kept old
 loc := by
   refine ⟨m0, hns, fun i y v e1 e2 e3 => ?_⟩
   cases i with
   | zero => cases e2
   | succ k =>
     have e1' : (js.map (fun j => X.N.getD j ""))[k]? = some y := e1
     have e2' : (js.map (fun j => σ.getD j none))[k]? = some (some v) := e2
     rw [List.getElem?_map] at e1' e2'
     cases hj : js[k]? with
     | none => rw [hj] at e1'; cases e1'
     | some j =>
       rw [hj] at e1' e2'
       obtain ⟨y', n1, n2, n3, c, n4⟩ := L.fr j (List.mem_of_getElem? hj)
       have e1'' : X.N.getD j "" = y := Option.some.inj e1'
       have e2'' : σ.getD j none = some v := Option.some.inj e2'
       have : y' = y := by
         rw [List.getD, n1] at e1''
         exact e1''
       subst this
       have hσ : σ[j]? = some (some v) := by
         rw [List.getD] at e2''
         cases q : σ[j]? with
         | none => rw [q] at e2''; cases e2''
         | some z => rw [q] at e2''; exact congrArg some e2''
       obtain ⟨m, hn, hl⟩ := I2.loc
       obtain ⟨u, r, l⟩ := hl j y' v n1 hσ (.inr (.inl n2))
       refine ⟨u, r, ?_⟩
       rcases l with ⟨k1, _⟩ | ⟨_, c', k2, k3⟩
       · rw [n2] at k1; cases k1
       · have : c' = c := by
           have := L.sub _ _ n4
           rw [k2] at this
           exact Option.some.inj this
         subst this
         obtain ⟨o, ho, hd⟩ := k3
         exact .inr ⟨.inl n3, c', n4, o, old _ _ ho, hd⟩
 cell := fun y c e => by
   obtain ⟨v, o, ho, hd⟩ := I2.cell y c (L.sub y c e)
   exact ⟨v, o, old _ _ ho, hd⟩
 free := I2.hok.fresh hC
 freeC := fun y c e => I2.freeC y c (L.sub y c e)
 pin := fun p hp => by
   have e : p = (D, oD) := by simpa [Cx.inC] using hp
   subst e
   refine ⟨hoD, I2.hok.fresh hD, hDC, fun z => ?_, hdD⟩
   rcases List.mem_cons.mp (I2.stkSub D z) with e | e
   · exact absurd I2.lt (by rw [← e]; exact Nat.not_lt.mpr hD)
   · exact I2.nofs hD e
 hok := I2.hok.kept old
 len := by simp [Cx.inC]
theorem lc_core {elt iter : Expr} {x : Str} {px pos cpos : Pos} {scope : Scope} {cl : List (Str × Addr)} {wi : TI} {te : TE} {js : List Nat} {use : Option (Value → Sem Unit)} {Qc : Value → Shared → Prop} {pins : List (Addr × Obj)} {s : Shared} {σ : St} {H : Hp} {Q : VK}
   (hc : X.calm = true) (L : LcOk X x scope cl js) (hi : PI X (.Name x px) iter wi) (G : Cx → Prop)
   (he : ∀ C s2 H2 fp xe, G (X.inC scope cl C s2 H2 fp (x :: js.map (fun j => X.N.getD j "")) xe) → PE (X.inC scope cl C s2 H2 fp (x :: js.map (fun j => X.N.getD j "")) xe) elt te)
   (hG : ∀ (C D : Addr) (s2 : Shared) (H2 : Hp) (fp : List Addr), Inv X pins σ H2 s2 → (∀ b ∈ fp, FpOk X pins H2 b) → (∀ b ∈ fp, ∃ o, s2.heap.get? b = some o) → s2.heap.objs.size < C →
     G (X.inC scope cl C s2 H2 fp (x :: js.map (fun j => X.N.getD j "")) (notedBy (model X.prog X.w) X.A (compEnvC scope cl C X.env) fun e s' => compPost (model X.prog X.w) X.A X.xe use Qc (.ref D) C (.error e) s')))
   (hs : ∀ z, foldedSetIterable iter X.env z = pure z) (I : Inv X pins σ H s) (h : tLC wi te js σ H Q)
   (fin : ∀ (D C : Addr) (H4 : Hp) (s4 : Shared) (m : Str → Option Value), s4.heap.Ns C m → FpOk X pins H4 C → (∀ h', Heap.SameBut C s4.heap h' → Inv X pins σ H4 { s4 with heap := h' }) → Q (.ref D) H4 → compPost (model X.prog X.w) X.A X.xe use Qc (.ref D) C (.ok .next) s4) :
   wpAny (model X.prog X.w) X.A (comprehension (.ListComp elt [⟨.Name x px, iter, [], 0⟩] scope pos) scope X.env cpos (newList []) false (eval iter X.env) use) Qc X.xe s := by
 refine wpAny_comprehension_free (cl := cl) (use := use) rfl hs L.clos L.kind L.names ?_
 refine thn (hi pins s σ H _ I h) fun v s1 h1 => thn h1 fun itv s2 h2 => ?_
 obtain ⟨it, fp, tn, J, H2, e, I2, T, st2, f2, W, ⟨k0, w0⟩, turn⟩ := h2
 subst e
 refine wpAny_newObj_type (wpAny_newFunctionEnv L.cell (by intro y hy; simp at hy) (fun h₁ hns₁ hsb₁ => ?_) L.kind)
 dsimp only at hns₁ hsb₁ ⊢
 generalize hH2 : s2.heap.push { cls := .type "list", dict := none, data := .seq ([] : List Value).toArray } = Hp2 at hns₁ hsb₁ ⊢
 have hC : Hp2.objs.size = s2.heap.objs.size + 1 := by rw [← hH2, Heap.size_push]
 generalize hD0 : s2.heap.objs.size = D at hC ⊢
 generalize hC0 : Hp2.objs.size = C at hC hns₁ hsb₁ ⊢
 have hDC : D ≠ C := by omega
 have below : ∀ b, b < D → b ≠ C := fun b hb => by omega
 have old : ∀ b o, s2.heap.get? b = some o → h₁.get? b = some o := fun b o e =>
   hsb₁.extBut b o (below b (by rw [← hD0]; exact Heap.lt_size e)) (Heap.get?_push_of_some _ (hH2 ▸ Heap.get?_push_of_some _ e))
 have hacc : h₁.get? D = some { cls := .type "list", data := .seq ([] : List Value).toArray 0 } := by
   subst hD0
   exact hsb₁.extBut _ _ hDC (Heap.get?_push_of_some _ (hH2 ▸ Heap.get?_push_size _ rfl))
 have fo : ∀ b ∈ fp, ∃ o, s2.heap.get? b = some o := fun b hb => let ⟨o, e, _⟩ := T.obj _ _ st2 b hb; ⟨o, e⟩
 have flt : ∀ b ∈ fp, b < D := fun b hb => let ⟨o, e⟩ := fo b hb; by rw [← hD0]; exact Heap.lt_size e
 have st1 : tn 0 h₁ := T.keep _ _ _ st2 fun b hb o e => old b o e
 have gx := hG C D s2 H2 fp I2 f2 fo (by omega)
 let R := compPost (model X.prog X.w) X.A X.xe use Qc (.ref D) C
 let xe := notedBy (model X.prog X.w) X.A (compEnvC scope cl C X.env) fun e s' => R (.error e) s'
 let X' := X.inC scope cl C s2 H2 fp (x :: js.map (fun j => X.N.getD j "")) xe
 have I0 : ∀ {t' : Nat}, Inv X' [(D, _)] (none :: js.map (fun j => σ.getD j none)) H2 { s2 with heap := h₁, toks := t' } := fun {t'} =>
   Inv.inC L I2 f2 fo (by omega) (by omega) hDC old hns₁ hacc (fun v z => by cases z)
 have fpk : ∀ {pD : List (Addr × Obj)} {H' : Hp}, (∀ p ∈ pD, p.1 = D) → (∀ b ∈ fp, H' b = none) → ∀ b ∈ fp, FpOk X' pD H' b := fun {pD H'} hp hn b hb => by
   refine ⟨hn b hb, below b (flt b hb), fun z => ?_, .inl hb, fun y c e => (f2 b hb).2.2.2.2.1 y c (L.sub y c e), fun p hp' z => ?_⟩
   · rcases List.mem_cons.mp (I2.stkSub b z) with e | e
     · exact (f2 b hb).2.1 e
     · exact (f2 b hb).2.2.1 e
   · have q := hp p (by simpa [X', Cx.inC] using hp')
     have := flt b hb
     rw [← z, q] at this
     exact Nat.lt_irrefl _ this
 have loop : ∀ s3 : Shared, (∃ k i ys H' its n σ0, Inv X' [(D, { cls := .type "list", data := .seq (its : List Value).toArray n })] (σ0 :: js.map (fun j => σ.getD j none)) H' s3 ∧ tn i s3.heap ∧ (∀ b ∈ fp, H' b = none) ∧ W i k ys H' ∧ Vals ys its ∧ ys.length ≤ sizeLine) →
     codeAny (model X.prog X.w) X.A (.compLoop (.ListComp elt [⟨.Name x px, iter, [], 0⟩] scope pos) 0 (.ref it) (.ref D) (compEnvC scope cl C X.env)) R s3 := by
   rintro s3 ⟨k, hk⟩
   refine codeAny_loop rfl (fun k s3 => ∃ i ys H' its n σ0, Inv X' [(D, { cls := .type "list", data := .seq (its : List Value).toArray n })] (σ0 :: js.map (fun j => σ.getD j none)) H' s3 ∧ tn i s3.heap ∧ (∀ b ∈ fp, H' b = none) ∧ W i k ys H' ∧ Vals ys its ∧ ys.length ≤ sizeLine) (fun k s3 hI => ?_) k hk
   obtain ⟨i, ys, H3, its, n, σ0, I3, st3, fr3, w3, vy, hz⟩ := hI
   show wpAny _ _ ((compTurn (.ListComp elt [⟨.Name x px, iter, [], 0⟩] scope pos) 0 (.ref it) (.ref D) (compEnvC scope cl C X.env)).onRaise (fun x => do noteFrame x (compEnvC scope cl C X.env); theTreesLotGoes x)) _ _ s3
   refine wpAny_noted ?_
   rw [compTurn_list1]
   have hpD : ∀ {o : Obj}, ∀ p ∈ [(D, o)], p.1 = D := fun p hp => by rw [List.mem_singleton.mp hp]
   refine wpAny_bind (wpAny_standAt (wpAny_bind ?_))
   rcases turn i k ys H3 w3 with ⟨stop, qn⟩ | ⟨go, hlen, N, hN, step⟩
   · refine thn (T.done X' rfl rfl rfl hc i _ s3 _ H3 xe I3 (fpk hpD fr3) st3 stop) fun r s4 ⟨hr, I4⟩ => ?_
     subst hr
     refine wpAny_pure ?_
     obtain ⟨m, hn, _⟩ := I4.loc
     obtain ⟨eD, nD, _⟩ := I4.pin (D, _) (List.mem_append_right _ (List.mem_singleton.mpr rfl))
     have fC : FpOk X pins (upd H3 D (.lst ys)) C := I2.fpOk (by omega) (by
       rw [upd_ne (Ne.symm hDC)]
       exact I4.free)
     refine fin D C (upd H3 D (.lst ys)) s4 m hn fC (fun h' sb => ?_) (qn D nD)
     obtain ⟨hh, g, d, t, os'⟩ := s4
     obtain rfl : os' = s2.os := I4.os
     have kp : ∀ b o, b ≠ C → hh.get? b = some o → h'.get? b = some o := fun b o hb e => (sb.2 b hb).trans e
     have lt2 : ∀ b o, s2.heap.get? b = some o → b ≠ C ∧ b ≠ D := fun b o e => by
       have q : b < D := by rw [← hD0]; exact Heap.lt_size e
       exact ⟨below b q, Nat.ne_of_lt q⟩
     have B : Un (frs X.stack) fp H2 H3 s2.heap hh := I4.base
     have hDn : H3 D = none := nD
     have I5 : Inv X pins σ (upd H3 D (.lst ys)) { s2 with heap := h', gens := g, drawn := d, toks := t } := by
       refine I2.call (h' := h') (g' := g) (d' := d) (t' := t) (ch := fp) ⟨?_, ?_, ?_, ?_, ?_, ?_, ?_⟩ ?_ I4.bare ?_
       · exact fun b o e n hb hx => kp b o (lt2 b o e).1 (B.keep b o e n hb hx)
       · intro b o e n hb hx
         obtain ⟨sl, q⟩ := B.slot b o e n hb hx
         exact ⟨sl, kp b _ (lt2 b o e).1 q⟩
       · intro b o e n hx
         rw [upd_ne (lt2 b o e).2]
         exact B.free b o e n hx
       · intro b o e hx
         obtain ⟨o', q⟩ := B.there b o e hx
         exact ⟨o', kp b o' (lt2 b o e).1 q⟩
       · intro b xs e
         have q := B.tups b xs e
         rw [upd_ne (ne_of_none q hDn)]
         exact q
       · intro b o u e
         have q := B.frzs b o u e
         rw [upd_ne (ne_of_none q hDn)]
         exact q
       · intro b ps e
         obtain ⟨more, q⟩ := B.tbls b ps e
         exact ⟨more, by rw [upd_ne (ne_of_none q hDn)]; exact q⟩
       · intro b u e
         by_cases hb : b = D
         · subst hb
           rw [upd_same] at e
           cases e
           exact ⟨hz, its, n, vy, kp _ _ hDC eD⟩
         · rw [upd_ne hb] at e
           have nC : ∀ c o, H3 c = some o → c ≠ C := fun c o q => ne_of_none q I4.free
           refine (I4.hok b u e).stay (fun c v hc' q => kp c v ?_ q) (fun c q => by rw [upd_ne (ne_of_none q hDn)]; exact q) fun c xs q => by rw [upd_ne (ne_of_none q hDn)]; exact q
           rcases hc' with z | z
           · rw [z]; exact nC b u e
           · exact nC c _ z
       · intro b hb
         obtain ⟨_, f1, _, f3, f4, f5⟩ := f2 b hb
         exact ⟨f3, f1, f4, f5⟩
     exact I5
   · refine thn (T.item X' rfl rfl rfl hc i _ s3 _ H3 xe I3 (fpk hpD fr3) st3 go) fun r s4 ⟨u, hr, h4⟩ => ?_
     subst hr
     refine wpAny_bind (thn h4 fun _ s5 ⟨xv, H5, I5, r5, y5, st5, fr5⟩ => ?_)
     have I5' := I5.pinned (fpk hpD fr5) (T.obj _ _ st5)
     refine wpAny_bind (thn (pg_name (X := X') (i := 0) L.nd rfl (Or.inl (lookup_relabel_local L.loc)) (Or.inr (lookup_relabel_local L.loc)) _ s5 _ H5 xv u (fun σ6 H6 => σ6 = some xv :: js.map (fun j => σ.getD j none) ∧ H6 = H5) I5' r5 ⟨rfl, rfl⟩) fun _ s6 ⟨σ6, H6, I6, e6, e6'⟩ => ?_)
     subst e6 e6'
     refine wpAny_bind (wpAny_bind (thn (he C s2 H2 fp xe gx _ s6 _ _ _ I6 (step xv _ y5)) fun y s7 ⟨yv, H7, I7, ry, n7⟩ => ?_))
     obtain ⟨m', hm, w7⟩ := hN yv H7 n7
     have I7' := I7.unpinned
     obtain ⟨eD, nD, neC, nfs, _⟩ := I7'.pin (D, _) (List.mem_append_right _ (List.mem_singleton.mpr rfl))
     have eD' : s7.heap.get? D = some { cls := .type "list", data := .seq its.toArray n } := eD
     have lv := vy.length
     refine wpAny_bind (call_meets F.slot_list_append ⟨_, eD', rfl⟩ F.entry_list_append (F.args_list_append_2 _ _) (PySem.list_append D its.toArray n y (by rw [List.size_toArray]; omega)) ⟨eD', ?_⟩)
     refine wpAny_pure (wpAny_pure ⟨rfl, m', hm, i + 1, ys ++ [yv], H7, its ++ [y], ?_⟩)
     have q := PySem.IsL.update eD' (fun a : Array Value => a.push y)
     have I8 : Inv X' [] (some xv :: js.map (fun j => σ.getD j none)) H7 { s7 with heap := s7.heap.update D (Obj.mapSeq (fun a : Array Value => a.push y)) } :=
       (I7'.pins_of (pins' := []) (fun p hp => nomatch hp)).turned (t' := s7.toks) (it := D) (fun b o hb e => (Heap.get?_update_other s7.heap _ (Ne.symm hb)).trans e) nD neC (.inr (by show s2.heap.objs.size ≤ D; omega))
         (fun z c e w => by
           obtain ⟨v', o', ho', _⟩ := I2.cell z c (L.sub z c e)
           have := Heap.lt_size ho'
           rw [w, hD0] at this
           exact Nat.lt_irrefl _ this) (fun p hp => nomatch hp)
     have pinf : ∀ b ∈ fp, ∀ o, s5.heap.get? b = some o → s7.heap.get? b = some o ∧ H7 b = none := fun b hb o e => by
       have z := I7.pin (b, o) (List.mem_append_right _ (List.mem_append_right _ (mem_pinsAt hb e)))
       exact ⟨z.1, z.2.1⟩
     obtain ⟨n', q'⟩ : ∃ n', (s7.heap.update D (Obj.mapSeq (fun a : Array Value => a.push y))).get? D = some { cls := .type "list", data := .seq (its ++ [y]).toArray n' } := by
       rw [show (its ++ [y]).toArray = its.toArray.push y by simp]
       exact ⟨_, q⟩
     refine ⟨n', some xv, I8.pins_of fun p hp => ?_, ?_, fun b hb => ?_, w7, vy.append (.cons ry .nil), by rw [List.length_append, List.length_singleton]; omega⟩
     · rw [List.mem_singleton.mp hp]
       exact ⟨q', nD, neC, nfs, fun v z => by cases z⟩
     · refine T.keep _ _ _ st5 fun b hb o e => ?_
       have hb' : D ≠ b := fun z => by
         have := flt b hb
         rw [← z] at this
         exact Nat.lt_irrefl _ this
       exact (Heap.get?_update_other s7.heap _ hb').trans (pinf b hb o e).1
     · obtain ⟨o, e, _⟩ := T.obj _ _ st5 b hb
       exact (pinf b hb o e).2
 have start : ∀ {t' : Nat}, ∃ k i ys H' its n σ0, Inv X' [(D, { cls := .type "list", data := .seq (its : List Value).toArray n })] (σ0 :: js.map (fun j => σ.getD j none)) H' { s2 with heap := h₁, toks := t' } ∧ tn i h₁ ∧ (∀ b ∈ fp, H' b = none) ∧ W i k ys H' ∧ Vals ys its ∧ ys.length ≤ sizeLine := fun {t'} =>
   ⟨k0, 0, [], H2, [], 0, none, I0, st1, fun b hb => (f2 b hb).1, w0, .nil, Nat.zero_le _⟩
 exact codeAny_compStart_list (loop _ start) (T.self X.A 0 _ _ _ st1 (loop _ start))
theorem pe_lc {elt iter : Expr} {x : Str} {px pos : Pos} {scope : Scope} {cl : List (Str × Addr)} {wi : TI} {te : TE} (js : List Nat) (hc : X.calm = true) (L : LcOk X x scope cl js) (hi : PI X (.Name x px) iter wi)
   (he : ∀ C s2 H2 fp xe, PE (X.inC scope cl C s2 H2 fp (x :: js.map (fun j => X.N.getD j "")) xe) elt te)
   (hs : ∀ z, foldedSetIterable iter X.env z = pure z := by intro _; rfl) :
   PE X (.ListComp elt [⟨.Name x px, iter, [], 0⟩] scope pos) (tLC wi te js) := by
 intro pins s σ H Q I h
 rw [eval_ListComp]
 exact lc_core (use := none) hc L hi (fun _ => True) (fun C s2 H2 fp xe _ => he C s2 H2 fp xe) (fun _ _ _ _ _ _ _ _ _ => trivial) hs I h fun D C H4 s4 m hn _ I4 q => ⟨m, hn, fun h' sb => ⟨.ref D, H4, I4 h' sb, rfl, q⟩⟩
theorem ps_setLC {i : Nat} {t : Str} {elt iter : Expr} {x : Str} {px pos cpos pos' : Pos} {scope : Scope} {cl : List (Str × Addr)} {wi : TI} {te : TE} (js : List Nat) (hN : X.N.Nodup) (hi' : X.N[i]? = some t) (hx : Loc X.env.scope t) (hc : X.calm = true) (L : LcOk X x scope cl js) (hi : PI X (.Name x px) iter wi)
   (he : ∀ C s2 H2 fp xe, PE (X.inC scope cl C s2 H2 fp (x :: js.map (fun j => X.N.getD j "")) xe) elt te)
   (hs : ∀ z, foldedSetIterable iter X.env z = pure z := by intro _; rfl) (hsw : swapsWith (.ListComp elt [⟨.Name x px, iter, [], 0⟩] scope cpos) (some (.Name t pos')) pos.line X.env = pure true := by rfl)
   (hf : X.fn t = true ∨ X.env.scope.names.lookup t = some .local := by first | exact .inl rfl | exact .inr rfl | assumption) :
   PS X (.Assign [.Name t pos'] (.ListComp elt [⟨.Name x px, iter, [], 0⟩] scope cpos) pos) (tAsg (tLC wi te js) (gName i)) := by
 intro pins s σ H D I h
 rw [exec_Assign_Name_used _ _ _ _ hsw]
 refine wpAny_bind (wpAny_standAt (wpAny_bind ?_))
 show wpAny _ X.A (do let _ ← comprehension (.ListComp elt [⟨.Name x px, iter, [], 0⟩] scope cpos) scope X.env _ (newList []) false (eval iter X.env) (some (assign (.Name t pos') X.env))) _ _ s
 refine wpAny_bind (wpAny_mono (lc_core (use := some (assign (.Name t pos') X.env)) (Qc := fun _ s' => SP X pins D .next s') hc L hi (fun _ => True) (fun C s2 H2 fp xe _ => he C s2 H2 fp xe) (fun _ _ _ _ _ _ _ _ _ => trivial) hs I h fun Dl C H4 s4 m hn fC I4 q => ?_) (fun _ s' hq => wpAny_pure (wpAny_pure hq)) fun _ _ e => e)
 show wpAny (model X.prog X.w) X.A (assign (.Name t pos') X.env (.ref Dl)) _ X.xe s4
 obtain ⟨oC, es, ep, hoC, hdC, rC⟩ := id hn
 have I4' : Inv X (pins ++ pinsAt [C] s4.heap) σ H4 s4 := (I4 s4.heap (.refl ..)).pinned (fun b hb => by rw [List.mem_singleton.mp hb]; exact fC) fun b hb => by
   rw [List.mem_singleton.mp hb]
   exact ⟨oC, hoC, fun v z => by rw [hdC] at z; cases z⟩
 refine thn (pg_name hN hi' hx hf _ s4 σ H4 (.ref Dl) (.ref Dl) D.nx I4' rfl q) fun _ s5 ⟨σ5, H5, I5, q5⟩ => ?_
 obtain ⟨e5, n5, _⟩ := I5.pin (C, oC) (List.mem_append_right _ (List.mem_append_right _ (mem_pinsAt (List.mem_singleton.mpr rfl) hoC)))
 refine ⟨m, ⟨oC, es, ep, e5, hdC, rC⟩, fun h' sb => ⟨σ5, H5, ?_, q5⟩⟩
 obtain ⟨_, f1, _, f3, f4, f5⟩ := fC
 exact I5.unpinned.turned (t' := s5.toks) (it := C) (fun b o hb e => (sb.2 b hb).trans e) n5 f1 f3 f4 f5
end
end L2
namespace L2
open PySem PySem.Spec PyProof.Rows L3
theorem lc_list {K : PySem.W.Frag} {a : Addr} {xs : List V} {T : V → Hp → VK → Prop} {R : Addr → Hp → List V → Prop} {H : Hp} (Pv : Nat → List V → Hp → Prop) (h0 : Pv 0 [] H) (hn : xs.length ≤ sizeLine) (hl : ∀ i ys H, i ≤ xs.length → Pv i ys H → SqL K H a xs ∧ ys.length = i)
   (hs : ∀ i x ys H, xs[i]? = some x → Pv i ys H → T x H fun y H2 => Pv (i + 1) (ys ++ [y]) H2) (hd : ∀ ys H, Pv xs.length ys H → ∀ l, H l = none → R l H ys) :
   ∃ W : Nat → Nat → List V → Hp → Prop, (∃ m, W 0 m [] H) ∧ ∀ i m ys H, W i m ys H →
     ((Itl K a).stop i H ∧ ∀ l, H l = none → R l H ys) ∨ ((Itl K a).go i H ∧ ys.length < sizeLine ∧ ∃ N : VK, (∀ y H2, N y H2 → ∃ m', m' < m ∧ W (i + 1) m' (ys ++ [y]) H2) ∧ ∀ x H', (Itl K a).yld i H x H' → T x H' N) := by
 refine ⟨fun i m ys H => m = xs.length - i ∧ i ≤ xs.length ∧ Pv i ys H, ⟨xs.length, by simp, Nat.zero_le _, h0⟩, ?_⟩
 rintro i m ys H ⟨rfl, hi, p⟩
 obtain ⟨q, hy⟩ := hl i ys H hi p
 by_cases hlt : i < xs.length
 · refine .inr ⟨⟨xs, xs[i], q, by simp [hlt]⟩, by omega, fun y H2 => Pv (i + 1) (ys ++ [y]) H2, fun y H2 p' => ⟨xs.length - (i + 1), by omega, rfl, hlt, p'⟩, fun x H' ⟨e, y⟩ => ?_⟩
   subst e
   exact hs i x ys _ (y xs q) p
 · have e : i = xs.length := by omega
   subst e
   exact .inl ⟨⟨xs, q, Nat.le_refl _⟩, hd ys H p⟩
theorem ints_of : ∀ {ns : List Int} {its : List Value}, Vals (ns.map V.int) its → IntsAre its ns
 | [], _, .nil => .nil
 | n :: r, _, .cons ⟨t, e⟩ rr => by
   subst e
   exact .cons n t (ints_of rr)
theorem of_ints {its : List Value} {ns : List Int} (h : IntsAre its ns) : Vals (ns.map V.int) its := by
 induction h with
 | nil => exact .nil
 | cons n t h ih => exact .cons ⟨t, rfl⟩ ih
section
variable {X : Cx}
theorem call_sum {k : Nat} (hr : Room true k X.A) : CallR X (.builtin "sum") (fun xs H Q => ∃ (p : Addr) (ns : List Int), xs = [.ref p] ∧ SqL X.K H p (ns.map V.int) ∧ Q (.int ns.sum) H) := by
 intro pins s σ H xs us Q I r h
 obtain ⟨p, ns, rfl, hq, q⟩ := h
 obtain ⟨u, rfl, rx⟩ := vals1 r
 cases rx
 obtain ⟨its, r', pl, hz⟩ := I.list hq
 have hi := ints_of r'
 obtain ⟨xs, hx⟩ := hi.allInts.items
 have hl' : s.heap.IsList p (intItems xs) := hx ▸ pl.isList
 refine sum_intListG (hr.hd rfl) hl' fun h' tk t' hk => ?_
 have e1 : ns = xs.toList.map (·.1) := by
   rw [← nums_intItems, ← hx]
   exact (show numsOf its.toArray.toList = ns from hi.numsOf).symm
 have e2 : preSum (numAt xs) xs.size = ns.sum := by
   rw [preSum_eq, List.take_of_length_le (by simp), e1]
 rw [e2]
 exact ⟨.int ns.sum, H, I.kept hk, ⟨t', rfl⟩, q⟩
end
theorem lookup_relabel_not {env : Env} {k : NameKind} : ∀ {names : List (Str × NameKind)} {y : Str}, (∀ z ∈ names, z.2 ≠ .free) → (∀ z ∈ names, z.2 ≠ k) → (names.map fun (n, k) => if (k == NameKind.free && env.scope.kind == .function && env.kindOf n == some .cell) then (n, NameKind.cell) else (n, k)).lookup y = some k → False
 | [], _, _, _, h => by simp at h
 | (n, k') :: r, y, hf, hk, h => by
   have e : (k' == NameKind.free) = false := by simpa using hf (n, k') List.mem_cons_self
   rw [List.map_cons] at h
   simp only [e, Bool.false_and, Bool.false_eq_true, if_false] at h
   rw [List.lookup_cons] at h
   cases hx : y == n with
   | true => rw [hx] at h; exact hk (n, k') List.mem_cons_self (Option.some.inj h)
   | false => rw [hx] at h; exact lookup_relabel_not (fun z hz => hf z (List.mem_cons_of_mem _ hz)) (fun z hz => hk z (List.mem_cons_of_mem _ hz)) h
theorem LcOk.plain {X : Cx} {x : Str} {scope : Scope} (hfree : ∀ y ∈ scope.names, y.2 ≠ .free) (hcell : ∀ y ∈ scope.names, y.2 ≠ .cell) (hkind : scope.kind = .function) (hnames : ∀ y ∈ scope.names, y.2 = .local → scope.names.lookup y.1 = some .local)
   (hloc : scope.names.lookup x = some .local) : LcOk X x scope [] [] where
 clos := closureFor_none hfree
 sub := fun _ _ e => nomatch e
 kind := hkind
 cell := hcell
 names := hnames
 loc := hloc
 has := fun y h => by
   rcases h with h | h
   · exact (lookup_relabel_not hfree hcell h).elim
   · exact (lookup_relabel_not hfree hfree h).elim
 nd := by simp
 fr := fun _ h => nomatch h
theorem bt_sum : bootBuiltins "sum" = some (.builtin "sum") := by decide +kernel
theorem bt_sorted : bootBuiltins "sorted" = some (.builtin "sorted") := by decide +kernel
end L2
namespace L2
open PySem PySem.Spec PyProof.Rows L3
theorem lookup_relabel_free {env : Env} {k : NameKind} (hk : k = .cell ∨ k = .free) : ∀ {names : List (Str × NameKind)} {y : Str}, (∀ z ∈ names, z.2 ≠ .cell) → (names.map fun (n, k) => if (k == NameKind.free && env.scope.kind == .function && env.kindOf n == some .cell) then (n, NameKind.cell) else (n, k)).lookup y = some k → ∃ z ∈ names, z.1 = y ∧ z.2 = .free
 | [], _, _, h => by simp at h
 | (n, k') :: r, y, hc, h => by
   rw [List.map_cons] at h
   have fst : (if (k' == NameKind.free && env.scope.kind == .function && env.kindOf n == some .cell) = true then (n, NameKind.cell) else (n, k')).1 = n := by split <;> rfl
   cases hx : y == n with
   | true =>
     have e : y = n := eq_of_beq hx
     subst e
     by_cases hf : k' = .free
     · exact ⟨(y, k'), List.mem_cons_self, rfl, hf⟩
     · exfalso
       have e : (k' == NameKind.free) = false := by simpa using hf
       simp only [e, Bool.false_and, Bool.false_eq_true, if_false] at h
       rw [List.lookup_cons] at h
       rw [hx] at h
       have h' : k' = k := Option.some.inj h
       rcases hk with z | z
       · exact hc (y, k') List.mem_cons_self (h'.trans z)
       · exact hf (h'.trans z)
   | false =>
     rw [List.lookup_cons] at h
     rw [fst, hx] at h
     obtain ⟨z, m, q⟩ := lookup_relabel_free hk (fun z hz => hc z (List.mem_cons_of_mem _ hz)) h
     exact ⟨z, List.mem_cons_of_mem _ m, q⟩
theorem lookup_mem {cl : List (Str × Addr)} {y : Str} (h : y ∈ cl.map (·.1)) : ∃ c, cl.lookup y = some c := by
 induction cl with
 | nil => cases h
 | cons p r ih =>
   rw [List.lookup_cons]
   cases hx : y == p.1 with
   | true => exact ⟨_, rfl⟩
   | false =>
     rcases List.mem_cons.mp h with e | e
     · rw [e, beq_self_eq_true] at hx; cases hx
     · exact ih e
theorem mem_lookup {cl : List (Str × Addr)} {y : Str} {c : Addr} (h : cl.lookup y = some c) : (y, c) ∈ cl := by
 induction cl with
 | nil => cases h
 | cons p r ih =>
   rw [List.lookup_cons] at h
   cases hx : y == p.1 with
   | true =>
     rw [hx] at h
     have e := eq_of_beq hx
     have e2 : p.2 = c := Option.some.inj h
     rw [show p = (y, c) by rw [e, ← e2]]
     exact List.mem_cons_self
   | false => rw [hx] at h; exact List.mem_cons_of_mem _ (ih h)
theorem LcOk.free {X : Cx} {x : Str} {scope : Scope} {cl : List (Str × Addr)} {js : List Nat} (fns : List Str) (hclos : closureFor scope X.env = pure cl) (hf : cl.map (·.1) = fns) (hsub : ∀ p ∈ cl, X.env.cells.lookup p.1 = some p.2) (hcell : ∀ y ∈ scope.names, y.2 ≠ .cell) (hkind : scope.kind = .function) (hnames : ∀ y ∈ scope.names, y.2 = .local → scope.names.lookup y.1 = some .local)
   (hloc : scope.names.lookup x = some .local) (hcov : ∀ z ∈ scope.names, z.2 = .free → z.1 ∈ fns) (hnd : (x :: js.map (fun j => X.N.getD j "")).Nodup)
   (hfr : ∀ j ∈ js, ∃ y, X.N[j]? = some y ∧ X.env.kindOf y = some .cell ∧ (relabel scope X.env).names.lookup y = some .cell ∧ y ∈ fns) : LcOk X x scope cl js where
 clos := hclos
 sub := fun y c e => hsub (y, c) (mem_lookup e)
 kind := hkind
 cell := hcell
 names := hnames
 loc := hloc
 has := fun y h => by
   have : ∃ z ∈ scope.names, z.1 = y ∧ z.2 = .free := by
     rcases h with h | h
     · exact lookup_relabel_free (.inl rfl) hcell h
     · exact lookup_relabel_free (.inr rfl) hcell h
   obtain ⟨z, m, rfl, e⟩ := this
   exact lookup_mem (by rw [hf]; exact hcov z m e)
 nd := hnd
 fr := fun j hj => by
   obtain ⟨y, a, b, c, d⟩ := hfr j hj
   exact ⟨y, a, b, c, lookup_mem (by rw [hf]; exact d)⟩
end L2
namespace L2
open PySem PySem.Spec PyProof.Rows L3
def tLCIf (wi : TI) (tt : TT) (te : TE) (js : List Nat) : TE := fun σ H Q => wi σ H fun J H1 => ∃ W : Nat → Nat → List V → Hp → Prop, (∃ m, W 0 m [] H1) ∧ ∀ i m ys H, W i m ys H →
 (J.stop i H ∧ ∀ l, H l = none → Q (.ref l) (upd H l (.lst ys))) ∨ (J.go i H ∧ ys.length < sizeLine ∧ ∃ (N : VK) (S : Hp → Prop), (∀ y H2, N y H2 → ∃ m', m' < m ∧ W (i + 1) m' (ys ++ [y]) H2) ∧ (∀ H2, S H2 → ∃ m', m' < m ∧ W (i + 1) m' ys H2) ∧
   ∀ x H', J.yld i H x H' → tt (some x :: js.map (fun j => σ.getD j none)) H' fun b H2 => if b = true then te (some x :: js.map (fun j => σ.getD j none)) H2 N else S H2)
section
variable {X : Cx}
theorem lcIf_core {elt iter c : Expr} {x : Str} {px pos cpos : Pos} {scope : Scope} {cl : List (Str × Addr)} {wi : TI} {te : TE} {tt : TT} {js : List Nat} {use : Option (Value → Sem Unit)} {Qc : Value → Shared → Prop} {pins : List (Addr × Obj)} {s : Shared} {σ : St} {H : Hp} {Q : VK}
   (hc : X.calm = true) (L : LcOk X x scope cl js) (hi : PI X (.Name x px) iter wi)
   (he : ∀ C s2 H2 fp xe, PE (X.inC scope cl C s2 H2 fp (x :: js.map (fun j => X.N.getD j "")) xe) elt te)
   (ht : ∀ C s2 H2 fp xe, PT (X.inC scope cl C s2 H2 fp (x :: js.map (fun j => X.N.getD j "")) xe) c tt)
   (hs : ∀ z, foldedSetIterable iter X.env z = pure z) (I : Inv X pins σ H s) (h : tLCIf wi tt te js σ H Q)
   (fin : ∀ (D C : Addr) (H4 : Hp) (s4 : Shared) (m : Str → Option Value), s4.heap.Ns C m → FpOk X pins H4 C → (∀ h', Heap.SameBut C s4.heap h' → Inv X pins σ H4 { s4 with heap := h' }) → Q (.ref D) H4 → compPost (model X.prog X.w) X.A X.xe use Qc (.ref D) C (.ok .next) s4) :
   wpAny (model X.prog X.w) X.A (comprehension (.ListComp elt [⟨.Name x px, iter, [c], 0⟩] scope pos) scope X.env cpos (newList []) false (eval iter X.env) use) Qc X.xe s := by
 refine wpAny_comprehension_free (cl := cl) (use := use) rfl hs L.clos L.kind L.names ?_
 refine thn (hi pins s σ H _ I h) fun v s1 h1 => thn h1 fun itv s2 h2 => ?_
 obtain ⟨it, fp, tn, J, H2, e, I2, T, st2, f2, W, ⟨k0, w0⟩, turn⟩ := h2
 subst e
 refine wpAny_newObj_type (wpAny_newFunctionEnv L.cell (by intro y hy; simp at hy) (fun h₁ hns₁ hsb₁ => ?_) L.kind)
 dsimp only at hns₁ hsb₁ ⊢
 generalize hH2 : s2.heap.push { cls := .type "list", dict := none, data := .seq ([] : List Value).toArray } = Hp2 at hns₁ hsb₁ ⊢
 have hC : Hp2.objs.size = s2.heap.objs.size + 1 := by rw [← hH2, Heap.size_push]
 generalize hD0 : s2.heap.objs.size = D at hC ⊢
 generalize hC0 : Hp2.objs.size = C at hC hns₁ hsb₁ ⊢
 have hDC : D ≠ C := by omega
 have below : ∀ b, b < D → b ≠ C := fun b hb => by omega
 have old : ∀ b o, s2.heap.get? b = some o → h₁.get? b = some o := fun b o e =>
   hsb₁.extBut b o (below b (by rw [← hD0]; exact Heap.lt_size e)) (Heap.get?_push_of_some _ (hH2 ▸ Heap.get?_push_of_some _ e))
 have hacc : h₁.get? D = some { cls := .type "list", data := .seq ([] : List Value).toArray 0 } := by
   subst hD0
   exact hsb₁.extBut _ _ hDC (Heap.get?_push_of_some _ (hH2 ▸ Heap.get?_push_size _ rfl))
 have fo : ∀ b ∈ fp, ∃ o, s2.heap.get? b = some o := fun b hb => let ⟨o, e, _⟩ := T.obj _ _ st2 b hb; ⟨o, e⟩
 have flt : ∀ b ∈ fp, b < D := fun b hb => let ⟨o, e⟩ := fo b hb; by rw [← hD0]; exact Heap.lt_size e
 have st1 : tn 0 h₁ := T.keep _ _ _ st2 fun b hb o e => old b o e
 let R := compPost (model X.prog X.w) X.A X.xe use Qc (.ref D) C
 let xe := notedBy (model X.prog X.w) X.A (compEnvC scope cl C X.env) fun e s' => R (.error e) s'
 let X' := X.inC scope cl C s2 H2 fp (x :: js.map (fun j => X.N.getD j "")) xe
 have I0 : ∀ {t' : Nat}, Inv X' [(D, _)] (none :: js.map (fun j => σ.getD j none)) H2 { s2 with heap := h₁, toks := t' } := fun {t'} =>
   Inv.inC L I2 f2 fo (by omega) (by omega) hDC old hns₁ hacc (fun v z => by cases z)
 have fpk : ∀ {pD : List (Addr × Obj)} {H' : Hp}, (∀ p ∈ pD, p.1 = D) → (∀ b ∈ fp, H' b = none) → ∀ b ∈ fp, FpOk X' pD H' b := fun {pD H'} hp hn b hb => by
   refine ⟨hn b hb, below b (flt b hb), fun z => ?_, .inl hb, fun y c e => (f2 b hb).2.2.2.2.1 y c (L.sub y c e), fun p hp' z => ?_⟩
   · rcases List.mem_cons.mp (I2.stkSub b z) with e | e
     · exact (f2 b hb).2.1 e
     · exact (f2 b hb).2.2.1 e
   · have q := hp p (by simpa [X', Cx.inC] using hp')
     have := flt b hb
     rw [← z, q] at this
     exact Nat.lt_irrefl _ this
 have loop : ∀ s3 : Shared, (∃ k i ys H' its n σ0, Inv X' [(D, { cls := .type "list", data := .seq (its : List Value).toArray n })] (σ0 :: js.map (fun j => σ.getD j none)) H' s3 ∧ tn i s3.heap ∧ (∀ b ∈ fp, H' b = none) ∧ W i k ys H' ∧ Vals ys its ∧ ys.length ≤ sizeLine) →
     codeAny (model X.prog X.w) X.A (.compLoop (.ListComp elt [⟨.Name x px, iter, [c], 0⟩] scope pos) 0 (.ref it) (.ref D) (compEnvC scope cl C X.env)) R s3 := by
   rintro s3 ⟨k, hk⟩
   refine codeAny_loop rfl (fun k s3 => ∃ i ys H' its n σ0, Inv X' [(D, { cls := .type "list", data := .seq (its : List Value).toArray n })] (σ0 :: js.map (fun j => σ.getD j none)) H' s3 ∧ tn i s3.heap ∧ (∀ b ∈ fp, H' b = none) ∧ W i k ys H' ∧ Vals ys its ∧ ys.length ≤ sizeLine) (fun k s3 hI => ?_) k hk
   obtain ⟨i, ys, H3, its, n, σ0, I3, st3, fr3, w3, vy, hz⟩ := hI
   show wpAny _ _ ((compTurn (.ListComp elt [⟨.Name x px, iter, [c], 0⟩] scope pos) 0 (.ref it) (.ref D) (compEnvC scope cl C X.env)).onRaise (fun x => do noteFrame x (compEnvC scope cl C X.env); theTreesLotGoes x)) _ _ s3
   refine wpAny_noted ?_
   rw [compTurn_list]
   have hpD : ∀ {o : Obj}, ∀ p ∈ [(D, o)], p.1 = D := fun p hp => by rw [List.mem_singleton.mp hp]
   refine wpAny_bind (wpAny_standAt (wpAny_bind ?_))
   rcases turn i k ys H3 w3 with ⟨stop, qn⟩ | ⟨go, hlen, N, S, hN, hS, step⟩
   · refine thn (T.done X' rfl rfl rfl hc i _ s3 _ H3 xe I3 (fpk hpD fr3) st3 stop) fun r s4 ⟨hr, I4⟩ => ?_
     subst hr
     refine wpAny_pure ?_
     obtain ⟨m, hn, _⟩ := I4.loc
     obtain ⟨eD, nD, _⟩ := I4.pin (D, _) (List.mem_append_right _ (List.mem_singleton.mpr rfl))
     have fC : FpOk X pins (upd H3 D (.lst ys)) C := I2.fpOk (by omega) (by
       rw [upd_ne (Ne.symm hDC)]
       exact I4.free)
     refine fin D C (upd H3 D (.lst ys)) s4 m hn fC (fun h' sb => ?_) (qn D nD)
     obtain ⟨hh, g, d, t, os'⟩ := s4
     obtain rfl : os' = s2.os := I4.os
     have kp : ∀ b o, b ≠ C → hh.get? b = some o → h'.get? b = some o := fun b o hb e => (sb.2 b hb).trans e
     have lt2 : ∀ b o, s2.heap.get? b = some o → b ≠ C ∧ b ≠ D := fun b o e => by
       have q : b < D := by rw [← hD0]; exact Heap.lt_size e
       exact ⟨below b q, Nat.ne_of_lt q⟩
     have B : Un (frs X.stack) fp H2 H3 s2.heap hh := I4.base
     have hDn : H3 D = none := nD
     have I5 : Inv X pins σ (upd H3 D (.lst ys)) { s2 with heap := h', gens := g, drawn := d, toks := t } := by
       refine I2.call (h' := h') (g' := g) (d' := d) (t' := t) (ch := fp) ⟨?_, ?_, ?_, ?_, ?_, ?_, ?_⟩ ?_ I4.bare ?_
       · exact fun b o e n hb hx => kp b o (lt2 b o e).1 (B.keep b o e n hb hx)
       · intro b o e n hb hx
         obtain ⟨sl, q⟩ := B.slot b o e n hb hx
         exact ⟨sl, kp b _ (lt2 b o e).1 q⟩
       · intro b o e n hx
         rw [upd_ne (lt2 b o e).2]
         exact B.free b o e n hx
       · intro b o e hx
         obtain ⟨o', q⟩ := B.there b o e hx
         exact ⟨o', kp b o' (lt2 b o e).1 q⟩
       · intro b xs e
         have q := B.tups b xs e
         rw [upd_ne (ne_of_none q hDn)]
         exact q
       · intro b o u e
         have q := B.frzs b o u e
         rw [upd_ne (ne_of_none q hDn)]
         exact q
       · intro b ps e
         obtain ⟨more, q⟩ := B.tbls b ps e
         exact ⟨more, by rw [upd_ne (ne_of_none q hDn)]; exact q⟩
       · intro b u e
         by_cases hb : b = D
         · subst hb
           rw [upd_same] at e
           cases e
           exact ⟨hz, its, n, vy, kp _ _ hDC eD⟩
         · rw [upd_ne hb] at e
           have nC : ∀ c o, H3 c = some o → c ≠ C := fun c o q => ne_of_none q I4.free
           refine (I4.hok b u e).stay (fun c v hc' q => kp c v ?_ q) (fun c q => by rw [upd_ne (ne_of_none q hDn)]; exact q) fun c xs q => by rw [upd_ne (ne_of_none q hDn)]; exact q
           rcases hc' with z | z
           · rw [z]; exact nC b u e
           · exact nC c _ z
       · intro b hb
         obtain ⟨_, f1, _, f3, f4, f5⟩ := f2 b hb
         exact ⟨f3, f1, f4, f5⟩
     exact I5
   · refine thn (T.item X' rfl rfl rfl hc i _ s3 _ H3 xe I3 (fpk hpD fr3) st3 go) fun r s4 ⟨u, hr, h4⟩ => ?_
     subst hr
     refine wpAny_bind (thn h4 fun _ s5 ⟨xv, H5, I5, r5, y5, st5, fr5⟩ => ?_)
     have I5' := I5.pinned (fpk hpD fr5) (T.obj _ _ st5)
     refine wpAny_bind (thn (pg_name (X := X') (i := 0) L.nd rfl (Or.inl (lookup_relabel_local L.loc)) (Or.inr (lookup_relabel_local L.loc)) _ s5 _ H5 xv u (fun σ6 H6 => σ6 = some xv :: js.map (fun j => σ.getD j none) ∧ H6 = H5) I5' r5 ⟨rfl, rfl⟩) fun _ s6 ⟨σ6, H6, I6, e6, e6'⟩ => ?_)
     subst e6 e6'
     refine wpAny_bind (thn (wpAny_tests_one (ht C s2 H2 fp xe _ s6 _ _ _ I6 (step xv _ y5))) fun ok s6b ⟨H6b, I6b, q6b⟩ => ?_)
     cases ok with
     | false =>
       have q6b : S H6b := q6b
       obtain ⟨m', hm, w7⟩ := hS H6b q6b
       have pinf : ∀ b ∈ fp, ∀ o, s5.heap.get? b = some o → s6b.heap.get? b = some o ∧ H6b b = none := fun b hb o e => by
         have z := I6b.pin (b, o) (List.mem_append_right _ (List.mem_append_right _ (mem_pinsAt hb e)))
         exact ⟨z.1, z.2.1⟩
       refine wpAny_pure ⟨rfl, m', hm, i + 1, ys, H6b, its, n, some xv, I6b.unpinned, T.keep _ _ _ st5 fun b hb o e => (pinf b hb o e).1, fun b hb => ?_, w7, vy, hz⟩
       obtain ⟨o, e, _⟩ := T.obj _ _ st5 b hb
       exact (pinf b hb o e).2
     | true =>
       have q6b : te (some xv :: js.map (fun j => σ.getD j none)) H6b N := q6b
       refine wpAny_bind (wpAny_bind (thn (he C s2 H2 fp xe _ s6b _ _ _ I6b q6b) fun y s7 ⟨yv, H7, I7, ry, n7⟩ => ?_))
       obtain ⟨m', hm, w7⟩ := hN yv H7 n7
       have I7' := I7.unpinned
       obtain ⟨eD, nD, neC, nfs, _⟩ := I7'.pin (D, _) (List.mem_append_right _ (List.mem_singleton.mpr rfl))
       have eD' : s7.heap.get? D = some { cls := .type "list", data := .seq its.toArray n } := eD
       have lv := vy.length
       refine wpAny_bind (call_meets F.slot_list_append ⟨_, eD', rfl⟩ F.entry_list_append (F.args_list_append_2 _ _) (PySem.list_append D its.toArray n y (by rw [List.size_toArray]; omega)) ⟨eD', ?_⟩)
       refine wpAny_pure (wpAny_pure ⟨rfl, m', hm, i + 1, ys ++ [yv], H7, its ++ [y], ?_⟩)
       have q := PySem.IsL.update eD' (fun a : Array Value => a.push y)
       have I8 : Inv X' [] (some xv :: js.map (fun j => σ.getD j none)) H7 { s7 with heap := s7.heap.update D (Obj.mapSeq (fun a : Array Value => a.push y)) } :=
         (I7'.pins_of (pins' := []) (fun p hp => nomatch hp)).turned (t' := s7.toks) (it := D) (fun b o hb e => (Heap.get?_update_other s7.heap _ (Ne.symm hb)).trans e) nD neC (.inr (by show s2.heap.objs.size ≤ D; omega))
           (fun z c e w => by
             obtain ⟨v', o', ho', _⟩ := I2.cell z c (L.sub z c e)
             have := Heap.lt_size ho'
             rw [w, hD0] at this
             exact Nat.lt_irrefl _ this) (fun p hp => nomatch hp)
       have pinf : ∀ b ∈ fp, ∀ o, s5.heap.get? b = some o → s7.heap.get? b = some o ∧ H7 b = none := fun b hb o e => by
         have z := I7.pin (b, o) (List.mem_append_right _ (List.mem_append_right _ (mem_pinsAt hb e)))
         exact ⟨z.1, z.2.1⟩
       obtain ⟨n', q'⟩ : ∃ n', (s7.heap.update D (Obj.mapSeq (fun a : Array Value => a.push y))).get? D = some { cls := .type "list", data := .seq (its ++ [y]).toArray n' } := by
         rw [show (its ++ [y]).toArray = its.toArray.push y by simp]
         exact ⟨_, q⟩
       refine ⟨n', some xv, I8.pins_of fun p hp => ?_, ?_, fun b hb => ?_, w7, vy.append (.cons ry .nil), by rw [List.length_append, List.length_singleton]; omega⟩
       · rw [List.mem_singleton.mp hp]
         exact ⟨q', nD, neC, nfs, fun v z => by cases z⟩
       · refine T.keep _ _ _ st5 fun b hb o e => ?_
         have hb' : D ≠ b := fun z => by
           have := flt b hb
           rw [← z] at this
           exact Nat.lt_irrefl _ this
         exact (Heap.get?_update_other s7.heap _ hb').trans (pinf b hb o e).1
       · obtain ⟨o, e, _⟩ := T.obj _ _ st5 b hb
         exact (pinf b hb o e).2
 have start : ∀ {t' : Nat}, ∃ k i ys H' its n σ0, Inv X' [(D, { cls := .type "list", data := .seq (its : List Value).toArray n })] (σ0 :: js.map (fun j => σ.getD j none)) H' { s2 with heap := h₁, toks := t' } ∧ tn i h₁ ∧ (∀ b ∈ fp, H' b = none) ∧ W i k ys H' ∧ Vals ys its ∧ ys.length ≤ sizeLine := fun {t'} =>
   ⟨k0, 0, [], H2, [], 0, none, I0, st1, fun b hb => (f2 b hb).1, w0, .nil, Nat.zero_le _⟩
 exact codeAny_compStart_list (loop _ start) (T.self X.A 0 _ _ _ st1 (loop _ start))
theorem ps_setLCIf {i : Nat} {t : Str} {elt iter c : Expr} {x : Str} {px pos cpos pos' : Pos} {scope : Scope} {cl : List (Str × Addr)} {wi : TI} {te : TE} {tt : TT} (js : List Nat) (hN : X.N.Nodup) (hi' : X.N[i]? = some t) (hx : Loc X.env.scope t) (hc : X.calm = true) (L : LcOk X x scope cl js) (hi : PI X (.Name x px) iter wi)
   (ht : ∀ C s2 H2 fp xe, PT (X.inC scope cl C s2 H2 fp (x :: js.map (fun j => X.N.getD j "")) xe) c tt)
   (he : ∀ C s2 H2 fp xe, PE (X.inC scope cl C s2 H2 fp (x :: js.map (fun j => X.N.getD j "")) xe) elt te)
   (hs : ∀ z, foldedSetIterable iter X.env z = pure z := by intro _; rfl) (hsw : swapsWith (.ListComp elt [⟨.Name x px, iter, [c], 0⟩] scope cpos) (some (.Name t pos')) pos.line X.env = pure true := by rfl)
   (hf : X.fn t = true ∨ X.env.scope.names.lookup t = some .local := by first | exact .inl rfl | exact .inr rfl | assumption) :
   PS X (.Assign [.Name t pos'] (.ListComp elt [⟨.Name x px, iter, [c], 0⟩] scope cpos) pos) (tAsg (tLCIf wi tt te js) (gName i)) := by
 intro pins s σ H D I h
 rw [exec_Assign_Name_used _ _ _ _ hsw]
 refine wpAny_bind (wpAny_standAt (wpAny_bind ?_))
 show wpAny _ X.A (do let _ ← comprehension (.ListComp elt [⟨.Name x px, iter, [c], 0⟩] scope cpos) scope X.env _ (newList []) false (eval iter X.env) (some (assign (.Name t pos') X.env))) _ _ s
 refine wpAny_bind (wpAny_mono (lcIf_core (use := some (assign (.Name t pos') X.env)) (Qc := fun _ s' => SP X pins D .next s') hc L hi he ht hs I h fun Dl C H4 s4 m hn fC I4 q => ?_) (fun _ s' hq => wpAny_pure (wpAny_pure hq)) fun _ _ e => e)
 show wpAny (model X.prog X.w) X.A (assign (.Name t pos') X.env (.ref Dl)) _ X.xe s4
 obtain ⟨oC, es, ep, hoC, hdC, rC⟩ := id hn
 have I4' : Inv X (pins ++ pinsAt [C] s4.heap) σ H4 s4 := (I4 s4.heap (.refl ..)).pinned (fun b hb => by rw [List.mem_singleton.mp hb]; exact fC) fun b hb => by
   rw [List.mem_singleton.mp hb]
   exact ⟨oC, hoC, fun v z => by rw [hdC] at z; cases z⟩
 refine thn (pg_name hN hi' hx hf _ s4 σ H4 (.ref Dl) (.ref Dl) D.nx I4' rfl q) fun _ s5 ⟨σ5, H5, I5, q5⟩ => ?_
 obtain ⟨e5, n5, _⟩ := I5.pin (C, oC) (List.mem_append_right _ (List.mem_append_right _ (mem_pinsAt (List.mem_singleton.mpr rfl) hoC)))
 refine ⟨m, ⟨oC, es, ep, e5, hdC, rC⟩, fun h' sb => ⟨σ5, H5, ?_, q5⟩⟩
 obtain ⟨_, f1, _, f3, f4, f5⟩ := fC
 exact I5.unpinned.turned (t' := s5.toks) (it := C) (fun b o hb e => (sb.2 b hb).trans e) n5 f1 f3 f4 f5
end
end L2
namespace L2
open PySem PySem.Spec PyProof.Rows L3
def RawD (h : Heap) (d : Addr) (es : Array DictEntry) (ep : Nat) : Prop := ∃ o, h.get? d = some o ∧ o.ExactDict ∧ o.data = .dict es ep
section
variable {prog : Program} {w : World} {A : Around} {E : Value → Shared → Prop} {s : Shared}
theorem RawD.typeIs {d : Addr} {es : Array DictEntry} {ep : Nat} (x : RawD s.heap d es ep) : s.TypeIs (.ref d) "dict" := by
 obtain ⟨o, ho, hc, _⟩ := x
 exact ⟨o, ho, hc.1⟩
theorem raw_iter {d : Addr} {es : Array DictEntry} {ep : Nat} {Q : Value → Shared → Prop} (hd : (d == sysModules) = false) (hm : RawD s.heap d es ep)
   (hQ : Q (.ref s.heap.objs.size) { s with heap := s.heap.push { cls := .type "dict_keyiterator", data := .fields #[.ref d, .int 0 0, .int es.size 0, .int ep 0] } }) :
   wpAny (model prog w) A (pyIter (.ref d)) Q E s := by
 have hT := hm.typeIs
 obtain ⟨o, ho, hc, hdat⟩ := hm
 refine wpAny_pyIter_slot hT F.slot_dict_iter (wpAny_call_entry F.slot_dict_iter hT F.entry_dict_iter ?_ (F.args_dict_iter_1 _))
 unfold Builtin.«dict.__iter__» Builtin.Dict.dictSlotNone
 refine wpAny_bind (wpAny_bind (wpAny_notOrdered_dict hT ?_))
 show wpAny _ _ (pure (Value.ref d)) _ _ s
 refine wpAny_pure ?_
 show wpAny _ _ (Builtin.Dict.showsAll d >>= _) _ _ s
 unfold Builtin.Dict.showsAll
 rw [if_neg (by rw [hd]; exact Bool.false_ne_true)]
 refine wpAny_bind (wpAny_pure (wpAny_bind (wpAny_dictEntries ho hdat (wpAny_bind (wpAny_dictEpoch ho hdat ?_)))))
 refine wpAny_bind (wpAny_newObj_type (wpAny_pure ⟨_, rfl, "dict_keyiterator", _, ⟨_, Heap.get?_push_size _ rfl, rfl⟩, F.slot_dict_keyiterator_next.lookup, ?_⟩))
 simpa [rawInt] using hQ
theorem raw_next {it d : Addr} {i ep : Nat} {es : Array DictEntry} {Q : Option Value → Shared → Prop} (hh : A.handled = none) (hit : s.heap.IsKeyIter it d i es.size ep) (hm : RawD s.heap d es ep)
   (h1 : ∀ (h : i < es.size) h', h'.IsKeyIter it d (i + 1) es.size ep → Heap.SameBut it s.heap h' → Q (some es[i].key) { s with heap := h' })
   (h2 : es.size ≤ i → ∀ h', Heap.ExtBut it s.heap h' → Q none { s with heap := h' }) : wpAny (model prog w) A (pyNext (.ref it)) Q E s := by
 obtain ⟨o, ho, hc, hd⟩ := id hit
 obtain ⟨od, hod, hcd, hdd⟩ := id hm
 unfold pyNext
 refine wpAny_bind (wpAny_attempt (wpAny_callSpecial?_slot (name := Str.ofString "__next__") hit.typeIs F.slot_dict_keyiterator_next
   (wpAny_call_entry F.slot_dict_keyiterator_next hit.typeIs F.entry_dict_keyiterator_next ?_ (F.args_dict_keyiterator_next_1 _))))
 refine wpAny_bind (wpAny_pure (wpAny_bind (wpAny_bind ?_)))
 first | refine wpAny_bind (wpAny_typeNameOfWhole_keyiter hit.typeIs (wpAny_pure ?_)) | refine wpAny_bind (wpAny_typeNameOf_keyiter hit.typeIs (wpAny_pure ?_))
 refine wpAny_bind (wpAny_fieldsOf ho hd ?_)
 have hown : Builtin.Dict_items.ownsTuple "dict_keyiterator" = false := by decide
 simp only [hown, Bool.false_eq_true, if_false]
 show wpAny _ _ (if (Value.ref d == Value.none) = true then _ else _) _ _ s
 rw [if_neg (show ¬ ((Value.ref d == Value.none) = true) from Bool.false_ne_true)]
 refine wpAny_bind (wpAny_pure (wpAny_bind (wpAny_dictEntries hod hdd ?_)))
 rw [if_neg (by simp)]
 refine wpAny_bind (wpAny_pure (wpAny_bind (wpAny_dictEpoch hod hdd ?_)))
 rw [if_neg (by simp)]
 refine wpAny_pure ?_
 rcases Nat.lt_or_ge i es.size with hlt | hge
 · simp only [show ¬ ((i : Int) < 0) from by omega, if_false, Int.toNat_natCast, Array.getElem?_eq_getElem hlt]
   refine wpAny_bind ?_
   first | refine wpAny_bind (wpAny_typeNameOfWhole_keyiter hit.typeIs (wpAny_pure ?_)) | refine wpAny_bind (wpAny_typeNameOf_keyiter hit.typeIs (wpAny_pure ?_))
   refine wpAny_bind (wpAny_isOneOf_keyiter hit.typeIs ?_)
   show wpAny _ _ (setField (.ref it) 1 (rawInt ((i : Int) + 1)) >>= _) _ _ s
   refine wpAny_bind (wpAny_setField ho hd (by simp) ?_)
   have hit' : (s.heap.update it (Obj.mapFields (·.setIfInBounds 1 (rawInt ((i : Int) + 1))))).IsKeyIter it d (i + 1) es.size ep :=
     ⟨_, Heap.get?_update_self _ ho (Obj.isFreed_of_fields (Obj.data_mapFields hd _)), (Obj.cls_mapFields ..).trans hc, by rw [Obj.data_mapFields hd]; simp [rawInt]⟩
   refine wpAny_bind (wpAny_holding ?_)
   refine wpAny_bind (wpAny_isOneOf_keyiter (s := { s with heap := s.heap.update it (Obj.mapFields (·.setIfInBounds 1 (rawInt ((i : Int) + 1)))) }) hit'.typeIs ?_)
   show wpAny _ _ (pure es[i].key) _ _ _
   exact wpAny_pure (wpAny_pure ⟨_, rfl, wpAny_pure (h1 hlt _ hit' (Heap.SameBut.update ..))⟩)
 · simp only [show ¬ ((i : Int) < 0) from by omega, if_false, Int.toNat_natCast, Array.getElem?_eq_none hge]
   refine wpAny_bind ?_
   first | refine wpAny_bind (wpAny_typeNameOfWhole_keyiter hit.typeIs (wpAny_pure ?_)) | refine wpAny_bind (wpAny_typeNameOf_keyiter hit.typeIs (wpAny_pure ?_))
   show wpAny _ _ (setField (.ref it) 0 .none >>= _) _ _ s
   refine wpAny_bind (wpAny_setField ho hd (by simp) ?_)
   show wpAny _ _ (newExc (.type "StopIteration") [] >>= _) _ _ _
   refine wpAny_bind ?_
   simp only [newExc, newTuple]
   refine wpAny_bind (wpAny_newObj_type ?_ (by size_fits))
   refine wpAny_bind (m := firstArgMember _ _) (wpAny_of_eq (a := Value.none) (by first | rfl | (simp only [firstArgMember]; rfl)) ?_)
   refine wpAny_newObj_type ?_ (by size_fits)
   simp only [raiseNew]
   refine wpAny_bind (wpAny_handled ?_)
   rw [show A.in1.handled = none from hh]
   refine wpAny_bind (wpAny_pure (wpAny_throw ?_))
   refine wpAny_bind (wpAny_isInstance (T := "StopIteration") (b := true) ⟨_, Heap.get?_push_size _ rfl, rfl⟩ isSubtype_stop ?_)
   exact wpAny_pure (h2 hge _ (((Heap.SameBut.update ..).extBut.push _).push _))
end
section
variable {X : Cx}
end
end L2
namespace L2
open PySem PySem.Spec PyProof.Rows L3
section
variable {X : Cx} {pins : List (Addr × Obj)} {σ : St} {H : Hp} {s : Shared}
end
section
variable {X : Cx}
end
end L2
namespace L2
open PySem PySem.Spec PyProof.Rows L3
def DefM (K : PySem.W.Frag) (C : Addr) (m qual : Str) (st : Stmt) (dV : Value) : Prop := ∃ f fd, FunD K m qual st f fd dV ∧ Meth K C m f
def CalM (P : Program) (w : World) (K : PySem.W.Frag) (mg : Str → Option Value) (base : Heap) (CX : CXT) (cm : Bool) (k : Nat) (C : Addr) (m : Str) (ps : List Str) (ds : List V) (sp : Sp) : Prop :=
 ∃ f fd dvs, FnOk P w K mg base CX cm k f fd ps sp ∧ Meth K C m f ∧ Binds K fd ps [] ∧ Vals ds dvs ∧ Binds K fd ps dvs
def DefI (K : PySem.W.Frag) (C : Addr) (qual : Str) (st : Stmt) (dV : Value) : Prop := ∃ f fd, FunD K "__init__" qual st f fd dV ∧ Mk K C f
def CalI (P : Program) (w : World) (K : PySem.W.Frag) (mg : Str → Option Value) (base : Heap) (CX : CXT) (cm : Bool) (k : Nat) (C : Addr) (ps : List Str) (ds : List V) (sp : Sp) : Prop :=
 ∃ f fd dvs, FnOk P w K mg base CX cm k f fd ps sp ∧ Mk K C f ∧ Binds K fd ps [] ∧ Vals ds dvs ∧ Binds K fd ps dvs
theorem ix_seqC {X : Cx} {scope : Scope} {cl : List (Str × Addr)} {C : Addr} {s2 : Shared} {H2 : Hp} {fp : List Addr} {N' : List Str} {xe : Value → Shared → Prop} : IxR (X.inC scope cl C s2 H2 fp N' xe) (rIx X.K) := ix_seq (X := X.inC scope cl C s2 H2 fp N' xe)
end L2
namespace L2
open PySem PySem.Spec PyProof.Rows L3
section
variable {X : Cx}
theorem sl_str : SlR X (fun x lo hi H Q => ∃ z : Str, x = .str z ∧ z.length ≤ sizeLine ∧ Q (.str (Txt.slice z lo hi)) H) := by
 intro pins s σ H x v vl vu lo hi sl Q I rx hs pl pu h
 obtain ⟨z, rfl, hz, q⟩ := h
 obtain ⟨t, rfl⟩ := rx
 have fin : (Txt.slice z lo hi).length ≤ sizeLine ∧ ∀ (t' : Tok) (k : Nat), EP X pins σ Q (.str (Txt.slice z lo hi) t') { s with toks := k } :=
   ⟨Nat.le_trans (Txt.slice_le z lo hi) hz, fun t' k => ⟨.str _, H, I.tok k, ⟨t', rfl⟩, q⟩⟩
 cases pl with
 | none =>
   cases pu with
   | none => exact ⟨"str", _, F.slot_str_getitem.lookup, typeIs_str _ _ _, wpAny_getItem_str_slice (l := none) (u := none) (st := none) hs rfl (post_val_or_str fin)⟩
   | int i t1 => exact ⟨"str", _, F.slot_str_getitem.lookup, typeIs_str _ _ _, wpAny_getItem_str_slice (l := none) (u := some (i, t1)) (st := none) hs rfl (post_val_or_str fin)⟩
 | int j t2 =>
   cases pu with
   | none => exact ⟨"str", _, F.slot_str_getitem.lookup, typeIs_str _ _ _, wpAny_getItem_str_slice (l := some (j, t2)) (u := none) (st := none) hs rfl (post_val_or_str fin)⟩
   | int i t1 => exact ⟨"str", _, F.slot_str_getitem.lookup, typeIs_str _ _ _, wpAny_getItem_str_slice (l := some (j, t2)) (u := some (i, t1)) (st := none) hs rfl (post_val_or_str fin)⟩
end
theorem str_len_app (a b : Str) : (a ++ b).length = a.length + b.length := by
 show (a.cps ++ b.cps).size = _
 rw [Array.size_append]
 rfl
end L2
namespace L2
open PySem PySem.Spec PyProof.Rows L3
theorem lc_range {lo : Int} {n : Nat} {T : V → Hp → VK → Prop} {R : Addr → Hp → List V → Prop} {H : Hp} (Pv : Nat → List V → Hp → Prop) (h0 : Pv 0 [] H) (hn : n ≤ sizeLine) (hl : ∀ i ys H, i ≤ n → Pv i ys H → ys.length = i)
   (hs : ∀ i ys H, i < n → Pv i ys H → T (.int (lo + i)) H fun y H2 => Pv (i + 1) (ys ++ [y]) H2) (hd : ∀ ys H, Pv n ys H → ∀ l, H l = none → R l H ys) :
   ∃ W : Nat → Nat → List V → Hp → Prop, (∃ m, W 0 m [] H) ∧ ∀ i m ys H, W i m ys H →
     ((Itr lo n).stop i H ∧ ∀ l, H l = none → R l H ys) ∨ ((Itr lo n).go i H ∧ ys.length < sizeLine ∧ ∃ N : VK, (∀ y H2, N y H2 → ∃ m', m' < m ∧ W (i + 1) m' (ys ++ [y]) H2) ∧ ∀ x H', (Itr lo n).yld i H x H' → T x H' N) := by
 refine ⟨fun i m ys H => m = n - i ∧ i ≤ n ∧ Pv i ys H, ⟨n, by simp, Nat.zero_le _, h0⟩, ?_⟩
 rintro i m ys H ⟨rfl, hi, p⟩
 have hy := hl i ys H hi p
 by_cases hlt : i < n
 · refine .inr ⟨hlt, by omega, fun y H2 => Pv (i + 1) (ys ++ [y]) H2, fun y H2 p' => ⟨n - (i + 1), by omega, rfl, hlt, p'⟩, fun x H' ⟨e, y⟩ => ?_⟩
   subst e y
   exact hs i ys _ hlt p
 · have e : i = n := by omega
   subst e
   exact .inl ⟨Nat.le_refl _, hd ys H p⟩
end L2
namespace L2
open PySem PySem.Spec PyProof.Rows L3
section
variable {X : Cx}
def eqT (K : PySem.W.Frag) (H : Hp) (x y : V) : Prop := (x = y ∧ eqPl x = true) ∨ ∃ a b xs, x = .ref a ∧ y = .ref b ∧ SqT K H a xs ∧ SqT K H b xs ∧ ∀ z ∈ xs, eqPl z = true
theorem Inv.eqT {pins : List (Addr × Obj)} {σ : St} {H : Hp} {s : Shared} {x y : V} {v u : Value} {A : Around} (I : Inv X pins σ H s) (hu : A.units < cLine) (e : eqT X.K H x y) (rx : RelV x v) (ry : RelV y u) : SeqAt.EqAt A s v u true := by
 rcases e with ⟨rfl, hp⟩ | ⟨a, b, xs, rfl, rfl, ha, hb, hp⟩
 · exact eqAt_self hp rx ry
 · cases rx
   cases ry
   by_cases hab : a = b
   · subst hab
     exact SeqAt.EqAt.same _
   obtain ⟨its, r, pl, hz⟩ := I.tuple ha
   obtain ⟨its2, r2, pl2, hz2⟩ := I.tuple hb
   have l1 := r.length
   have l2 := r2.length
   have h := SeqAt.RcAt.tuples (A := A) (e := fun _ => true) (show s.heap.IsTuple a its.toArray from pl) (show s.heap.IsTuple b its2.toArray from pl2) hu (fun j h1 h2 => by
     simp only [List.size_toArray] at h1 h2
     obtain ⟨x, e, rx⟩ := vals_at r j h1
     obtain ⟨x2, e2, rx2⟩ := vals_at r2 j h2
     rw [e] at e2
     cases e2
     simp only [List.getElem_toArray]
     exact eqAt_self (hp x (List.mem_of_getElem? e)) rx rx2)
   have hb : ((List.range (min its.toArray.size its2.toArray.size)).all (fun _ => true) && its.toArray.size == its2.toArray.size) = true := by
     simp only [List.size_toArray]
     rw [← l1, ← l2]
     simp
   rw [hb] at h
   exact SeqAt.EqAt.of_refs hab h
def EqLs (K : PySem.W.Frag) (H : Hp) (xs ys : List V) : Prop := xs.length = ys.length ∧ ∀ (j : Nat) x y, xs[j]? = some x → ys[j]? = some y → eqT K H x y
theorem EqLs.refl {K : PySem.W.Frag} {H : Hp} {xs : List V} (h : ∀ z ∈ xs, eqPl z = true) : EqLs K H xs xs := ⟨rfl, fun j x y e1 e2 => by
 rw [e1] at e2
 cases e2
 exact .inl ⟨rfl, h x (List.mem_of_getElem? e1)⟩⟩
theorem rel_key {P : Program} {w : World} {k : Key} {u : Value} (h : (mixKind P w).is k u = true) : RelV (kV k) u := by
 rcases keyIs_shape (show keyIs k u = true from h) with ⟨i, t, rfl, rfl⟩ | ⟨x, t, rfl, rfl⟩
 · exact ⟨t, rfl⟩
 · exact ⟨t, rfl⟩
end
end L2
namespace L2
open PySem PySem.Spec PyProof.Rows L3
def tLCT (wi : TI) (g : TG) (te : TE) (n : Nat) (js : List Nat) : TE := fun σ H Q => wi σ H fun J H1 => ∃ W : Nat → Nat → List V → Hp → Prop, (∃ m, W 0 m [] H1) ∧ ∀ i m ys H, W i m ys H →
 (J.stop i H ∧ ∀ l, H l = none → Q (.ref l) (upd H l (.lst ys))) ∨ (J.go i H ∧ ys.length < sizeLine ∧ ∃ N : VK, (∀ y H2, N y H2 → ∃ m', m' < m ∧ W (i + 1) m' (ys ++ [y]) H2) ∧ ∀ x H', J.yld i H x H' → ∀ σ0 : St, σ0.length = n → g x (σ0 ++ js.map (fun j => σ.getD j none)) H' fun σ6 H6 => ∃ σ1 : St, σ1.length = n ∧ σ6 = σ1 ++ js.map (fun j => σ.getD j none) ∧ te σ6 H6 N)
section
variable {X : Cx}
structure LcOkT (X : Cx) (xs : List Str) (scope : Scope) (cl : List (Str × Addr)) (js : List Nat) : Prop where
 clos : closureFor scope X.env = pure cl
 sub : ∀ y c, cl.lookup y = some c → X.env.cells.lookup y = some c
 kind : scope.kind = .function
 cell : ∀ y ∈ scope.names, y.2 ≠ .cell
 names : ∀ y ∈ scope.names, y.2 = .local → scope.names.lookup y.1 = some .local
 loc : ∀ x ∈ xs, scope.names.lookup x = some .local
 has : ∀ y, (((relabel scope X.env).names.lookup y = some .cell) ∨ ((relabel scope X.env).names.lookup y = some .free)) → ∃ c, cl.lookup y = some c
 nd : (xs ++ js.map (fun j => X.N.getD j "")).Nodup
 fr : ∀ j ∈ js, ∃ y, X.N[j]? = some y ∧ X.env.kindOf y = some .cell ∧ (relabel scope X.env).names.lookup y = some .cell ∧ ∃ c, cl.lookup y = some c
theorem Inv.inCT {xs : List Str} {scope : Scope} {cl : List (Str × Addr)} {js : List Nat} {pins : List (Addr × Obj)} {σ : St} {H2 : Hp} {s2 : Shared} {fp : List Addr} {C D : Addr} {h1 : Heap} {xe : Value → Shared → Prop} {oD : Obj} {m0 : Str → Option Value}
   (L : LcOkT X xs scope cl js) (I2 : Inv X pins σ H2 s2) (f2 : ∀ b ∈ fp, FpOk X pins H2 b) (fo : ∀ b ∈ fp, ∃ o, s2.heap.get? b = some o) (hC : s2.heap.objs.size ≤ C) (hD : s2.heap.objs.size ≤ D) (hDC : D ≠ C)
   (old : ∀ b o, s2.heap.get? b = some o → h1.get? b = some o) (hns : h1.Ns C m0) (hoD : h1.get? D = some oD) (hdD : ∀ v, oD.data ≠ .cell v) {t' : Nat} :
   Inv (X.inC scope cl C s2 H2 fp (xs ++ js.map (fun j => X.N.getD j "")) xe) [(D, oD)] (xs.map (fun _ => none) ++ js.map (fun j => σ.getD j none)) H2 { s2 with heap := h1, toks := t' } where
 ok := {
   mod := I2.ok.mod
   kind := L.kind
   glob := I2.ok.glob
   blt := I2.ok.blt
   above := hC
   inj := fun a b c e1 e2 => I2.ok.inj a b c (L.sub a c e1) (L.sub b c e2)
   has := fun y hy => L.has y hy
   cab := fun _ _ z => nomatch z
   hd := I2.ok.hd
   frames := I2.ok.frames
   stk := .inl rfl
   exf := fun b hb => by
     obtain ⟨o, e⟩ := fo b hb
     refine ⟨Nat.ne_of_lt (Nat.lt_of_lt_of_le (Heap.lt_size e) hC), fun y c e' => ?_⟩
     exact (f2 b hb).2.2.2.2.1 y c (L.sub y c e')
   bs := fun b o e => I2.bs b o e
   bsz := Nat.le_trans I2.ok.bsz I2.sz
   noex := fun b o e hb => by
     rcases (f2 b hb).2.2.2.1 with z | z
     · exact I2.ok.noex b o e z
     · exact absurd (Nat.lt_of_lt_of_le (Heap.lt_size e) (Nat.le_trans I2.ok.bsz z)) (Nat.lt_irrefl _)
   exfs := fun b hb z => by
     rcases List.mem_cons.mp (I2.stkSub b z) with e | e
     · exact (f2 b hb).2.1 e
     · exact (f2 b hb).2.2.1 e
   funs := I2.stack
   frf := I2.stkFree }
 os := rfl
 bare := I2.bare
 base := Un.kept old
 loc := by
   refine ⟨m0, hns, fun i y v e1 e2 e3 => ?_⟩
   have hik : ¬ i < xs.length := fun z => by
     have e2' : (xs.map (fun _ => (none : Option V)) ++ js.map (fun j => σ.getD j none))[i]? = some (some v) := e2
     rw [List.getElem?_append_left (by rw [List.length_map]; exact z), List.getElem?_map] at e2'
     rw [List.getElem?_eq_getElem z] at e2'
     cases e2'
   have hsplit : ∃ k, i = xs.length + k := ⟨i - xs.length, by omega⟩
   obtain ⟨k, rfl⟩ := hsplit
   · have e1' : (js.map (fun j => X.N.getD j ""))[k]? = some y := by
       have e1' : (xs ++ js.map (fun j => X.N.getD j ""))[xs.length + k]? = some y := e1
       rw [List.getElem?_append_right (by omega)] at e1'
       simpa using e1'
     have e2' : (js.map (fun j => σ.getD j none))[k]? = some (some v) := by
       have e2' : (xs.map (fun _ => (none : Option V)) ++ js.map (fun j => σ.getD j none))[xs.length + k]? = some (some v) := e2
       rw [List.getElem?_append_right (by rw [List.length_map]; omega)] at e2'
       simpa using e2'
     rw [List.getElem?_map] at e1' e2'
     cases hj : js[k]? with
     | none => rw [hj] at e1'; cases e1'
     | some j =>
       rw [hj] at e1' e2'
       obtain ⟨y', n1, n2, n3, c, n4⟩ := L.fr j (List.mem_of_getElem? hj)
       have e1'' : X.N.getD j "" = y := Option.some.inj e1'
       have e2'' : σ.getD j none = some v := Option.some.inj e2'
       have : y' = y := by
         rw [List.getD, n1] at e1''
         exact e1''
       subst this
       have hσ : σ[j]? = some (some v) := by
         rw [List.getD] at e2''
         cases q : σ[j]? with
         | none => rw [q] at e2''; cases e2''
         | some z => rw [q] at e2''; exact congrArg some e2''
       obtain ⟨m, hn, hl⟩ := I2.loc
       obtain ⟨u, r, l⟩ := hl j y' v n1 hσ (.inr (.inl n2))
       refine ⟨u, r, ?_⟩
       rcases l with ⟨k1, _⟩ | ⟨_, c', k2, k3⟩
       · rw [n2] at k1; cases k1
       · have : c' = c := by
           have := L.sub _ _ n4
           rw [k2] at this
           exact Option.some.inj this
         subst this
         obtain ⟨o, ho, hd⟩ := k3
         exact .inr ⟨.inl n3, c', n4, o, old _ _ ho, hd⟩
 cell := fun y c e => by
   obtain ⟨v, o, ho, hd⟩ := I2.cell y c (L.sub y c e)
   exact ⟨v, o, old _ _ ho, hd⟩
 free := I2.hok.fresh hC
 freeC := fun y c e => I2.freeC y c (L.sub y c e)
 pin := fun p hp => by
   have e : p = (D, oD) := by simpa [Cx.inC] using hp
   subst e
   refine ⟨hoD, I2.hok.fresh hD, hDC, fun z => ?_, hdD⟩
   rcases List.mem_cons.mp (I2.stkSub D z) with e | e
   · exact absurd I2.lt (by rw [← e]; exact Nat.not_lt.mpr hD)
   · exact I2.nofs hD e
 hok := I2.hok.kept old
 len := by simp [Cx.inC]
theorem lcT_core {elt iter tg : Expr} {g : TG} {xs : List Str} {pos cpos : Pos} {scope : Scope} {cl : List (Str × Addr)} {wi : TI} {te : TE} {js : List Nat} {use : Option (Value → Sem Unit)} {Qc : Value → Shared → Prop} {pins : List (Addr × Obj)} {s : Shared} {σ : St} {H : Hp} {Q : VK}
   (hc : X.calm = true) (L : LcOkT X xs scope cl js) (hi : PI X tg iter wi) (hg : ∀ C s2 H2 fp xe, PG (X.inC scope cl C s2 H2 fp (xs ++ js.map (fun j => X.N.getD j "")) xe) tg g)
   (he : ∀ C s2 H2 fp xe, PE (X.inC scope cl C s2 H2 fp (xs ++ js.map (fun j => X.N.getD j "")) xe) elt te)
   (hs : ∀ z, foldedSetIterable iter X.env z = pure z) (I : Inv X pins σ H s) (h : tLCT wi g te xs.length js σ H Q)
   (fin : ∀ (D C : Addr) (H4 : Hp) (s4 : Shared) (m : Str → Option Value), s4.heap.Ns C m → FpOk X pins H4 C → (∀ h', Heap.SameBut C s4.heap h' → Inv X pins σ H4 { s4 with heap := h' }) → Q (.ref D) H4 → compPost (model X.prog X.w) X.A X.xe use Qc (.ref D) C (.ok .next) s4) :
   wpAny (model X.prog X.w) X.A (comprehension (.ListComp elt [⟨tg, iter, [], 0⟩] scope pos) scope X.env cpos (newList []) false (eval iter X.env) use) Qc X.xe s := by
 refine wpAny_comprehension_free (cl := cl) (use := use) rfl hs L.clos L.kind L.names ?_
 refine thn (hi pins s σ H _ I h) fun v s1 h1 => thn h1 fun itv s2 h2 => ?_
 obtain ⟨it, fp, tn, J, H2, e, I2, T, st2, f2, W, ⟨k0, w0⟩, turn⟩ := h2
 subst e
 refine wpAny_newObj_type (wpAny_newFunctionEnv L.cell (by intro y hy; simp at hy) (fun h₁ hns₁ hsb₁ => ?_) L.kind)
 dsimp only at hns₁ hsb₁ ⊢
 generalize hH2 : s2.heap.push { cls := .type "list", dict := none, data := .seq ([] : List Value).toArray } = Hp2 at hns₁ hsb₁ ⊢
 have hC : Hp2.objs.size = s2.heap.objs.size + 1 := by rw [← hH2, Heap.size_push]
 generalize hD0 : s2.heap.objs.size = D at hC ⊢
 generalize hC0 : Hp2.objs.size = C at hC hns₁ hsb₁ ⊢
 have hDC : D ≠ C := by omega
 have below : ∀ b, b < D → b ≠ C := fun b hb => by omega
 have old : ∀ b o, s2.heap.get? b = some o → h₁.get? b = some o := fun b o e =>
   hsb₁.extBut b o (below b (by rw [← hD0]; exact Heap.lt_size e)) (Heap.get?_push_of_some _ (hH2 ▸ Heap.get?_push_of_some _ e))
 have hacc : h₁.get? D = some { cls := .type "list", data := .seq ([] : List Value).toArray 0 } := by
   subst hD0
   exact hsb₁.extBut _ _ hDC (Heap.get?_push_of_some _ (hH2 ▸ Heap.get?_push_size _ rfl))
 have fo : ∀ b ∈ fp, ∃ o, s2.heap.get? b = some o := fun b hb => let ⟨o, e, _⟩ := T.obj _ _ st2 b hb; ⟨o, e⟩
 have flt : ∀ b ∈ fp, b < D := fun b hb => let ⟨o, e⟩ := fo b hb; by rw [← hD0]; exact Heap.lt_size e
 have st1 : tn 0 h₁ := T.keep _ _ _ st2 fun b hb o e => old b o e
 let R := compPost (model X.prog X.w) X.A X.xe use Qc (.ref D) C
 let xe := notedBy (model X.prog X.w) X.A (compEnvC scope cl C X.env) fun e s' => R (.error e) s'
 let X' := X.inC scope cl C s2 H2 fp (xs ++ js.map (fun j => X.N.getD j "")) xe
 have I0 : ∀ {t' : Nat}, Inv X' [(D, _)] (xs.map (fun _ => none) ++ js.map (fun j => σ.getD j none)) H2 { s2 with heap := h₁, toks := t' } := fun {t'} =>
   Inv.inCT L I2 f2 fo (by omega) (by omega) hDC old hns₁ hacc (fun v z => by cases z)
 have fpk : ∀ {pD : List (Addr × Obj)} {H' : Hp}, (∀ p ∈ pD, p.1 = D) → (∀ b ∈ fp, H' b = none) → ∀ b ∈ fp, FpOk X' pD H' b := fun {pD H'} hp hn b hb => by
   refine ⟨hn b hb, below b (flt b hb), fun z => ?_, .inl hb, fun y c e => (f2 b hb).2.2.2.2.1 y c (L.sub y c e), fun p hp' z => ?_⟩
   · rcases List.mem_cons.mp (I2.stkSub b z) with e | e
     · exact (f2 b hb).2.1 e
     · exact (f2 b hb).2.2.1 e
   · have q := hp p (by simpa [X', Cx.inC] using hp')
     have := flt b hb
     rw [← z, q] at this
     exact Nat.lt_irrefl _ this
 have loop : ∀ s3 : Shared, (∃ k i ys H' its n, ∃ σ0 : St, σ0.length = xs.length ∧ Inv X' [(D, { cls := .type "list", data := .seq (its : List Value).toArray n })] (σ0 ++ js.map (fun j => σ.getD j none)) H' s3 ∧ tn i s3.heap ∧ (∀ b ∈ fp, H' b = none) ∧ W i k ys H' ∧ Vals ys its ∧ ys.length ≤ sizeLine) →
     codeAny (model X.prog X.w) X.A (.compLoop (.ListComp elt [⟨tg, iter, [], 0⟩] scope pos) 0 (.ref it) (.ref D) (compEnvC scope cl C X.env)) R s3 := by
   rintro s3 ⟨k, hk⟩
   refine codeAny_loop rfl (fun k s3 => ∃ i ys H' its n, ∃ σ0 : St, σ0.length = xs.length ∧ Inv X' [(D, { cls := .type "list", data := .seq (its : List Value).toArray n })] (σ0 ++ js.map (fun j => σ.getD j none)) H' s3 ∧ tn i s3.heap ∧ (∀ b ∈ fp, H' b = none) ∧ W i k ys H' ∧ Vals ys its ∧ ys.length ≤ sizeLine) (fun k s3 hI => ?_) k hk
   obtain ⟨i, ys, H3, its, n, σ0, hσ0, I3, st3, fr3, w3, vy, hz⟩ := hI
   show wpAny _ _ ((compTurn (.ListComp elt [⟨tg, iter, [], 0⟩] scope pos) 0 (.ref it) (.ref D) (compEnvC scope cl C X.env)).onRaise (fun x => do noteFrame x (compEnvC scope cl C X.env); theTreesLotGoes x)) _ _ s3
   refine wpAny_noted ?_
   rw [compTurn_list1]
   have hpD : ∀ {o : Obj}, ∀ p ∈ [(D, o)], p.1 = D := fun p hp => by rw [List.mem_singleton.mp hp]
   refine wpAny_bind (wpAny_standAt (wpAny_bind ?_))
   rcases turn i k ys H3 w3 with ⟨stop, qn⟩ | ⟨go, hlen, N, hN, step⟩
   · refine thn (T.done X' rfl rfl rfl hc i _ s3 _ H3 xe I3 (fpk hpD fr3) st3 stop) fun r s4 ⟨hr, I4⟩ => ?_
     subst hr
     refine wpAny_pure ?_
     obtain ⟨m, hn, _⟩ := I4.loc
     obtain ⟨eD, nD, _⟩ := I4.pin (D, _) (List.mem_append_right _ (List.mem_singleton.mpr rfl))
     have fC : FpOk X pins (upd H3 D (.lst ys)) C := I2.fpOk (by omega) (by
       rw [upd_ne (Ne.symm hDC)]
       exact I4.free)
     refine fin D C (upd H3 D (.lst ys)) s4 m hn fC (fun h' sb => ?_) (qn D nD)
     obtain ⟨hh, g, d, t, os'⟩ := s4
     obtain rfl : os' = s2.os := I4.os
     have kp : ∀ b o, b ≠ C → hh.get? b = some o → h'.get? b = some o := fun b o hb e => (sb.2 b hb).trans e
     have lt2 : ∀ b o, s2.heap.get? b = some o → b ≠ C ∧ b ≠ D := fun b o e => by
       have q : b < D := by rw [← hD0]; exact Heap.lt_size e
       exact ⟨below b q, Nat.ne_of_lt q⟩
     have B : Un (frs X.stack) fp H2 H3 s2.heap hh := I4.base
     have hDn : H3 D = none := nD
     have I5 : Inv X pins σ (upd H3 D (.lst ys)) { s2 with heap := h', gens := g, drawn := d, toks := t } := by
       refine I2.call (h' := h') (g' := g) (d' := d) (t' := t) (ch := fp) ⟨?_, ?_, ?_, ?_, ?_, ?_, ?_⟩ ?_ I4.bare ?_
       · exact fun b o e n hb hx => kp b o (lt2 b o e).1 (B.keep b o e n hb hx)
       · intro b o e n hb hx
         obtain ⟨sl, q⟩ := B.slot b o e n hb hx
         exact ⟨sl, kp b _ (lt2 b o e).1 q⟩
       · intro b o e n hx
         rw [upd_ne (lt2 b o e).2]
         exact B.free b o e n hx
       · intro b o e hx
         obtain ⟨o', q⟩ := B.there b o e hx
         exact ⟨o', kp b o' (lt2 b o e).1 q⟩
       · intro b xs e
         have q := B.tups b xs e
         rw [upd_ne (ne_of_none q hDn)]
         exact q
       · intro b o u e
         have q := B.frzs b o u e
         rw [upd_ne (ne_of_none q hDn)]
         exact q
       · intro b ps e
         obtain ⟨more, q⟩ := B.tbls b ps e
         exact ⟨more, by rw [upd_ne (ne_of_none q hDn)]; exact q⟩
       · intro b u e
         by_cases hb : b = D
         · subst hb
           rw [upd_same] at e
           cases e
           exact ⟨hz, its, n, vy, kp _ _ hDC eD⟩
         · rw [upd_ne hb] at e
           have nC : ∀ c o, H3 c = some o → c ≠ C := fun c o q => ne_of_none q I4.free
           refine (I4.hok b u e).stay (fun c v hc' q => kp c v ?_ q) (fun c q => by rw [upd_ne (ne_of_none q hDn)]; exact q) fun c xs q => by rw [upd_ne (ne_of_none q hDn)]; exact q
           rcases hc' with z | z
           · rw [z]; exact nC b u e
           · exact nC c _ z
       · intro b hb
         obtain ⟨_, f1, _, f3, f4, f5⟩ := f2 b hb
         exact ⟨f3, f1, f4, f5⟩
     exact I5
   · refine thn (T.item X' rfl rfl rfl hc i _ s3 _ H3 xe I3 (fpk hpD fr3) st3 go) fun r s4 ⟨u, hr, h4⟩ => ?_
     subst hr
     refine wpAny_bind (thn h4 fun _ s5 ⟨xv, H5, I5, r5, y5, st5, fr5⟩ => ?_)
     have I5' := I5.pinned (fpk hpD fr5) (T.obj _ _ st5)
     refine wpAny_bind (thn (hg C s2 H2 fp xe _ s5 _ H5 xv u _ I5' r5 (step xv _ y5 σ0 hσ0)) fun _ s6 ⟨σ6, H6, I6, σ1, hσ1, e6, st6⟩ => ?_)
     subst e6
     refine wpAny_bind (wpAny_bind (thn (he C s2 H2 fp xe _ s6 _ _ _ I6 st6) fun y s7 ⟨yv, H7, I7, ry, n7⟩ => ?_))
     obtain ⟨m', hm, w7⟩ := hN yv H7 n7
     have I7' := I7.unpinned
     obtain ⟨eD, nD, neC, nfs, _⟩ := I7'.pin (D, _) (List.mem_append_right _ (List.mem_singleton.mpr rfl))
     have eD' : s7.heap.get? D = some { cls := .type "list", data := .seq its.toArray n } := eD
     have lv := vy.length
     refine wpAny_bind (call_meets F.slot_list_append ⟨_, eD', rfl⟩ F.entry_list_append (F.args_list_append_2 _ _) (PySem.list_append D its.toArray n y (by rw [List.size_toArray]; omega)) ⟨eD', ?_⟩)
     refine wpAny_pure (wpAny_pure ⟨rfl, m', hm, i + 1, ys ++ [yv], H7, its ++ [y], ?_⟩)
     have q := PySem.IsL.update eD' (fun a : Array Value => a.push y)
     have I8 : Inv X' [] (σ1 ++ js.map (fun j => σ.getD j none)) H7 { s7 with heap := s7.heap.update D (Obj.mapSeq (fun a : Array Value => a.push y)) } :=
       (I7'.pins_of (pins' := []) (fun p hp => nomatch hp)).turned (t' := s7.toks) (it := D) (fun b o hb e => (Heap.get?_update_other s7.heap _ (Ne.symm hb)).trans e) nD neC (.inr (by show s2.heap.objs.size ≤ D; omega))
         (fun z c e w => by
           obtain ⟨v', o', ho', _⟩ := I2.cell z c (L.sub z c e)
           have := Heap.lt_size ho'
           rw [w, hD0] at this
           exact Nat.lt_irrefl _ this) (fun p hp => nomatch hp)
     have pinf : ∀ b ∈ fp, ∀ o, s5.heap.get? b = some o → s7.heap.get? b = some o ∧ H7 b = none := fun b hb o e => by
       have z := I7.pin (b, o) (List.mem_append_right _ (List.mem_append_right _ (mem_pinsAt hb e)))
       exact ⟨z.1, z.2.1⟩
     obtain ⟨n', q'⟩ : ∃ n', (s7.heap.update D (Obj.mapSeq (fun a : Array Value => a.push y))).get? D = some { cls := .type "list", data := .seq (its ++ [y]).toArray n' } := by
       rw [show (its ++ [y]).toArray = its.toArray.push y by simp]
       exact ⟨_, q⟩
     refine ⟨n', σ1, hσ1, I8.pins_of fun p hp => ?_, ?_, fun b hb => ?_, w7, vy.append (.cons ry .nil), by rw [List.length_append, List.length_singleton]; omega⟩
     · rw [List.mem_singleton.mp hp]
       exact ⟨q', nD, neC, nfs, fun v z => by cases z⟩
     · refine T.keep _ _ _ st5 fun b hb o e => ?_
       have hb' : D ≠ b := fun z => by
         have := flt b hb
         rw [← z] at this
         exact Nat.lt_irrefl _ this
       exact (Heap.get?_update_other s7.heap _ hb').trans (pinf b hb o e).1
     · obtain ⟨o, e, _⟩ := T.obj _ _ st5 b hb
       exact (pinf b hb o e).2
 have start : ∀ {t' : Nat}, ∃ k i ys H' its n, ∃ σ0 : St, σ0.length = xs.length ∧ Inv X' [(D, { cls := .type "list", data := .seq (its : List Value).toArray n })] (σ0 ++ js.map (fun j => σ.getD j none)) H' { s2 with heap := h₁, toks := t' } ∧ tn i h₁ ∧ (∀ b ∈ fp, H' b = none) ∧ W i k ys H' ∧ Vals ys its ∧ ys.length ≤ sizeLine := fun {t'} =>
   ⟨k0, 0, [], H2, [], 0, xs.map (fun _ => none), List.length_map .., I0, st1, fun b hb => (f2 b hb).1, w0, .nil, Nat.zero_le _⟩
 exact codeAny_compStart_list (loop _ start) (T.self X.A 0 _ _ _ st1 (loop _ start))
theorem pe_lcT {elt iter tg : Expr} {g : TG} {xs : List Str} {pos : Pos} {scope : Scope} {cl : List (Str × Addr)} {wi : TI} {te : TE} (js : List Nat) (hc : X.calm = true) (L : LcOkT X xs scope cl js) (hi : PI X tg iter wi)
   (hg : ∀ C s2 H2 fp xe, PG (X.inC scope cl C s2 H2 fp (xs ++ js.map (fun j => X.N.getD j "")) xe) tg g)
   (he : ∀ C s2 H2 fp xe, PE (X.inC scope cl C s2 H2 fp (xs ++ js.map (fun j => X.N.getD j "")) xe) elt te)
   (hs : ∀ z, foldedSetIterable iter X.env z = pure z := by intro _; rfl) :
   PE X (.ListComp elt [⟨tg, iter, [], 0⟩] scope pos) (tLCT wi g te xs.length js) := by
 intro pins s σ H Q I h
 rw [eval_ListComp]
 exact lcT_core (use := none) hc L hi hg he hs I h fun D C H4 s4 m hn _ I4 q => ⟨m, hn, fun h' sb => ⟨.ref D, H4, I4 h' sb, rfl, q⟩⟩
theorem LcOkT.plain {X : Cx} {xs : List Str} {scope : Scope} (hfree : ∀ y ∈ scope.names, y.2 ≠ .free) (hcell : ∀ y ∈ scope.names, y.2 ≠ .cell) (hkind : scope.kind = .function) (hnames : ∀ y ∈ scope.names, y.2 = .local → scope.names.lookup y.1 = some .local)
   (hloc : ∀ x ∈ xs, scope.names.lookup x = some .local) (hnd : xs.Nodup) : LcOkT X xs scope [] [] where
 clos := closureFor_none hfree
 sub := fun _ _ e => nomatch e
 kind := hkind
 cell := hcell
 names := hnames
 loc := hloc
 has := fun y h => by
   rcases h with h | h
   · exact (lookup_relabel_not hfree hcell h).elim
   · exact (lookup_relabel_not hfree hfree h).elim
 nd := by simpa using hnd
 fr := fun _ h => nomatch h
end
end L2
namespace L2
open PySem PySem.Spec PyProof.Rows PySem.W PySem.Calls L3
end L2
namespace L2
open PySem PySem.Spec PyProof.Rows L3
theorem pg_nameT {X : Cx} {xs : List Str} {scope : Scope} {cl : List (Str × Addr)} {js : List Nat} {C : Addr} {s2 : Shared} {H2 : Hp} {fp : List Addr} {xe : Value → Shared → Prop} {i : Nat} {x : Str} {px : Pos} (L : LcOkT X xs scope cl js) (hi : (xs ++ js.map (fun j => X.N.getD j ""))[i]? = some x) (hx : x ∈ xs) :
   PG (X.inC scope cl C s2 H2 fp (xs ++ js.map (fun j => X.N.getD j "")) xe) (.Name x px) (gName i) :=
 pg_name (X := X.inC scope cl C s2 H2 fp (xs ++ js.map (fun j => X.N.getD j "")) xe) L.nd hi (Or.inl (lookup_relabel_local (L.loc x hx))) (Or.inr (lookup_relabel_local (L.loc x hx)))
theorem pg_tup2T {X : Cx} {x1 x2 : Str} {p1 p2 pos : Pos} {k : Nat} {scope : Scope} {cl : List (Str × Addr)} {js : List Nat} (hc : X.calm = true) (L : LcOkT X [x1, x2] scope cl js) :
   ∀ (C : Addr) (s2 : Shared) (H2 : Hp) (fp : List Addr) (xe : Value → Shared → Prop), PG (X.inC scope cl C s2 H2 fp ([x1, x2] ++ js.map (fun j => X.N.getD j "")) xe) (.Tuple [.Name x1 p1, .Name x2 p2] k pos) (gTup X.K 2 (gCons (gName 0) (gCons (gName 1) gNil))) := fun C s2 H2 fp xe =>
 pg_tup (X := X.inC scope cl C s2 H2 fp ([x1, x2] ++ js.map (fun j => X.N.getD j "")) xe) hc (pgs_cons (pg_nameT (i := 0) L rfl List.mem_cons_self) (pgs_cons (pg_nameT (i := 1) L rfl (List.mem_cons_of_mem _ List.mem_cons_self)) pgs_nil))
end L2
namespace PySem.W
open PySem PySem.Calls PyProof.Rows PyProof.V PySem.Spec
section
variable {prog : Program} {w : World} {A : Around} {E : Value → Shared → Prop}
variable {K : Type} [DecidableEq K] {knd : KeyKind prog w K}
def storedAll (kvs : List (K × Value)) (ps : List (K × Value)) : List (K × Value) := ps.foldl (fun acc p => stored acc p.1 p.2) kvs
end
end PySem.W
namespace L2
open PySem PySem.Spec PyProof.Rows L3
section
variable {X : Cx}
def putAll (kvs : List (Key × V)) (ps : List (Key × V)) : List (Key × V) := ps.foldl (fun acc p => putK acc p.1 p.2) kvs
theorem KV.putAll : ∀ {ps : List (Key × V)} {qs : List (Key × Value)} {kvs : List (Key × V)} {vs : List (Key × Value)}, KV ps qs → KV kvs vs → KV (putAll kvs ps) (PySem.W.storedAll vs qs) := by
 intro ps qs kvs vs r
 unfold KV at r
 induction r generalizing kvs vs with
 | nil => intro q; exact q
 | @cons p q ps qs h t ih =>
   intro r0
   have e : KV (putK kvs p.1 p.2) (stored vs q.1 q.2) := by
     have := r0.put p.1 h.2
     rw [← h.1]
     exact this
   exact ih e
end
end L2
namespace PySem.W
open PySem PySem.Calls PyProof.Rows PyProof.V PySem.Spec
section
variable {prog : Program} {w : World} {A : Around} {E : Value → Shared → Prop} {s : Shared} {r l : Addr} {items : Array Value}
end
end PySem.W
namespace L2
open PySem PySem.Spec PyProof.Rows L3
section
variable {X : Cx}
end
end L2
namespace L2
open PySem PySem.Spec PyProof.Rows L3
def DefX (K : PySem.W.Frag) (C : Addr) (qual : Str) (st : Stmt) : Prop := ∃ f fd, FunD K "__init__" qual st f fd .none ∧ PySem.W.findIn K (.ref C) "__init__" = some (some (.ref f)) ∧ PySem.W.isFn K (.ref f) = true
def CalX (P : Program) (w : World) (K : PySem.W.Frag) (mg : Str → Option Value) (base : Heap) (cm : Bool) (k : Nat) (C : Addr) (ps : List Str) (sp : Sp) : Prop :=
 ∃ f fd, PySem.W.findIn K (.ref C) "__init__" = some (some (.ref f)) ∧ PySem.W.isFn K (.ref f) = true ∧ FnOk P w K mg base CX0 cm k f fd ps sp ∧ Binds K fd ps []
section
variable {X : Cx}
end
end L2
namespace L2
open PySem PySem.W PyProof.Rows
structure Ord (n : Nat) (lt : Nat → Nat → Bool) : Prop where
 tri : ∀ i j, i < n → j < n → i ≠ j → lt i j = !lt j i
 tr : ∀ i j k, i < n → j < n → k < n → lt i j = true → lt j k = true → lt i k = true
structure PermN (n : Nat) (p : Array Nat) : Prop where
 pm : p.toList.Perm (List.range n)
theorem PermN.size {n : Nat} {p : Array Nat} (h : PermN n p) : p.size = n := by
 have := h.pm.length_eq
 simpa using this
theorem gD {p : Array Nat} {i : Nat} (h : i < p.size) : p.getD i 0 = p[i] := by
 rw [Array.getD_eq_getD_getElem?, Array.getElem?_eq_getElem h]
 rfl
theorem PermN.lt {n : Nat} {p : Array Nat} (h : PermN n p) {i : Nat} (hi : i < n) : p.getD i 0 < n := by
 rw [gD (by rw [h.size]; exact hi)]
 have : p[i]'(by rw [h.size]; exact hi) ∈ p.toList := by simp
 exact List.mem_range.mp (h.pm.mem_iff.mp this)
theorem PermN.inj {n : Nat} {p : Array Nat} (h : PermN n p) {i j : Nat} (hi : i < n) (hj : j < n) (hne : i ≠ j) : p.getD i 0 ≠ p.getD j 0 := by
 have hi' : i < p.toList.length := by rw [Array.length_toList, h.size]; exact hi
 have hj' : j < p.toList.length := by rw [Array.length_toList, h.size]; exact hj
 have nd : p.toList.Nodup := h.pm.nodup_iff.mpr List.nodup_range
 rw [gD (by rw [h.size]; exact hi), gD (by rw [h.size]; exact hj)]
 intro e
 exact hne ((List.getElem_inj (h₀ := hi') (h₁ := hj') nd).mp (by simpa using e))
def Up (lt : Nat → Nat → Bool) (p : Array Nat) (m : Nat) : Prop := ∀ i j, i < j → j < m → lt (p.getD i 0) (p.getD j 0) = true
def Dn (lt : Nat → Nat → Bool) (p : Array Nat) (m : Nat) : Prop := ∀ i j, i < j → j < m → lt (p.getD j 0) (p.getD i 0) = true
section
variable {n : Nat} {lt : Nat → Nat → Bool} {cmp : Nat → Nat → (Bool → Shared → Prop) → Shared → Prop} {s : Shared}
theorem Up.next (O : Ord n lt) {p : Array Nat} (P : PermN n p) {m : Nat} (h1 : 1 ≤ m) (hm : m < n) (u : Up lt p m) (h : lt (p.getD (m - 1) 0) (p.getD m 0) = true) : Up lt p (m + 1) := by
 intro i j hij hj
 by_cases e : j = m
 · subst e
   by_cases e2 : i = j - 1
   · subst e2; exact h
   · exact O.tr _ _ _ (P.lt (by omega)) (P.lt (by omega)) (P.lt hm) (u i (j - 1) (by omega) (by omega)) h
 · exact u i j hij (by omega)
theorem Dn.next (O : Ord n lt) {p : Array Nat} (P : PermN n p) {m : Nat} (h1 : 1 ≤ m) (hm : m < n) (u : Dn lt p m) (h : lt (p.getD m 0) (p.getD (m - 1) 0) = true) : Dn lt p (m + 1) := by
 intro i j hij hj
 by_cases e : j = m
 · subst e
   by_cases e2 : i = j - 1
   · subst e2; exact h
   · exact O.tr _ _ _ (P.lt hm) (P.lt (by omega)) (P.lt (by omega)) h (u i (j - 1) (by omega) (by omega))
 · exact u i j hij (by omega)
end
end L2
namespace L2
open PySem PySem.W PySem.Spec PyProof.Rows L3
section
variable {prog : Program} {w : World} {s : Shared} {A : Around} {E : Value → Shared → Prop}
theorem RawD.stay {h h' : Heap} {d : Addr} {es : Array DictEntry} {ep : Nat} (x : RawD h d es ep) (k : ∀ o, h.get? d = some o → h'.get? d = some o) : RawD h' d es ep := by
 obtain ⟨o, ho, r⟩ := x
 exact ⟨o, k o ho, r⟩
theorem RawD.lt {h : Heap} {d : Addr} {es : Array DictEntry} {ep : Nat} (x : RawD h d es ep) : d < h.objs.size := by
 obtain ⟨o, ho, _⟩ := x
 exact Heap.lt_size ho
theorem rawWalks (hh : A.handled = none) (I d : Addr) (hne : d ≠ I) (es : Array DictEntry) (ep : Nat) :
   Walks prog w A I [I, d] [I] es.size (fun i v => ∃ e, es[i]? = some e ∧ v = e.key) (fun i h => h.IsKeyIter I d i es.size ep ∧ RawD h d es ep) where
 sub := fun b hb => by rw [List.mem_singleton.mp hb]; exact List.mem_cons_self
 frame := fun _ _ _ st hk => ⟨st.1.at fun o e => hk I (by simp) o e, st.2.stay fun o e => hk d (by simp) o e⟩
 item := fun i s R E hi st hR => by
   refine raw_next hh st.1 st.2 (fun h h' it sb => ?_) fun z => absurd hi (by omega)
   exact hR _ h' s.toks ⟨es[i], Array.getElem?_eq_getElem h, rfl⟩ ⟨it, st.2.stay fun o e => (sb.2 d hne).trans e⟩ fun b o hb e => (sb.2 b (fun z => hb (by simp [z]))).trans e
 done := fun s R E st hR => by
   refine raw_next hh st.1 st.2 (fun h => absurd h (Nat.lt_irrefl _)) fun _ h' eb => ?_
   exact hR h' s.toks fun b o hb e => eb b o (fun z => hb (by simp [z])) e
 self := fun _ _ _ _ x hR => wpAny_pyIter_keyiter x.1 hR
theorem rawSrc {d : Addr} {es : Array DictEntry} {ep : Nat} (lo : (d == sysModules) = false) : KdlSrc prog w "dict" d d es.size (fun i v => ∃ e, es[i]? = some e ∧ v = e.key) (fun h => RawD h d es ep) where
 type := fun _ hm => hm.typeIs
 there := fun _ hm => ⟨hm.lt, hm.lt⟩
 keep := fun _ _ hm hk => hm.stay fun o e => hk d (.inl rfl) o e
 notList := by decide
 notTuple := by decide
 hint := fun _ _ _ _ hm hq => kdl_hint_dict hm.typeIs hq
 iter := fun _ _ hh hm => ⟨_, _, (fun _ _ hq => raw_iter lo hm hq), rawWalks hh _ d (Nat.ne_of_lt hm.lt) es ep, ⟨⟨_, Heap.get?_push_size _ rfl, rfl, rfl⟩, hm.stay fun o e => Heap.get?_push_of_some _ e⟩⟩
theorem iadd_raw {R : Result → Shared → Prop} {d S : Addr} {es : Array DictEntry} {ep : Nat} (lo : (d == sysModules) = false) (hh : A.handled = none) (hm : RawD s.heap d es ep) (hn : es.size ≤ sizeLine) (hSd : S ≠ d) (hS : s.heap.get? S = some { cls := .type "list", data := .seq #[] 0 })
   (hR : ∀ h' tk acc' c', (∀ b o, b ≠ S → s.heap.get? b = some o → h'.get? b = some o) → h'.get? S = some { cls := .type "list", dict := none, data := .seq acc' c', slots := #[] } → acc'.toList = es.toList.map (·.key) → R (.ok (.ret (.ref S))) { s with heap := h', toks := tk }) :
   codeAny (model prog w) A (.builtin "list.__iadd__" ⟨[.ref S, .ref d], []⟩) R s := by
 refine codeAny_builtin entry_list_iadd' ?_
 refine kdl_extend (R := R) (rawSrc lo) hh hm S hSd hSd (.ref S) 0 hS (fun h' tk acc c k hS' hacc => hR h' tk acc c k hS' ?_) hn
 apply List.ext_getElem?
 intro i
 rw [List.getElem?_map]
 by_cases hi : i < acc.toList.length
 · have hi2 : i < acc.size := by simpa using hi
   obtain ⟨e, h1, h2⟩ := hacc.2 i acc[i] (Array.getElem?_eq_getElem hi2)
   rw [List.getElem?_eq_getElem hi, Array.getElem?_toList, h1]
   simp [h2]
 · rw [List.getElem?_eq_none (by omega), Array.getElem?_toList, Array.getElem?_eq_none (by have := hacc.1; simp at hi; omega)]
   rfl
theorem collect_raw {d : Addr} {es : Array DictEntry} {ep : Nat} {Q : List Value → Shared → Prop} (lo : (d == sysModules) = false) (hh : A.handled = none) (hm : RawD s.heap d es ep) (hn : es.size ≤ sizeLine)
   (h : ∀ h' tk, (∀ b o, s.heap.get? b = some o → h'.get? b = some o) → s.heap.objs.size < h'.objs.size → Q (es.toList.map (·.key)) { s with heap := h', toks := tk }) : wpAny (model prog w) A (collect (.ref d)) Q E s := by
 unfold collect; refine wpAny_bind (wpAny_runValue (codeAny_builtin entry_proto_collect' ?_))
 have hS : (s.heap.push (seqObj "list" #[] 0)).get? s.heap.objs.size = some (seqObj "list" #[] 0) := Heap.get?_push_size _ rfl
 have hm' : RawD (s.heap.push (seqObj "list" #[] 0)) d es ep := hm.stay fun o e => Heap.get?_push_of_some _ e
 have hSd : s.heap.objs.size ≠ d := Ne.symm (Nat.ne_of_lt hm.lt)
 refine wpAny_bind (wpAny_newList (wpAny_pure ⟨Code.quiet_builtin _ (by decide +kernel), iadd_raw (s := { s with heap := s.heap.push (seqObj "list" #[] 0) }) lo hh hm' hn hSd hS fun h' tk acc c k hS' e => ?_⟩))
 refine (wpAny_bind (wpAny_load (s := { s with heap := h', toks := tk }) hS' ?_) : wpAny (model prog w) A (load s.heap.objs.size >>= fun o => match o.data with | .seq xs _ => pure xs.toList | _ => unsupported "internal:collect") Q E { s with heap := h', toks := tk })
 show wpAny (model prog w) A (pure acc.toList) Q E _
 rw [e]
 exact wpAny_pure (h h' tk (fun b o hb => k b o (Nat.ne_of_lt (Heap.lt_size hb)) (Heap.get?_push_of_some _ hb)) (Heap.lt_size hS'))
end
end L2
namespace L2
open PySem PySem.W PySem.Spec PyProof.Rows L3
section
variable {prog : Program} {w : World} {s : Shared} {A : Around} {E : Value → Shared → Prop}
end
end L2
namespace L2
open PySem PySem.W PySem.Spec PyProof.Rows L3
section
variable {prog : Program} {w : World} {s : Shared} {A : Around} {E : Value → Shared → Prop}
end
end L2
namespace L2
open PySem PySem.W PySem.Spec PyProof.Rows L3
section
variable {prog : Program} {w : World} {s : Shared} {A : Around} {E : Value → Shared → Prop}
def TwoAt (h : Heap) (a : Addr) (k : Str × Str) : Prop := ∃ o n t u, h.get? a = some o ∧ o.cls = .type "tuple" ∧ o.data = .seq #[.str k.1 t, .str k.2 u] n
inductive TwosAt (h : Heap) : List Addr → List (Str × Str) → Prop where
 | nil : TwosAt h [] []
 | cons {a : Addr} {k : Str × Str} {as : List Addr} {ks : List (Str × Str)} (x : TwoAt h a k) (r : TwosAt h as ks) : TwosAt h (a :: as) (k :: ks)
theorem TwosAt.keep {h h' : Heap} (kp : ∀ b o, h.get? b = some o → h'.get? b = some o) : ∀ {as : List Addr} {ks : List (Str × Str)}, TwosAt h as ks → TwosAt h' as ks
 | _, _, .nil => .nil
 | _, _, .cons ⟨o, n, t, u, e, r⟩ x => .cons ⟨o, n, t, u, kp _ _ e, r⟩ (x.keep kp)
theorem TwosAt.len {h : Heap} : ∀ {as : List Addr} {ks : List (Str × Str)}, TwosAt h as ks → as.length = ks.length
 | _, _, .nil => rfl
 | _, _, .cons _ r => congrArg (· + 1) r.len
theorem TwosAt.at {h : Heap} : ∀ {as : List Addr} {ks : List (Str × Str)} (i : Nat), TwosAt h as ks → i < as.length → ∃ a, (as.map Value.ref).getD i Value.none = .ref a ∧ TwoAt h a (ks.getD i ("", ""))
 | _, _, i, .nil, hi => absurd hi (Nat.not_lt_zero _)
 | _, _, 0, .cons x _, _ => ⟨_, rfl, x⟩
 | _, _, i + 1, .cons _ r, hi => by
   obtain ⟨a, e, x⟩ := r.at i (by simpa using hi)
   exact ⟨a, by simpa [List.getD] using e, by simpa [List.getD] using x⟩
theorem TwosAt.kats {h : Heap} : ∀ {as : List Addr} {ks : List (Str × Str)}, TwosAt h as ks → ∃ fs : List Value, fs.length = ks.length ∧ (∀ v ∈ fs, ∃ x t, v = .str x t) ∧ KatTups h (as.map Value.ref) fs
 | _, _, .nil => ⟨[], rfl, (fun v hv => nomatch hv), KatTups.nil⟩
 | _, _, .cons ⟨o, n, t, u, e, c, d⟩ r => by
   obtain ⟨fs, h1, h2, h3⟩ := r.kats
   refine ⟨_ :: fs, congrArg (· + 1) h1, fun v hv => ?_, KatTups.cons e c d rfl h3⟩
   rcases List.mem_cons.mp hv with z | z
   · exact ⟨_, _, z⟩
   · exact h2 v z
end
end L2
namespace L2
open PySem PySem.W PySem.Spec PyProof.Rows L3
section
variable {X : Cx}
end
end L2
namespace L2
open PySem PySem.Spec PyProof.Rows L3
section
variable {X : Cx}
end
end L2
namespace L2
open PySem PySem.Spec PyProof.Rows L3
end L2
namespace L2
open PySem PySem.Spec PyProof.Rows L3
section
variable {X : Cx}
end
end L2
namespace L2
open PySem PySem.Spec PyProof.Rows L3
section
variable {X : Cx}
theorem xe_comp {x0 : Str} {scope : Scope} {cl : List (Str × Addr)} {js : List Nat} {N' : List Str} {use : Option (Value → Sem Unit)} {Qc : Value → Shared → Prop} {acc : Value} {R : St → Prop} {E : XK} {pins : List (Addr × Obj)} {σ : St} {H2 : Hp} {s2 : Shared} {fp : List Addr} {C : Addr}
   (hx : XeIs X R E) (hR : R σ) (hst : X.stack = X.env :: X.outer) (hfr : X.env.frame = some X.env.locals) (L : LcOk X x0 scope cl js) (I2 : Inv X pins σ H2 s2) (f2 : ∀ b ∈ fp, FpOk X pins H2 b) (fo : ∀ b ∈ fp, ∃ o, s2.heap.get? b = some o) (hC : s2.heap.objs.size < C) :
   XeIs (X.inC scope cl C s2 H2 fp N' (notedBy (model X.prog X.w) X.A (compEnvC scope cl C X.env) fun e s' => compPost (model X.prog X.w) X.A X.xe use Qc acc C (.error e) s')) (fun _ => True) E := by
 intro pins' σ' H' s' x Cx dx I' _ ex e
 have fpX : ∀ {b : Addr}, FpOk (X.inC scope cl C s2 H2 fp N' (notedBy (model X.prog X.w) X.A (compEnvC scope cl C X.env) fun e s' => compPost (model X.prog X.w) X.A X.xe use Qc acc C (.error e) s')) pins' H' b → FpOk X pins H' b ∧ b ≠ C := fun {b} f => by
   obtain ⟨g0, g1, _, g3, _⟩ := f
   refine ⟨?_, g1⟩
   rcases g3 with z | z
   · obtain ⟨_, q1, q2, q3, q4, q5⟩ := f2 b z
     exact ⟨g0, q1, q2, q3, q4, q5⟩
   · exact I2.fpOk z g0
 show wpAny (model X.prog X.w) X.A (noteFrame (.ref x) (compEnvC scope cl C X.env)) (fun _ s'' => compPost (model X.prog X.w) X.A X.xe use Qc acc C (.error (.ref x)) s'') (fun e s'' => compPost (model X.prog X.w) X.A X.xe use Qc acc C (.error e) s'') s'
 rw [note_env (env1 := compEnvC scope cl C X.env) (env2 := X.env) rfl]
 have fr : X.A.frames = some (X.env :: X.outer) := by rw [← hst]; exact I'.ok.frames
 have stk : s'.heap.FunFrames X.base (X.env :: X.outer) := by rw [← hst]; exact I'.stack
 have fin : ∀ (T : Addr) (fl : Value) (h2 : Heap), Inv (X.inC scope cl C s2 H2 fp N' (notedBy (model X.prog X.w) X.A (compEnvC scope cl C X.env) fun e s' => compPost (model X.prog X.w) X.A X.xe use Qc acc C (.error e) s')) pins' σ' H' { s' with heap := h2 } → FpOk X pins H' T → T ≠ C → T ≠ x →
     Rec h2 x Cx dx (.ref T) → Tra h2 T fl → compPost (model X.prog X.w) X.A X.xe use Qc acc C (.error (.ref x)) { s' with heap := h2 } := by
   intro T fl h2 J fT nTC ne r t
   obtain ⟨m, hn, _⟩ := J.loc
   refine ⟨m, hn, fun h' sb cenv _ => ?_⟩
   obtain ⟨own, nxC⟩ := fpX ex.own
   have kp : ∀ b o, b ≠ C → h2.get? b = some o → h'.get? b = some o := fun b o hb q => (sb.2 b hb).trans q
   have lt2 : ∀ b o, s2.heap.get? b = some o → b ≠ C := fun b o q => Nat.ne_of_lt (Nat.lt_trans (Heap.lt_size q) hC)
   have I5 : Inv X pins σ H' { s' with heap := h' } := by
     obtain ⟨hh, g, d, tk, os'⟩ := s'
     obtain rfl : os' = s2.os := J.os
     have B : Un (frs X.stack) fp H2 H' s2.heap h2 := J.base
     show Inv X pins σ H' { s2 with heap := h', gens := g, drawn := d, toks := tk }
     refine I2.call (h' := h') (g' := g) (d' := d) (t' := tk) (ch := fp) ⟨?_, ?_, ?_, ?_, ?_, ?_, ?_⟩ ?_ J.bare ?_
     · exact fun b o q n hb hx => kp b o (lt2 b o q) (B.keep b o q n hb hx)
     · intro b o q n hb hx
       obtain ⟨sl, q2⟩ := B.slot b o q n hb hx
       exact ⟨sl, kp b _ (lt2 b o q) q2⟩
     · exact fun b o q n hx => B.free b o q n hx
     · intro b o q hx
       obtain ⟨o', q2⟩ := B.there b o q hx
       exact ⟨o', kp b o' (lt2 b o q) q2⟩
     · exact fun b xs q => B.tups b xs q
     · exact fun b o u q => B.frzs b o u q
     · exact fun b ps q => B.tbls b ps q
     · intro b u q
       have nC : ∀ c o, H' c = some o → c ≠ C := fun c o q2 => ne_of_none q2 J.free
       refine (J.hok b u q).stay (fun c v hc' q2 => kp c v ?_ q2) (fun c q2 => q2) fun c xs q2 => q2
       rcases hc' with z | z
       · rw [z]; exact nC b u q
       · exact nC c _ z
     · intro b hb
       obtain ⟨_, f1, _, f3, f4, f5⟩ := f2 b hb
       exact ⟨f3, f1, f4, f5⟩
   have r5 : Rec h' x Cx dx (.ref T) := by
     obtain ⟨oe, vs, he, q⟩ := r
     exact ⟨oe, vs, kp x oe nxC he, q⟩
   have t5 : Tra h' T fl := by
     obtain ⟨oT, ts, hT, q⟩ := t
     exact ⟨oT, ts, kp T oT nTC hT, q⟩
   unfold PySem.passOn
   obtain ⟨oe, vs, he, hcl, hdi, hda, h1⟩ := id r5
   refine wpAny_bind (wpAny_field he hda h1 ?_)
   rw [if_neg (show ¬ ((Value.ref T == Value.none) = true) from by simp)]
   refine wpAny_bind (flight_to r5 ne t5 fun h6 fl' a6 r6 t6 => ?_)
   have I6 := aft (h' := h6) I5 (a6.mono (by simp) fun _ z => z) (fun b hb => by rw [List.mem_singleton.mp hb]; exact fT)
   exact wpAny_throw (hx pins σ H' _ x Cx dx I6 hR ⟨own, .inr ⟨T, fl', r6, ne, t6, fT⟩⟩ e)
 rcases ex.tr with r | ⟨T0, fl0, r, ne0, t0, f0⟩
 · refine note_new fr stk hfr r fun h' T a sz r' t' => ?_
   have xT : T ≠ x := by
     obtain ⟨oe, _, he, _⟩ := r
     exact fun z => absurd (Nat.lt_of_lt_of_le (Heap.lt_size he) (z ▸ sz)) (Nat.lt_irrefl _)
   have fT := I'.fpOk sz (I'.hok.fresh sz)
   have a' : Aft (frs X.stack) [x] s'.heap h' := by rw [hst]; exact a
   have I1 := aft I' (h' := h') a' (fun b hb => by rw [List.mem_singleton.mp hb]; exact ex.own)
   obtain ⟨p1, p2⟩ := fpX fT
   exact fin T _ h' I1 p1 p2 xT r' t'
 · refine note_any fr stk hfr r ne0 t0 fun h' T fl' a sz r' t' => ?_
   have xT : T ≠ x := by
     obtain ⟨oe, _, he, _⟩ := r
     rcases sz with z0 | z0
     · rw [z0]; exact ne0
     · exact fun z => absurd (Nat.lt_of_lt_of_le (Heap.lt_size he) (z ▸ z0)) (Nat.lt_irrefl _)
   have fT : FpOk (X.inC scope cl C s2 H2 fp N' (notedBy (model X.prog X.w) X.A (compEnvC scope cl C X.env) fun e s' => compPost (model X.prog X.w) X.A X.xe use Qc acc C (.error e) s')) pins' H' T := by
     rcases sz with z0 | z0
     · rw [z0]; exact f0
     · exact I'.fpOk z0 (I'.hok.fresh z0)
   have a' : Aft (frs X.stack) [x, T0] s'.heap h' := by rw [hst]; exact a
   have I1 := aft I' (h' := h') a' (fun b hb => by
     rcases (show b = x ∨ b = T0 by simpa using hb) with z | z
     · rw [z]; exact ex.own
     · rw [z]; exact f0)
   obtain ⟨p1, p2⟩ := fpX fT
   exact fin T _ h' I1 p1 p2 xT r' t'
def tLCR (R : St → Prop) (wi : TI) (te : TE) (js : List Nat) : TE := fun σ H Q => R σ ∧ tLC wi te js σ H Q
theorem pe_lcR {elt iter : Expr} {x : Str} {px pos : Pos} {scope : Scope} {cl : List (Str × Addr)} {wi : TI} {te : TE} {R : St → Prop} {E : XK} (js : List Nat) (hx : XeIs X R E) (hst : X.stack = X.env :: X.outer) (hfr : X.env.frame = some X.env.locals) (hc : X.calm = true) (L : LcOk X x scope cl js) (hi : PI X (.Name x px) iter wi)
   (he : ∀ C s2 H2 fp xe, XeIs (X.inC scope cl C s2 H2 fp (x :: js.map (fun j => X.N.getD j "")) xe) (fun _ => True) E → PE (X.inC scope cl C s2 H2 fp (x :: js.map (fun j => X.N.getD j "")) xe) elt te)
   (hs : ∀ z, foldedSetIterable iter X.env z = pure z := by intro _; rfl) :
   PE X (.ListComp elt [⟨.Name x px, iter, [], 0⟩] scope pos) (tLCR R wi te js) := by
 intro pins s σ H Q I h
 rw [eval_ListComp]
 exact lc_core (use := none) hc L hi (fun X' => XeIs X' (fun _ => True) E) he (fun C D s2 H2 fp I2 f2 fo hC => xe_comp hx h.1 hst hfr L I2 f2 fo hC) hs I h.2 fun D C H4 s4 m hn _ I4 q => ⟨m, hn, fun h' sb => ⟨.ref D, H4, I4 h' sb, rfl, q⟩⟩
end
theorem sl_tupC {X : Cx} {scope : Scope} {cl : List (Str × Addr)} {C : Addr} {s2 : Shared} {H2 : Hp} {fp : List Addr} {N' : List Str} {xe : Value → Shared → Prop} : SlR (X.inC scope cl C s2 H2 fp N' xe) (rSlT X.K) := sl_tup (X := X.inC scope cl C s2 H2 fp N' xe)
end L2
namespace L2
open PySem PySem.Spec PyProof.Rows L3
section
variable {X : Cx}
def eqP (K : PySem.W.Frag) (H : Hp) (x y : V) : Prop := ∃ a b xs, x = .ref a ∧ y = .ref b ∧ SqL K H a xs ∧ SqL K H b xs ∧ ∀ z ∈ xs, eqPl z = true
theorem Inv.eqP {pins : List (Addr × Obj)} {σ : St} {H : Hp} {s : Shared} {x y : V} {v u : Value} {A : Around} (I : Inv X pins σ H s) (hu : A.units < cLine) (e : eqP X.K H x y) (rx : RelV x v) (ry : RelV y u) : SeqAt.EqAt A s v u true := by
 obtain ⟨a, b, xs, rfl, rfl, ha, hb, hp⟩ := e
 cases rx
 cases ry
 by_cases hab : a = b
 · subst hab
   exact SeqAt.EqAt.same _
 obtain ⟨its, r, pl, hz⟩ := I.list ha
 obtain ⟨its2, r2, pl2, hz2⟩ := I.list hb
 have l1 := r.length
 have l2 := r2.length
 have h := SeqAt.RcAt.lists (A := A) (e := fun _ => true) pl.isList pl2.isList (by simp only [List.size_toArray]; omega) hu (fun j h1 h2 => by
   simp only [List.size_toArray] at h1 h2
   obtain ⟨x, e, rx⟩ := vals_at r j h1
   obtain ⟨x2, e2, rx2⟩ := vals_at r2 j h2
   rw [e] at e2
   cases e2
   simp only [List.getElem_toArray]
   exact eqAt_self (hp x (List.mem_of_getElem? e)) rx rx2)
 rw [show ((List.range its.toArray.size).all fun _ => true) = true by simp] at h
 exact SeqAt.EqAt.of_refs hab h
end
end L2
namespace PySem.W
open PySem
section
variable {prog : Program} {w : World} {A : Around} {E : Value → Shared → Prop} {s : Shared}
end
end PySem.W
namespace L2
open PySem PySem.W PySem.Spec PyProof.Rows L3
section
variable {X : Cx}
end
end L2
namespace L2
open PySem PySem.W PySem.Spec PyProof.Rows L3
section
variable {X : Cx} {CX : CXT} {cm : Bool} {k : Nat} {f C : Addr} {fd : FuncData} {ps : List Str} {sp : Sp} {dvs : List V} {ds : List Value} {E : XK} {x m : Str} {p pos apos : Pos} {e : Expr} {es : List Expr} {t : TA} {mc : Value}
end
theorem call_list_ofC {X : Cx} {scope : Scope} {cl : List (Str × Addr)} {C : Addr} {s2 : Shared} {H2 : Hp} {fp : List Addr} {N' : List Str} {xe : Value → Shared → Prop} : CallR (X.inC scope cl C s2 H2 fp N' xe) (.type "list") (fun xs H Q => ∃ p ys, xs = [.ref p] ∧ (SqL X.K H p ys ∨ SqT X.K H p ys) ∧ ∀ l, H l = none → Q (.ref l) (upd H l (.lst ys))) := call_list_of (X := X.inC scope cl C s2 H2 fp N' xe)
end L2
namespace L2
open PySem PySem.W PySem.Spec PyProof.Rows L3
section
variable {X : Cx}
def eqLi (K : PySem.W.Frag) (H : Hp) (x y : V) : Prop := ∃ a b xs ys, x = .ref a ∧ y = .ref b ∧ SqL K H a xs ∧ SqL K H b ys ∧ EqLs K H xs ys
theorem Inv.eqLi {pins : List (Addr × Obj)} {σ : St} {H : Hp} {s : Shared} {x y : V} {v u : Value} {A : Around} (I : Inv X pins σ H s) (hu : A.units < cLine) (hu1 : A.in1.units < cLine) (e : eqLi X.K H x y) (rx : RelV x v) (ry : RelV y u) : SeqAt.EqAt A s v u true := by
 obtain ⟨a, b, xs, ys, rfl, rfl, ha, hb, hl, he⟩ := e
 cases rx
 cases ry
 by_cases hab : a = b
 · subst hab
   exact SeqAt.EqAt.same _
 obtain ⟨its, r, pl, hz⟩ := I.list ha
 obtain ⟨its2, r2, pl2, hz2⟩ := I.list hb
 have l1 := r.length
 have l2 := r2.length
 have h := SeqAt.RcAt.lists (A := A) (e := fun _ => true) pl.isList pl2.isList (by simp only [List.size_toArray]; omega) hu (fun j h1 h2 => by
   simp only [List.size_toArray] at h1 h2
   obtain ⟨x, e, rx⟩ := vals_at r j h1
   obtain ⟨x2, e2, rx2⟩ := vals_at r2 j h2
   simp only [List.getElem_toArray]
   exact I.eqT hu1 (he j x x2 e e2) rx rx2)
 rw [show ((List.range its.toArray.size).all fun _ => true) = true by simp] at h
 exact SeqAt.EqAt.of_refs hab h
theorem op_eqU {cm : Bool} {k : Nat} (hr : Room cm k X.A) : OpR X (compareOp .Eq) (fun x y H Q => ∃ a b xs ys, x = .ref a ∧ y = .ref b ∧ SqT X.K H a xs ∧ SqT X.K H b ys ∧ xs.length = ys.length ∧ (∀ (j : Nat) x y, xs[j]? = some x → ys[j]? = some y → eqT X.K H x y ∨ eqLi X.K H x y) ∧ Q (.bl true) H) := by
 intro pins s σ H x y v u Q I rx ry h
 obtain ⟨a, b, xs, ys, rfl, rfl, ha, hb, hl, he, q⟩ := h
 cases rx
 cases ry
 obtain ⟨its, r, pl, hz⟩ := I.tuple ha
 obtain ⟨its2, r2, pl2, hz2⟩ := I.tuple hb
 have l1 := r.length
 have l2 := r2.length
 have hu : X.A.units < cLine := by have := hr.un; omega
 have hu1 : X.A.in1.units < cLine := by have := hr.un; show X.A.units + 1 < cLine; omega
 have hu2 : X.A.in1.in1.units < cLine := by have := hr.un; show X.A.units + 1 + 1 < cLine; omega
 refine SeqAt.eq_tupleAt (e := fun _ => true) (show s.heap.IsTuple a its.toArray from pl) (show s.heap.IsTuple b its2.toArray from pl2) hu (fun j h1 h2 => ?_) ?_
 · simp only [List.size_toArray] at h1 h2
   obtain ⟨x, e, rx⟩ := vals_at r j h1
   obtain ⟨x2, e2, rx2⟩ := vals_at r2 j h2
   simp only [List.getElem_toArray]
   rcases he j x x2 e e2 with w | w
   · exact I.eqT hu1 w rx rx2
   · exact I.eqLi hu1 hu2 w rx rx2
 · have hb : ((List.range (min its.toArray.size its2.toArray.size)).all (fun _ => true) && its.toArray.size == its2.toArray.size) = true := by
     simp only [List.size_toArray]
     rw [← l1, ← l2, hl]
     simp
   rw [hb]
   exact ⟨.bl true, H, I, rfl, q⟩
end
end L2
namespace L2
open PySem PySem.W PySem.Spec PyProof.Rows L3
section
variable {X : Cx} {CX : CXT} {cm : Bool} {k : Nat} {E : XK} {m : Str} {pos apos : Pos} {o : Expr} {ta : TE}
end
end L2
namespace L2
open PySem PySem.W PySem.Spec PyProof.Rows L3
section
variable {X : Cx}
def eqTu (K : PySem.W.Frag) (H : Hp) (x y : V) : Prop := ∃ a b xs ys, x = .ref a ∧ y = .ref b ∧ SqT K H a xs ∧ SqT K H b ys ∧ xs.length = ys.length ∧ ∀ (j : Nat) x y, xs[j]? = some x → ys[j]? = some y → eqT K H x y ∨ eqLi K H x y
theorem Inv.eqTu {pins : List (Addr × Obj)} {σ : St} {H : Hp} {s : Shared} {x y : V} {v u : Value} {A : Around} (I : Inv X pins σ H s) (w0 : A.units < cLine) (w1 : A.in1.units < cLine) (w2 : A.in1.in1.units < cLine) (t : eqTu X.K H x y) (rx : RelV x v) (ry : RelV y u) : SeqAt.EqAt A s v u true := by
 obtain ⟨a, b, xs, ys, rfl, rfl, ha, hb, hl, he⟩ := t
 cases rx
 cases ry
 by_cases hab : a = b
 · subst hab
   exact SeqAt.EqAt.same _
 obtain ⟨i1, r1, p1, z1⟩ := I.tuple ha
 obtain ⟨i2, r2, p2, z2⟩ := I.tuple hb
 have n1 := r1.length
 have n2 := r2.length
 have h := SeqAt.RcAt.tuples (A := A) (e := fun _ => true) (show s.heap.IsTuple a i1.toArray from p1) (show s.heap.IsTuple b i2.toArray from p2) w0 (fun j h1 h2 => by
   simp only [List.size_toArray] at h1 h2
   obtain ⟨x, e, rx⟩ := vals_at r1 j h1
   obtain ⟨x2, e2, rx2⟩ := vals_at r2 j h2
   simp only [List.getElem_toArray]
   rcases he j x x2 e e2 with w | w
   · exact I.eqT w1 w rx rx2
   · exact I.eqLi w1 w2 w rx rx2)
 rw [show ((List.range (min i1.toArray.size i2.toArray.size)).all (fun _ => true) && i1.toArray.size == i2.toArray.size) = true by
   simp only [List.size_toArray]
   rw [← n1, ← n2, hl]
   simp] at h
 exact SeqAt.EqAt.of_refs hab h
theorem op_neV {cm : Bool} {k : Nat} (hr : Room cm k X.A) : OpR X (compareOp .NotEq) (fun x y H Q => ∃ a b xs ys, x = .ref a ∧ y = .ref b ∧ SqL X.K H a xs ∧ SqL X.K H b ys ∧ xs.length = ys.length ∧ (∀ (j : Nat) x y, xs[j]? = some x → ys[j]? = some y → eqTu X.K H x y) ∧ Q (.bl false) H) := by
 intro pins s σ H x y v u Q I rx ry h
 obtain ⟨a, b, xs, ys, rfl, rfl, ha, hb, hl, he, q⟩ := h
 cases rx
 cases ry
 obtain ⟨i1, r1, p1, z1⟩ := I.list ha
 obtain ⟨i2, r2, p2, z2⟩ := I.list hb
 have n1 := r1.length
 have n2 := r2.length
 have w0 : X.A.units < cLine := by have := hr.un; omega
 have w1 : X.A.in1.units < cLine := by have := hr.un; show X.A.units + 1 < cLine; omega
 have w2 : X.A.in1.in1.units < cLine := by have := hr.un; show X.A.units + 1 + 1 < cLine; omega
 have w3 : X.A.in1.in1.in1.units < cLine := by have := hr.un; show X.A.units + 1 + 1 + 1 < cLine; omega
 refine SeqAt.RcNeAt.lists (e := fun _ => true) p1.isList p2.isList (by simp only [List.size_toArray]; omega) w0 (fun j h1 h2 => ?_) _ _ _ _ ?_
 · simp only [List.size_toArray] at h1 h2
   obtain ⟨x, e, rx⟩ := vals_at r1 j h1
   obtain ⟨x2, e2, rx2⟩ := vals_at r2 j h2
   simp only [List.getElem_toArray]
   exact I.eqTu w1 w2 w3 (he j x x2 e e2) rx rx2
 · rw [show ((List.range i1.toArray.size).all fun _ => true) = true by simp]
   exact ⟨.bl false, H, I, rfl, q⟩
end
end L2
namespace L2
open PySem PySem.W PySem.Spec PyProof.Rows L3
section
variable {X : Cx}
theorem eqV_self {x : V} (h : flatV x = true) : eqV x x = true := by
 cases x <;> simp_all [flatV, eqV]
def tupB (xs ys : List V) : Bool := (List.range (min xs.length ys.length)).all (fun j => match xs[j]?, ys[j]? with | some x, some y => eqV x y | _, _ => true) && xs.length == ys.length
theorem tupB_self {xs : List V} (h : ∀ v ∈ xs, flatV v = true) : tupB xs xs = true := by
 unfold tupB
 rw [Bool.and_eq_true]
 refine ⟨List.all_eq_true.mpr fun j hj => ?_, by simp⟩
 have hj2 : j < xs.length := by simpa using hj
 rw [List.getElem?_eq_getElem hj2]
 exact eqV_self (h _ (List.getElem_mem hj2))
def eqTB (K : PySem.W.Frag) (H : Hp) (x y : V) (b : Bool) : Prop := ∃ a c xs ys, x = .ref a ∧ y = .ref c ∧ SqT K H a xs ∧ SqT K H c ys ∧ (∀ v ∈ xs, flatV v = true) ∧ (∀ v ∈ ys, flatV v = true) ∧ (a = c → xs = ys) ∧ b = tupB xs ys
theorem Inv.eqTB {pins : List (Addr × Obj)} {σ : St} {H : Hp} {s : Shared} {x y : V} {v u : Value} {b : Bool} {A : Around} (I : Inv X pins σ H s) (w0 : A.units < cLine) (t : eqTB X.K H x y b) (rx : RelV x v) (ry : RelV y u) : SeqAt.EqAt A s v u b := by
 obtain ⟨a, c, xs, ys, rfl, rfl, ha, hb, fx, fy, hs, rfl⟩ := t
 cases rx
 cases ry
 by_cases hab : a = c
 · subst hab
   rw [← hs rfl, tupB_self fx]
   exact SeqAt.EqAt.same _
 obtain ⟨i1, r1, p1, z1⟩ := I.tuple ha
 obtain ⟨i2, r2, p2, z2⟩ := I.tuple hb
 have n1 := r1.length
 have n2 := r2.length
 have h := SeqAt.RcAt.tuples (A := A) (e := fun j => match xs[j]?, ys[j]? with | some x, some y => eqV x y | _, _ => true) (show s.heap.IsTuple a i1.toArray from p1) (show s.heap.IsTuple c i2.toArray from p2) w0 (fun j h1 h2 => by
   simp only [List.size_toArray] at h1 h2
   obtain ⟨x, e, rx⟩ := vals_at r1 j h1
   obtain ⟨x2, e2, rx2⟩ := vals_at r2 j h2
   simp only [List.getElem_toArray]
   rw [e, e2]
   exact eqAt_V rx rx2 (fx x (List.mem_of_getElem? e)) (fy x2 (List.mem_of_getElem? e2)))
 rw [show ((List.range (min i1.toArray.size i2.toArray.size)).all (fun j => match xs[j]?, ys[j]? with | some x, some y => eqV x y | _, _ => true) && i1.toArray.size == i2.toArray.size) = tupB xs ys by
   unfold tupB
   simp only [List.size_toArray]
   rw [← n1, ← n2]] at h
 exact SeqAt.EqAt.of_refs hab h
def lstB (xs ys : List V) (e : Nat → Bool) : Bool := xs.length == ys.length && (List.range xs.length).all e
def eqLB (K : PySem.W.Frag) (H : Hp) (x y : V) (b : Bool) : Prop := ∃ a c xs ys e, x = .ref a ∧ y = .ref c ∧ SqL K H a xs ∧ SqL K H c ys ∧ (∀ (j : Nat) x y, xs[j]? = some x → ys[j]? = some y → eqTB K H x y (e j)) ∧ (a = c → lstB xs ys e = true) ∧ b = lstB xs ys e
theorem Inv.eqLB {pins : List (Addr × Obj)} {σ : St} {H : Hp} {s : Shared} {x y : V} {v u : Value} {b : Bool} {A : Around} (I : Inv X pins σ H s) (w0 : A.units < cLine) (w1 : A.in1.units < cLine) (t : eqLB X.K H x y b) (rx : RelV x v) (ry : RelV y u) : SeqAt.EqAt A s v u b := by
 obtain ⟨a, c, xs, ys, e, rfl, rfl, ha, hb, he, hs, rfl⟩ := t
 cases rx
 cases ry
 by_cases hab : a = c
 · subst hab
   rw [hs rfl]
   exact SeqAt.EqAt.same _
 obtain ⟨i1, r1, p1, z1⟩ := I.list ha
 obtain ⟨i2, r2, p2, z2⟩ := I.list hb
 have n1 := r1.length
 have n2 := r2.length
 by_cases hl : xs.length = ys.length
 · have h := SeqAt.RcAt.lists (A := A) (e := e) p1.isList p2.isList (by simp only [List.size_toArray]; omega) w0 (fun j h1 h2 => by
     simp only [List.size_toArray] at h1 h2
     obtain ⟨x, e1, rx⟩ := vals_at r1 j h1
     obtain ⟨x2, e2, rx2⟩ := vals_at r2 j h2
     simp only [List.getElem_toArray]
     exact I.eqTB w1 (he j x x2 e1 e2) rx rx2)
   rw [show (List.range i1.toArray.size).all e = lstB xs ys e by
     unfold lstB
     simp only [List.size_toArray]
     rw [← n1, hl]
     simp] at h
   exact SeqAt.EqAt.of_refs hab h
 · rw [show lstB xs ys e = false by
     unfold lstB
     rw [show (xs.length == ys.length) = false by simpa using hl]
     rfl]
   exact SeqAt.EqAt.of_refs hab (SeqAt.RcAt.lists_lengths (A := A) p1.isList p2.isList (by
     simp only [List.size_toArray]
     rw [← n1, ← n2]
     simpa using hl) w0)
end
end L2
namespace L2
open PySem PySem.W PySem.Spec PyProof.Rows L3
section
variable {X : Cx} {CX : CXT} {cm : Bool} {k : Nat} {E : XK} {m : Str} {pos apos : Pos} {o e : Expr} {es : List Expr} {ta : TE} {t : TA}
end
end L2
namespace L2
open PySem PySem.W PySem.Spec PyProof.Rows L3
section
variable {X : Cx}
end
end L2
namespace L2
open PySem PySem.W PySem.Spec PyProof.Rows L3
section
variable {X : Cx}
end
end L2
namespace L2
open PySem PySem.W PySem.Spec PyProof.Rows L3
section
variable {X : Cx}
end
end L2
namespace L2
open PySem PySem.W PySem.Spec PyProof.Rows L3
section
variable {X : Cx}
end
end L2
namespace L2
open PySem PySem.W PySem.Spec PyProof.Rows L3
section
variable {prog : Program} {w : World} {s : Shared} {A : Around} {E : Value → Shared → Prop} {M : Model}
structure StrS (prog : Program) (w : World) (h : Heap) (a : Addr) (es : Array (Int × Value)) (ep : Nat) (t : SetTable) : Prop where
 ob : ∃ o, h.get? a = some o ∧ o.ExactSet ∧ o.data = .set es ep t
 el : ElemsOf (strKind prog w) es.toList
 ft : t.fits es.size = true
 pl : es.size = 0 ∨ t.plain = false
 ld : t.led = !w.params.followText "set-order"
 sm : es.size < scanBound
theorem StrS.same {h h' : Heap} {a : Addr} {es : Array (Int × Value)} {ep : Nat} {t : SetTable} (x : StrS prog w h a es ep t) (k : ∀ o, h.get? a = some o → h'.get? a = some o) : StrS prog w h' a es ep t := by
 obtain ⟨⟨o, ho, r⟩, q1, q2, q3, q4, q5⟩ := x
 exact ⟨⟨o, k o ho, r⟩, q1, q2, q3, q4, q5⟩
end
end L2
namespace L2
open PySem PySem.W PySem.Spec PyProof.Rows L3
section
variable {prog : Program} {w : World} {A : Around} {R : Result → Shared → Prop} {I : Addr} {fp wr : List Addr} {G : Array GenState → Array GenState → Prop} {n : Nat} {P : Nat → Value → Prop} {St : Nat → Shared → Prop}
end
section
variable {prog : Program} {w : World} {A : Around} {E : Value → Shared → Prop} {s : Shared}
end
end L2
namespace L2
open PySem PySem.W PySem.Spec PyProof.Rows L3
section
variable {prog : Program} {w : World} {A : Around} {E : Value → Shared → Prop} {s : Shared}
theorem StrS.typeIs {a : Addr} {es : Array (Int × Value)} {ep : Nat} {t : SetTable} (X : StrS prog w s.heap a es ep t) : s.TypeIs (.ref a) "set" := by
 obtain ⟨o, ho, hx, hd⟩ := X.ob
 exact ⟨o, ho, hx.1⟩
end
end L2
namespace L2
open PySem PySem.W PySem.Spec PyProof.Rows L3
section
variable {prog : Program} {w : World} {A : Around} {E : Value → Shared → Prop} {s : Shared}
end
end L2
namespace L2
open PySem PySem.W PySem.Spec PyProof.Rows L3
section
variable {prog : Program} {w : World} {A : Around} {E : Value → Shared → Prop} {s : Shared}
end
end L2
namespace L2
open PySem PySem.W PySem.Spec PyProof.Rows L3
section
variable {prog : Program} {w : World} {A : Around} {E : Value → Shared → Prop} {s : Shared}
end
end L2
namespace L2
open PySem PySem.W PySem.Spec PyProof.Rows L3
section
variable {prog : Program} {w : World} {A : Around} {E : Value → Shared → Prop} {s : Shared}
end
section
variable {X : Cx}
theorem Inv.drawn {pins : List (Addr × Obj)} {σ : St} {H : Hp} {s : Shared} (I : Inv X pins σ H s) (d : Drawn) : Inv X pins σ H { s with drawn := d } := ⟨I.ok, I.os, I.bare, I.base, I.loc, I.cell, I.free, I.freeC, I.pin, I.hok, I.len⟩
end
end L2
namespace L2
open PySem PySem.W PySem.Spec PyProof.Rows L3
section
variable {X : Cx}
end
end L2
namespace L2
open PySem PySem.Spec PyProof.Rows L3
section
variable {X : Cx} {pins : List (Addr × Obj)} {σ : St} {H : Hp} {s : Shared}
theorem Inv.freezeK {d : Addr} {kvs : List (Key × V)} {o : Obj} (I : Inv X pins σ H s) (hd : H d = some (.dK kvs)) (ho : s.heap.get? d = some o) : Inv X pins σ (upd H d (.frz o (.dK kvs))) s := by
 have ne : ∀ b, H b = none → b ≠ d := fun b e z => by rw [z, hd] at e; cases e
 refine I.step (h' := s.heap) (g' := s.gens) (t' := s.toks) (d' := s.drawn) (ch := []) (fun _ z => nomatch z) (fun b o _ _ _ e _ => e) (fun b o _ _ _ e _ => ⟨o.slots, e⟩) (fun b o _ _ n => by rw [upd_ne (ne b n)]; exact n) (fun b o _ e => ⟨o, e⟩)
   (fun b xs e => ?_) (fun b o u e => ?_) (fun b ps e => ⟨#[], ?_⟩) (fun m h => h) ?_ I.bare
 · rw [upd_ne (ne_of e hd (by intro z; cases z))]; exact e
 · rw [upd_ne (ne_of e hd (by intro z; cases z))]; exact e
 · rw [upd_ne (ne_of e hd (by intro z; cases z))]; simpa using e
 · have own : ∀ (c y : Addr), H c = some (.own y) → upd H d (.frz o (.dK kvs)) c = some (.own y) := fun c y e => by rw [upd_ne (ne_of e hd (by intro z; cases z))]; exact e
   have tup : ∀ (c : Addr) (xs : List V), H c = some (.tup xs) → upd H d (.frz o (.dK kvs)) c = some (.tup xs) := fun c xs e => by rw [upd_ne (ne_of e hd (by intro z; cases z))]; exact e
   intro b u e
   by_cases hb : b = d
   · subst hb
     rw [upd_same] at e
     cases e
     exact ⟨ho, (I.hok b _ hd).stay (fun _ _ _ q => q) (fun c q => own c b q) tup⟩
   · rw [upd_ne hb] at e
     exact (I.hok b u e).stay (fun _ _ _ q => q) (fun c q => own c b q) tup
end
theorem kv_at {l : List (Key × V)} {m : List (Key × Value)} (r : KV l m) : ∀ (j : Nat) kv, l[j]? = some kv → ∃ u, m[j]? = some (kv.1, u) ∧ RelV kv.2 u := by
 unfold KV at r
 induction r with
 | nil => intro j p hp; simp at hp
 | @cons p q ps qs h t ih =>
   intro j p' hp
   cases j with
   | zero =>
     cases hp
     obtain ⟨q1, q2⟩ := q
     refine ⟨q2, ?_, h.2⟩
     show some (q1, q2) = _
     rw [h.1]
   | succ j => exact ih j p' (by simpa using hp)
section
variable {X : Cx}
end
end L2
namespace L2
open PySem PySem.W PySem.Spec PyProof.Rows L3
section
variable {X : Cx}
end
end L2
namespace L2
open PySem PySem.Spec PyProof.Rows L3
section
variable {X : Cx}
def vvw (v d : Addr) : HO := .ext fun h => h.IsValuesView v d
def rVals : V → List V → Hp → VK → Prop := fun x vs H Q => ∃ (d : Addr) (kvs : List (Key × V)), x = .ref d ∧ vs = [] ∧ H d = some (.dK kvs) ∧ ∀ v, H v = none → Q (.ref v) (upd H v (vvw v d))
theorem mt_values : MtR X "dict.values" rVals := by
 intro pins s σ H x vs v us Q I rx rv h
 obtain ⟨d, kvs, rfl, rfl, hd, q⟩ := h
 cases rx
 cases rv
 obtain ⟨z, hsm, xs, rel, dd⟩ := dk_of I.hok hd
 refine call_meetsIn PySem.F.slot_dict_values dd.typeIs PySem.F.entry_dict_values (PySem.F.args_dict_values_1 _) (meets_dict_values (mixKind X.prog X.w) d hsm) ⟨⟨xs, dd⟩, ?_⟩
 refine ⟨.ref s.heap.objs.size, _, I.laid (a := s.heap.objs.size) (o := vvw s.heap.objs.size d) (t' := s.toks) (fun _ _ q => Heap.get?_push_of_some _ q) (Nat.le_refl _) ?_, rfl, q _ I.fresh⟩
 exact ⟨⟨_, Heap.get?_push_size _ rfl, rfl, rfl⟩, ⟨_, Heap.get?_push_size _ rfl⟩, fun h1 h2 ⟨o, ho, hc, hd⟩ k => ⟨o, k o ho, hc, hd⟩⟩
end
end L2
namespace L2
open PySem PySem.W PySem.Spec PyProof.Rows L3
section
variable {X : Cx}
theorem ints_keys {P : Program} {w : World} : ∀ {kvs : List (Key × V)} {vs : List (Key × Value)} {es : List DictEntry} {ns : List Int}, KV kvs vs → Pairs (mixKind P w) es vs → kvs.map (·.1) = ns.map Sum.inl → Vals (ns.map V.int) (es.map (·.key)) := by
 intro kvs vs es ns r p
 unfold KV at r
 induction r generalizing es ns with
 | nil =>
   intro e
   cases ns with
   | cons _ _ => cases e
   | nil =>
     cases p
     exact .nil
 | @cons a b ps qs h t ih =>
   intro e
   cases ns with
   | nil => cases e
   | cons n ns =>
     cases p with
     | cons h1 h2 h3 =>
       simp only [List.map_cons, List.cons.injEq] at e
       refine .cons ?_ (ih h3 e.2)
       have r := rel_key h1
       rw [← h.1, e.1] at r
       exact r
def rSortI : List V → Hp → VK → Prop := fun xs H Q => ∃ (d : Addr) (kvs : List (Key × V)) (ns : List Int), xs = [.ref d] ∧ H d = some (.dK kvs) ∧ kvs.map (·.1) = ns.map Sum.inl ∧ ns.length < 64 ∧
 ∀ l (ms : List Int), H l = none → ms.Perm ns → ms.Pairwise (· ≤ ·) → Q (.ref l) (upd H l (.lst (ms.map V.int)))
theorem call_sortedI (hc : X.calm = true) : CallR X (.builtin "sorted") rSortI := by
 intro pins s σ H xs us Q I rv h
 obtain ⟨d, kvs, ns, rfl, hd, hks, h64, q⟩ := h
 obtain ⟨u, rfl, ru⟩ := rv.one
 cases ru
 obtain ⟨z, hsm, vs, rel, o, es, ep, ho, hex, hdat, hko, hpr, hnd⟩ := dk_of I.hok hd
 have hi := ints_of (ints_keys rel hpr hks)
 have hl : (es.toList.map (·.key)).length = ns.length := hi.length
 have hes : es.size = ns.length := by rw [← hl, List.length_map, Array.length_toList]
 refine Calls.call_function_entry kind_sorted plain_sorted entry_sorted (args_sorted1 _) (?_ : wpAny _ _ (Builtin.«sorted» _) _ _ s)
 unfold Builtin.«sorted»; refine wpAny_bind (m := checkCount "sorted" 1 1 _) (wpAny_pure (wpAny_bind (collect_raw hsm (I.ok.hd hc) ⟨o, ho, hex, hdat⟩ (by rw [hes, sizeLine_eq]; omega) fun h1 tk k1 l1 => ?_)))
 generalize es.toList.map (·.key) = xs at hi hl ⊢
 refine wpAny_bind (wpAny_newList ?_ (by rw [sizeLine_eq]; omega))
 have hD : (h1.push (seqObj "list" xs.toArray 0)).get? h1.objs.size = some (seqObj "list" xs.toArray 0) := Heap.get?_push_size _ rfl
 refine wpAny_bind (wpAny_holding (wpAny_call_entry slot_list_sort ⟨_, hD, rfl⟩ entry_list_sort (list_sort_tree (s := { s with heap := h1.push (seqObj "list" xs.toArray 0), toks := tk }) hD hi (by omega) fun out ns' a1 a2 a3 => ⟨_, rfl, ?_⟩) (args_list_sort _)))
 obtain ⟨c, hc'⟩ := sortedHeap_at (vs := xs) (out := out) hD
 have kp : ∀ b o, s.heap.get? b = some o → (sortedHeap (h1.push (seqObj "list" xs.toArray 0)) h1.objs.size xs out).get? b = some o := fun b o e => by
   have hb := k1 b o e
   rw [sortedHeap_old (Nat.ne_of_lt (Heap.lt_size hb)) (by rw [Heap.size_push]; exact Nat.lt_succ_of_lt (Heap.lt_size hb))]
   exact Heap.get?_push_of_some _ hb
 refine wpAny_pure ⟨_, rfl, .ref h1.objs.size, _, I.laid (a := h1.objs.size) (o := .lst (ns'.map V.int)) (t' := tk) kp (Nat.le_of_lt l1) ⟨?_, out.toList, c, of_ints a1, ?_⟩, rfl, q _ ns' (I.hok.fresh (Nat.le_of_lt l1)) a2 a3⟩
 · rw [List.length_map, a2.length_eq, sizeLine_eq]
   omega
 · rw [Array.toArray_toList]
   exact hc'
theorem pe_fldC {X : Cx} {scope : Scope} {cl : List (Str × Addr)} {C : Addr} {s2 : Shared} {H2 : Hp} {fp : List Addr} {N' : List Str} {xe : Value → Shared → Prop} {e : Expr} {ta : TE} {f : Str} {pos : Pos} (he : PE (X.inC scope cl C s2 H2 fp N' xe) e ta) (hb : attributeBase e f (X.inC scope cl C s2 H2 fp N' xe).env (eval e (X.inC scope cl C s2 H2 fp N' xe).env) = eval e (X.inC scope cl C s2 H2 fp N' xe).env) : PE (X.inC scope cl C s2 H2 fp N' xe) (.Attribute e f pos) (tFld X.K ta f) := pe_fld (X := X.inC scope cl C s2 H2 fp N' xe) he hb
end
end L2
namespace L2
open PySem PySem.W PySem.Spec PyProof.Rows L3
section
variable {prog : Program} {w : World} {s : Shared} {A : Around} {E : Value → Shared → Prop}
def TwoI (h : Heap) (a : Addr) (k : Int × Int) : Prop := ∃ o n t u, h.get? a = some o ∧ o.cls = .type "tuple" ∧ o.data = .seq #[.int k.1 t, .int k.2 u] n
inductive TwosI (h : Heap) : List Addr → List (Int × Int) → Prop where
 | nil : TwosI h [] []
 | cons {a : Addr} {k : Int × Int} {as : List Addr} {ks : List (Int × Int)} (x : TwoI h a k) (r : TwosI h as ks) : TwosI h (a :: as) (k :: ks)
theorem TwosI.keep {h h' : Heap} (kp : ∀ b o, h.get? b = some o → h'.get? b = some o) : ∀ {as : List Addr} {ks : List (Int × Int)}, TwosI h as ks → TwosI h' as ks
 | _, _, .nil => .nil
 | _, _, .cons ⟨o, n, t, u, e, r⟩ x => .cons ⟨o, n, t, u, kp _ _ e, r⟩ (x.keep kp)
theorem TwosI.len {h : Heap} : ∀ {as : List Addr} {ks : List (Int × Int)}, TwosI h as ks → as.length = ks.length
 | _, _, .nil => rfl
 | _, _, .cons _ r => congrArg (· + 1) r.len
theorem TwosI.at {h : Heap} : ∀ {as : List Addr} {ks : List (Int × Int)} (i : Nat), TwosI h as ks → i < as.length → ∃ a, (as.map Value.ref).getD i Value.none = .ref a ∧ TwoI h a (ks.getD i (0, 0))
 | _, _, i, .nil, hi => absurd hi (Nat.not_lt_zero _)
 | _, _, 0, .cons x _, _ => ⟨_, rfl, x⟩
 | _, _, i + 1, .cons _ r, hi => by
   obtain ⟨a, e, x⟩ := r.at i (by simpa using hi)
   exact ⟨a, by simpa [List.getD] using e, by simpa [List.getD] using x⟩
theorem TwosI.kats {h : Heap} : ∀ {as : List Addr} {ks : List (Int × Int)}, TwosI h as ks → ∃ fs : List Value, fs.length = ks.length ∧ (∀ v ∈ fs, ∃ x t, v = .int x t) ∧ KatTups h (as.map Value.ref) fs
 | _, _, .nil => ⟨[], rfl, (fun v hv => nomatch hv), KatTups.nil⟩
 | _, _, .cons ⟨o, n, t, u, e, c, d⟩ r => by
   obtain ⟨fs, h1, h2, h3⟩ := r.kats
   refine ⟨_ :: fs, congrArg (· + 1) h1, fun v hv => ?_, KatTups.cons e c d rfl h3⟩
   rcases List.mem_cons.mp hv with z | z
   · exact ⟨_, _, z⟩
   · exact h2 v z
end
section
variable {prog : Program} {w : World} {s : Shared} {A : Around} {E : Value → Shared → Prop}
end
section
variable {X : Cx}
theorem Inv.thawK {pins : List (Addr × Obj)} {σ : St} {H : Hp} {s : Shared} {d : Addr} {kvs : List (Key × V)} {o : Obj} (I : Inv X pins σ H s) (hd : H d = some (.frz o (.dK kvs))) (h0 : ∀ o' u, X.H₀ d ≠ some (.frz o' u)) : Inv X pins σ (upd H d (.dK kvs)) s := by
 have nn : ∀ b, H b = none → upd H d (.dK kvs) b = none := fun b e => by
   rw [upd_ne (fun z => by rw [z, hd] at e; cases e)]
   exact e
 have own : ∀ (c y : Addr), H c = some (.own y) → upd H d (.dK kvs) c = some (.own y) := fun c y e => by rw [upd_ne (ne_of e hd (by intro z; cases z))]; exact e
 have tup : ∀ (c : Addr) (xs : List V), H c = some (.tup xs) → upd H d (.dK kvs) c = some (.tup xs) := fun c xs e => by rw [upd_ne (ne_of e hd (by intro z; cases z))]; exact e
 refine ⟨I.ok, I.os, I.bare, ⟨I.base.keep, I.base.slot, fun b o e n hx => nn b (I.base.free b o e n hx), I.base.there, fun b xs e => tup b xs (I.base.tups b xs e), fun b o u e => ?_, fun b ps e => ?_⟩, I.loc, I.cell, nn _ I.free, fun x c e => nn _ (I.freeC x c e), fun p hp => ⟨(I.pin p hp).1, nn _ (I.pin p hp).2.1, (I.pin p hp).2.2⟩, ?_, I.len⟩
 · rw [upd_ne (fun z => by rw [z] at e; exact h0 _ _ e)]
   exact I.base.frzs b o u e
 · obtain ⟨m, e2⟩ := I.base.tbls b ps e
   exact ⟨m, by rw [upd_ne (ne_of e2 hd (by intro z; cases z))]; exact e2⟩
 · intro b u e
   by_cases hb : b = d
   · subst hb
     rw [upd_same] at e
     cases e
     exact ((I.hok b _ hd).2).stay (fun _ _ _ q => q) (fun c q => own c b q) tup
   · rw [upd_ne hb] at e
     exact (I.hok b u e).stay (fun _ _ _ q => q) (fun c q => own c b q) tup
def tThaw (H0 : Hp) (ts : TS) : TS := fun D σ H => ∃ (d : Addr) (o : Obj) (kvs : List (Key × V)), H d = some (.frz o (.dK kvs)) ∧ (∀ o' u, H0 d ≠ some (.frz o' u)) ∧ ts D σ (upd H d (.dK kvs))
theorem ps_thaw {st : Stmt} {ts : TS} (h : PS X st ts) : PS X st (tThaw X.H₀ ts) := fun pins s σ H D I ⟨_, _, _, hd, h0, q⟩ => h pins s σ _ D (I.thawK hd h0) q
end
end L2
namespace L2
open PySem PySem.Spec PyProof.Rows L3
def tLCTIf (wi : TI) (g : TG) (tt : TT) (te : TE) (n : Nat) (js : List Nat) : TE := fun σ H Q => wi σ H fun J H1 => ∃ W : Nat → Nat → List V → Hp → Prop, (∃ m, W 0 m [] H1) ∧ ∀ i m ys H, W i m ys H →
 (J.stop i H ∧ ∀ l, H l = none → Q (.ref l) (upd H l (.lst ys))) ∨ (J.go i H ∧ ys.length < sizeLine ∧ ∃ (N : VK) (S : Hp → Prop), (∀ y H2, N y H2 → ∃ m', m' < m ∧ W (i + 1) m' (ys ++ [y]) H2) ∧ (∀ H2, S H2 → ∃ m', m' < m ∧ W (i + 1) m' ys H2) ∧
   ∀ x H', J.yld i H x H' → ∀ σ0 : St, σ0.length = n → g x (σ0 ++ js.map (fun j => σ.getD j none)) H' fun σ6 H6 => ∃ σ1 : St, σ1.length = n ∧ σ6 = σ1 ++ js.map (fun j => σ.getD j none) ∧ tt σ6 H6 fun b H7 => if b = true then te σ6 H7 N else S H7)
section
variable {X : Cx}
theorem lcTIf_core {elt iter tg c : Expr} {g : TG} {xs : List Str} {pos cpos : Pos} {scope : Scope} {cl : List (Str × Addr)} {wi : TI} {te : TE} {tt : TT} {js : List Nat} {use : Option (Value → Sem Unit)} {Qc : Value → Shared → Prop} {pins : List (Addr × Obj)} {s : Shared} {σ : St} {H : Hp} {Q : VK}
   (hc : X.calm = true) (L : LcOkT X xs scope cl js) (hi : PI X tg iter wi) (hg : ∀ C s2 H2 fp xe, PG (X.inC scope cl C s2 H2 fp (xs ++ js.map (fun j => X.N.getD j "")) xe) tg g)
   (he : ∀ C s2 H2 fp xe, PE (X.inC scope cl C s2 H2 fp (xs ++ js.map (fun j => X.N.getD j "")) xe) elt te)
   (ht : ∀ C s2 H2 fp xe, PT (X.inC scope cl C s2 H2 fp (xs ++ js.map (fun j => X.N.getD j "")) xe) c tt)
   (hs : ∀ z, foldedSetIterable iter X.env z = pure z) (I : Inv X pins σ H s) (h : tLCTIf wi g tt te xs.length js σ H Q)
   (fin : ∀ (D C : Addr) (H4 : Hp) (s4 : Shared) (m : Str → Option Value), s4.heap.Ns C m → FpOk X pins H4 C → (∀ h', Heap.SameBut C s4.heap h' → Inv X pins σ H4 { s4 with heap := h' }) → Q (.ref D) H4 → compPost (model X.prog X.w) X.A X.xe use Qc (.ref D) C (.ok .next) s4) :
   wpAny (model X.prog X.w) X.A (comprehension (.ListComp elt [⟨tg, iter, [c], 0⟩] scope pos) scope X.env cpos (newList []) false (eval iter X.env) use) Qc X.xe s := by
 refine wpAny_comprehension_free (cl := cl) (use := use) rfl hs L.clos L.kind L.names ?_
 refine thn (hi pins s σ H _ I h) fun v s1 h1 => thn h1 fun itv s2 h2 => ?_
 obtain ⟨it, fp, tn, J, H2, e, I2, T, st2, f2, W, ⟨k0, w0⟩, turn⟩ := h2
 subst e
 refine wpAny_newObj_type (wpAny_newFunctionEnv L.cell (by intro y hy; simp at hy) (fun h₁ hns₁ hsb₁ => ?_) L.kind)
 dsimp only at hns₁ hsb₁ ⊢
 generalize hH2 : s2.heap.push { cls := .type "list", dict := none, data := .seq ([] : List Value).toArray } = Hp2 at hns₁ hsb₁ ⊢
 have hC : Hp2.objs.size = s2.heap.objs.size + 1 := by rw [← hH2, Heap.size_push]
 generalize hD0 : s2.heap.objs.size = D at hC ⊢
 generalize hC0 : Hp2.objs.size = C at hC hns₁ hsb₁ ⊢
 have hDC : D ≠ C := by omega
 have below : ∀ b, b < D → b ≠ C := fun b hb => by omega
 have old : ∀ b o, s2.heap.get? b = some o → h₁.get? b = some o := fun b o e =>
   hsb₁.extBut b o (below b (by rw [← hD0]; exact Heap.lt_size e)) (Heap.get?_push_of_some _ (hH2 ▸ Heap.get?_push_of_some _ e))
 have hacc : h₁.get? D = some { cls := .type "list", data := .seq ([] : List Value).toArray 0 } := by
   subst hD0
   exact hsb₁.extBut _ _ hDC (Heap.get?_push_of_some _ (hH2 ▸ Heap.get?_push_size _ rfl))
 have fo : ∀ b ∈ fp, ∃ o, s2.heap.get? b = some o := fun b hb => let ⟨o, e, _⟩ := T.obj _ _ st2 b hb; ⟨o, e⟩
 have flt : ∀ b ∈ fp, b < D := fun b hb => let ⟨o, e⟩ := fo b hb; by rw [← hD0]; exact Heap.lt_size e
 have st1 : tn 0 h₁ := T.keep _ _ _ st2 fun b hb o e => old b o e
 let R := compPost (model X.prog X.w) X.A X.xe use Qc (.ref D) C
 let xe := notedBy (model X.prog X.w) X.A (compEnvC scope cl C X.env) fun e s' => R (.error e) s'
 let X' := X.inC scope cl C s2 H2 fp (xs ++ js.map (fun j => X.N.getD j "")) xe
 have I0 : ∀ {t' : Nat}, Inv X' [(D, _)] (xs.map (fun _ => none) ++ js.map (fun j => σ.getD j none)) H2 { s2 with heap := h₁, toks := t' } := fun {t'} =>
   Inv.inCT L I2 f2 fo (by omega) (by omega) hDC old hns₁ hacc (fun v z => by cases z)
 have fpk : ∀ {pD : List (Addr × Obj)} {H' : Hp}, (∀ p ∈ pD, p.1 = D) → (∀ b ∈ fp, H' b = none) → ∀ b ∈ fp, FpOk X' pD H' b := fun {pD H'} hp hn b hb => by
   refine ⟨hn b hb, below b (flt b hb), fun z => ?_, .inl hb, fun y c e => (f2 b hb).2.2.2.2.1 y c (L.sub y c e), fun p hp' z => ?_⟩
   · rcases List.mem_cons.mp (I2.stkSub b z) with e | e
     · exact (f2 b hb).2.1 e
     · exact (f2 b hb).2.2.1 e
   · have q := hp p (by simpa [X', Cx.inC] using hp')
     have := flt b hb
     rw [← z, q] at this
     exact Nat.lt_irrefl _ this
 have loop : ∀ s3 : Shared, (∃ k i ys H' its n, ∃ σ0 : St, σ0.length = xs.length ∧ Inv X' [(D, { cls := .type "list", data := .seq (its : List Value).toArray n })] (σ0 ++ js.map (fun j => σ.getD j none)) H' s3 ∧ tn i s3.heap ∧ (∀ b ∈ fp, H' b = none) ∧ W i k ys H' ∧ Vals ys its ∧ ys.length ≤ sizeLine) →
     codeAny (model X.prog X.w) X.A (.compLoop (.ListComp elt [⟨tg, iter, [c], 0⟩] scope pos) 0 (.ref it) (.ref D) (compEnvC scope cl C X.env)) R s3 := by
   rintro s3 ⟨k, hk⟩
   refine codeAny_loop rfl (fun k s3 => ∃ i ys H' its n, ∃ σ0 : St, σ0.length = xs.length ∧ Inv X' [(D, { cls := .type "list", data := .seq (its : List Value).toArray n })] (σ0 ++ js.map (fun j => σ.getD j none)) H' s3 ∧ tn i s3.heap ∧ (∀ b ∈ fp, H' b = none) ∧ W i k ys H' ∧ Vals ys its ∧ ys.length ≤ sizeLine) (fun k s3 hI => ?_) k hk
   obtain ⟨i, ys, H3, its, n, σ0, hσ0, I3, st3, fr3, w3, vy, hz⟩ := hI
   show wpAny _ _ ((compTurn (.ListComp elt [⟨tg, iter, [c], 0⟩] scope pos) 0 (.ref it) (.ref D) (compEnvC scope cl C X.env)).onRaise (fun x => do noteFrame x (compEnvC scope cl C X.env); theTreesLotGoes x)) _ _ s3
   refine wpAny_noted ?_
   rw [compTurn_list]
   have hpD : ∀ {o : Obj}, ∀ p ∈ [(D, o)], p.1 = D := fun p hp => by rw [List.mem_singleton.mp hp]
   refine wpAny_bind (wpAny_standAt (wpAny_bind ?_))
   rcases turn i k ys H3 w3 with ⟨stop, qn⟩ | ⟨go, hlen, N, S, hN, hS, step⟩
   · refine thn (T.done X' rfl rfl rfl hc i _ s3 _ H3 xe I3 (fpk hpD fr3) st3 stop) fun r s4 ⟨hr, I4⟩ => ?_
     subst hr
     refine wpAny_pure ?_
     obtain ⟨m, hn, _⟩ := I4.loc
     obtain ⟨eD, nD, _⟩ := I4.pin (D, _) (List.mem_append_right _ (List.mem_singleton.mpr rfl))
     have fC : FpOk X pins (upd H3 D (.lst ys)) C := I2.fpOk (by omega) (by
       rw [upd_ne (Ne.symm hDC)]
       exact I4.free)
     refine fin D C (upd H3 D (.lst ys)) s4 m hn fC (fun h' sb => ?_) (qn D nD)
     obtain ⟨hh, g, d, t, os'⟩ := s4
     obtain rfl : os' = s2.os := I4.os
     have kp : ∀ b o, b ≠ C → hh.get? b = some o → h'.get? b = some o := fun b o hb e => (sb.2 b hb).trans e
     have lt2 : ∀ b o, s2.heap.get? b = some o → b ≠ C ∧ b ≠ D := fun b o e => by
       have q : b < D := by rw [← hD0]; exact Heap.lt_size e
       exact ⟨below b q, Nat.ne_of_lt q⟩
     have B : Un (frs X.stack) fp H2 H3 s2.heap hh := I4.base
     have hDn : H3 D = none := nD
     have I5 : Inv X pins σ (upd H3 D (.lst ys)) { s2 with heap := h', gens := g, drawn := d, toks := t } := by
       refine I2.call (h' := h') (g' := g) (d' := d) (t' := t) (ch := fp) ⟨?_, ?_, ?_, ?_, ?_, ?_, ?_⟩ ?_ I4.bare ?_
       · exact fun b o e n hb hx => kp b o (lt2 b o e).1 (B.keep b o e n hb hx)
       · intro b o e n hb hx
         obtain ⟨sl, q⟩ := B.slot b o e n hb hx
         exact ⟨sl, kp b _ (lt2 b o e).1 q⟩
       · intro b o e n hx
         rw [upd_ne (lt2 b o e).2]
         exact B.free b o e n hx
       · intro b o e hx
         obtain ⟨o', q⟩ := B.there b o e hx
         exact ⟨o', kp b o' (lt2 b o e).1 q⟩
       · intro b xs e
         have q := B.tups b xs e
         rw [upd_ne (ne_of_none q hDn)]
         exact q
       · intro b o u e
         have q := B.frzs b o u e
         rw [upd_ne (ne_of_none q hDn)]
         exact q
       · intro b ps e
         obtain ⟨more, q⟩ := B.tbls b ps e
         exact ⟨more, by rw [upd_ne (ne_of_none q hDn)]; exact q⟩
       · intro b u e
         by_cases hb : b = D
         · subst hb
           rw [upd_same] at e
           cases e
           exact ⟨hz, its, n, vy, kp _ _ hDC eD⟩
         · rw [upd_ne hb] at e
           have nC : ∀ c o, H3 c = some o → c ≠ C := fun c o q => ne_of_none q I4.free
           refine (I4.hok b u e).stay (fun c v hc' q => kp c v ?_ q) (fun c q => by rw [upd_ne (ne_of_none q hDn)]; exact q) fun c xs q => by rw [upd_ne (ne_of_none q hDn)]; exact q
           rcases hc' with z | z
           · rw [z]; exact nC b u e
           · exact nC c _ z
       · intro b hb
         obtain ⟨_, f1, _, f3, f4, f5⟩ := f2 b hb
         exact ⟨f3, f1, f4, f5⟩
     exact I5
   · refine thn (T.item X' rfl rfl rfl hc i _ s3 _ H3 xe I3 (fpk hpD fr3) st3 go) fun r s4 ⟨u, hr, h4⟩ => ?_
     subst hr
     refine wpAny_bind (thn h4 fun _ s5 ⟨xv, H5, I5, r5, y5, st5, fr5⟩ => ?_)
     have I5' := I5.pinned (fpk hpD fr5) (T.obj _ _ st5)
     refine wpAny_bind (thn (hg C s2 H2 fp xe _ s5 _ H5 xv u _ I5' r5 (step xv _ y5 σ0 hσ0)) fun _ s6 ⟨σ6, H6, I6, σ1, hσ1, e6, st6⟩ => ?_)
     subst e6
     refine wpAny_bind (thn (wpAny_tests_one (ht C s2 H2 fp xe _ s6 _ _ _ I6 st6)) fun ok s6b ⟨H6b, I6b, q6b⟩ => ?_)
     cases ok with
     | false =>
       have q6b : S H6b := q6b
       obtain ⟨m', hm, w7⟩ := hS H6b q6b
       have pinf : ∀ b ∈ fp, ∀ o, s5.heap.get? b = some o → s6b.heap.get? b = some o ∧ H6b b = none := fun b hb o e => by
         have z := I6b.pin (b, o) (List.mem_append_right _ (List.mem_append_right _ (mem_pinsAt hb e)))
         exact ⟨z.1, z.2.1⟩
       refine wpAny_pure ⟨rfl, m', hm, i + 1, ys, H6b, its, n, σ1, hσ1, I6b.unpinned, T.keep _ _ _ st5 fun b hb o e => (pinf b hb o e).1, fun b hb => ?_, w7, vy, hz⟩
       obtain ⟨o, e, _⟩ := T.obj _ _ st5 b hb
       exact (pinf b hb o e).2
     | true =>
       have q6b : te (σ1 ++ js.map (fun j => σ.getD j none)) H6b N := q6b
       refine wpAny_bind (wpAny_bind (thn (he C s2 H2 fp xe _ s6b _ _ _ I6b q6b) fun y s7 ⟨yv, H7, I7, ry, n7⟩ => ?_))
       obtain ⟨m', hm, w7⟩ := hN yv H7 n7
       have I7' := I7.unpinned
       obtain ⟨eD, nD, neC, nfs, _⟩ := I7'.pin (D, _) (List.mem_append_right _ (List.mem_singleton.mpr rfl))
       have eD' : s7.heap.get? D = some { cls := .type "list", data := .seq its.toArray n } := eD
       have lv := vy.length
       refine wpAny_bind (call_meets F.slot_list_append ⟨_, eD', rfl⟩ F.entry_list_append (F.args_list_append_2 _ _) (PySem.list_append D its.toArray n y (by rw [List.size_toArray]; omega)) ⟨eD', ?_⟩)
       refine wpAny_pure (wpAny_pure ⟨rfl, m', hm, i + 1, ys ++ [yv], H7, its ++ [y], ?_⟩)
       have q := PySem.IsL.update eD' (fun a : Array Value => a.push y)
       have I8 : Inv X' [] (σ1 ++ js.map (fun j => σ.getD j none)) H7 { s7 with heap := s7.heap.update D (Obj.mapSeq (fun a : Array Value => a.push y)) } :=
         (I7'.pins_of (pins' := []) (fun p hp => nomatch hp)).turned (t' := s7.toks) (it := D) (fun b o hb e => (Heap.get?_update_other s7.heap _ (Ne.symm hb)).trans e) nD neC (.inr (by show s2.heap.objs.size ≤ D; omega))
           (fun z c e w => by
             obtain ⟨v', o', ho', _⟩ := I2.cell z c (L.sub z c e)
             have := Heap.lt_size ho'
             rw [w, hD0] at this
             exact Nat.lt_irrefl _ this) (fun p hp => nomatch hp)
       have pinf : ∀ b ∈ fp, ∀ o, s5.heap.get? b = some o → s7.heap.get? b = some o ∧ H7 b = none := fun b hb o e => by
         have z := I7.pin (b, o) (List.mem_append_right _ (List.mem_append_right _ (mem_pinsAt hb e)))
         exact ⟨z.1, z.2.1⟩
       obtain ⟨n', q'⟩ : ∃ n', (s7.heap.update D (Obj.mapSeq (fun a : Array Value => a.push y))).get? D = some { cls := .type "list", data := .seq (its ++ [y]).toArray n' } := by
         rw [show (its ++ [y]).toArray = its.toArray.push y by simp]
         exact ⟨_, q⟩
       refine ⟨n', σ1, hσ1, I8.pins_of fun p hp => ?_, ?_, fun b hb => ?_, w7, vy.append (.cons ry .nil), by rw [List.length_append, List.length_singleton]; omega⟩
       · rw [List.mem_singleton.mp hp]
         exact ⟨q', nD, neC, nfs, fun v z => by cases z⟩
       · refine T.keep _ _ _ st5 fun b hb o e => ?_
         have hb' : D ≠ b := fun z => by
           have := flt b hb
           rw [← z] at this
           exact Nat.lt_irrefl _ this
         exact (Heap.get?_update_other s7.heap _ hb').trans (pinf b hb o e).1
       · obtain ⟨o, e, _⟩ := T.obj _ _ st5 b hb
         exact (pinf b hb o e).2
 have start : ∀ {t' : Nat}, ∃ k i ys H' its n, ∃ σ0 : St, σ0.length = xs.length ∧ Inv X' [(D, { cls := .type "list", data := .seq (its : List Value).toArray n })] (σ0 ++ js.map (fun j => σ.getD j none)) H' { s2 with heap := h₁, toks := t' } ∧ tn i h₁ ∧ (∀ b ∈ fp, H' b = none) ∧ W i k ys H' ∧ Vals ys its ∧ ys.length ≤ sizeLine := fun {t'} =>
   ⟨k0, 0, [], H2, [], 0, xs.map (fun _ => none), List.length_map .., I0, st1, fun b hb => (f2 b hb).1, w0, .nil, Nat.zero_le _⟩
 exact codeAny_compStart_list (loop _ start) (T.self X.A 0 _ _ _ st1 (loop _ start))
theorem pe_lcTIf {elt iter tg c : Expr} {g : TG} {xs : List Str} {pos : Pos} {scope : Scope} {cl : List (Str × Addr)} {wi : TI} {te : TE} {tt : TT} (js : List Nat) (hc : X.calm = true) (L : LcOkT X xs scope cl js) (hi : PI X tg iter wi)
   (hg : ∀ C s2 H2 fp xe, PG (X.inC scope cl C s2 H2 fp (xs ++ js.map (fun j => X.N.getD j "")) xe) tg g)
   (ht : ∀ C s2 H2 fp xe, PT (X.inC scope cl C s2 H2 fp (xs ++ js.map (fun j => X.N.getD j "")) xe) c tt)
   (he : ∀ C s2 H2 fp xe, PE (X.inC scope cl C s2 H2 fp (xs ++ js.map (fun j => X.N.getD j "")) xe) elt te)
   (hs : ∀ z, foldedSetIterable iter X.env z = pure z := by intro _; rfl) :
   PE X (.ListComp elt [⟨tg, iter, [c], 0⟩] scope pos) (tLCTIf wi g tt te xs.length js) := by
 intro pins s σ H Q I h
 rw [eval_ListComp]
 exact lcTIf_core (use := none) hc L hi hg he ht hs I h fun D C H4 s4 m hn _ I4 q => ⟨m, hn, fun h' sb => ⟨.ref D, H4, I4 h' sb, rfl, q⟩⟩
end
theorem LcOkT.free {X : Cx} {xs : List Str} {scope : Scope} {cl : List (Str × Addr)} {js : List Nat} (fns : List Str) (hclos : closureFor scope X.env = pure cl) (hf : cl.map (·.1) = fns) (hsub : ∀ p ∈ cl, X.env.cells.lookup p.1 = some p.2) (hcell : ∀ y ∈ scope.names, y.2 ≠ .cell) (hkind : scope.kind = .function) (hnames : ∀ y ∈ scope.names, y.2 = .local → scope.names.lookup y.1 = some .local)
   (hloc : ∀ x ∈ xs, scope.names.lookup x = some .local) (hcov : ∀ z ∈ scope.names, z.2 = .free → z.1 ∈ fns) (hnd : (xs ++ js.map (fun j => X.N.getD j "")).Nodup)
   (hfr : ∀ j ∈ js, ∃ y, X.N[j]? = some y ∧ X.env.kindOf y = some .cell ∧ (relabel scope X.env).names.lookup y = some .cell ∧ y ∈ fns) : LcOkT X xs scope cl js where
 clos := hclos
 sub := fun y c e => hsub (y, c) (mem_lookup e)
 kind := hkind
 cell := hcell
 names := hnames
 loc := hloc
 has := fun y h => by
   have : ∃ z ∈ scope.names, z.1 = y ∧ z.2 = .free := by
     rcases h with h | h
     · exact lookup_relabel_free (.inl rfl) hcell h
     · exact lookup_relabel_free (.inr rfl) hcell h
   obtain ⟨z, m, rfl, e⟩ := this
   exact lookup_mem (by rw [hf]; exact hcov z m e)
 nd := hnd
 fr := fun j hj => by
   obtain ⟨y, a, b, c, d⟩ := hfr j hj
   exact ⟨y, a, b, c, lookup_mem (by rw [hf]; exact d)⟩
def ItV (d : Addr) (o : Obj) (kvs : List (Key × V)) : It :=
 ⟨fun i H => H d = some (.frz o (.dK kvs)) ∧ i < kvs.length, fun i H x H' => H' = H ∧ ∃ kv, kvs[i]? = some kv ∧ x = kv.2, fun i H => H d = some (.frz o (.dK kvs)) ∧ kvs.length ≤ i⟩
theorem turn_vals {P : Program} {w : World} {K : PySem.W.Frag} {tg : Expr} {d it : Addr} {o : Obj} {kvs : List (Key × V)} {vs : List (Key × Value)} {ep : Nat} (rel : KV kvs vs)
   (hda : ∀ h : Heap, h.get? d = some o → h.DictAt (mixKind P w) d vs ep) : Turn P w K tg (ItV d o kvs) [it] it (fun i h => h.IsValIter it d i vs.length ep) where
 mem := by simp
 obj := fun i h st b hb => by
   obtain ⟨oi, he, hcl, hdt⟩ := st
   rw [List.mem_singleton.mp hb]
   exact ⟨_, he, fun v z => by
     rw [hdt] at z
     cases z⟩
 keep := fun i h h' st k => by
   obtain ⟨oi, he, r⟩ := st
   exact ⟨oi, k it (by simp) _ he, r⟩
 item := by
   intro X hP hw hK hc i pins s σ H E I hf st hg
   subst hP hw hK
   obtain ⟨hdf, hlt⟩ := hg
   obtain ⟨f0, f1, f2, f3, f4, f5⟩ := hf it (by simp)
   obtain ⟨kv, hkv⟩ : ∃ kv, kvs[i]? = some kv := ⟨_, List.getElem?_eq_getElem hlt⟩
   obtain ⟨u, hu, ru⟩ := kv_at rel i kv hkv
   have raw := hda s.heap (show ObjOk X.prog X.w H s.heap d (.frz o (.dK kvs)) from I.hok d _ hdf).1
   refine wpAny_pyNext_values_item st raw hu fun h1 st1 sb => ⟨_, rfl, ?_⟩
   obtain ⟨oi, he, hcl, hdt⟩ := id st1
   refine go_of he hcl hdt rfl ⟨kv.2, H, ?_, ru, ⟨rfl, kv, hkv, rfl⟩, st1, fun b hb => ?_⟩
   · exact I.turned (t' := s.toks) (it := it) (fun b o hb q => (sb.2 b hb).trans q) f0 f1 f3 f4 f5
   · rw [List.mem_singleton.mp hb]
     exact f0
 done := by
   intro X hP hw hK hc i pins s σ H E I hf st hg
   subst hP hw hK
   obtain ⟨hdf, hge⟩ := hg
   obtain ⟨f0, f1, f2, f3, f4, f5⟩ := hf it (by simp)
   have raw := hda s.heap (show ObjOk X.prog X.w H s.heap d (.frz o (.dK kvs)) from I.hok d _ hdf).1
   have hl : kvs.length = vs.length := rel.length
   exact wpAny_pyNext_values_end (I.ok.hd hc) st raw (List.getElem?_eq_none (by omega)) fun h' eb => ⟨rfl, I.turned (t' := s.toks) (fun b o hb e => eb b o hb e) f0 f1 f3 f4 f5⟩
 self := fun _ _ _ _ _ st h => wpAny_pyIter_valiter st h
section
variable {X : Cx}
def iVals (te : TE) : TI := fun σ H R => te σ H fun x H1 => ∃ (v d : Addr) (kvs : List (Key × V)), x = .ref v ∧ H1 v = some (vvw v d) ∧ H1 d = some (.dK kvs) ∧ ∀ o : Obj, R (ItV d o kvs) (upd H1 d (.frz o (.dK kvs)))
theorem pi_vals {tg e : Expr} {te : TE} (he : PE X e te) : PI X tg e (iVals te) := by
 intro pins s σ H R I h
 refine thn (he pins s σ H _ I h) fun v s1 ⟨x, H1, I1, r1, q1⟩ => ?_
 obtain ⟨v, d, kvs, rfl, hv, hd, q⟩ := q1
 cases r1
 obtain ⟨z, hsm, vs, rel, dd⟩ := dk_of I1.hok hd
 obtain ⟨ep, da⟩ := dd.dictAt
 have hvw : s1.heap.IsValuesView v d := (I1.hok v _ hv).1
 obtain ⟨o, es, ho, rest⟩ := id da
 have I2 := I1.freezeK hd ho
 refine wpAny_pyIter_values hvw da ?_
 have k : ∀ b u, s1.heap.get? b = some u → (s1.heap.push { cls := .type "dict_valueiterator", data := .fields #[.ref d, .int 0 0, .int vs.length 0, .int ep 0] }).get? b = some u := fun b u e => Heap.get?_push_of_some _ e
 have I3 : Inv X pins σ (upd H1 d (.frz o (.dK kvs))) { s1 with heap := s1.heap.push { cls := .type "dict_valueiterator", data := .fields #[.ref d, .int 0 0, .int vs.length 0, .int ep 0] } } := I2.kept (t' := s1.toks) k
 refine ⟨s1.heap.objs.size, [s1.heap.objs.size], _, ItV d o kvs, upd H1 d (.frz o (.dK kvs)), rfl, I3, turn_vals rel (fun h hh => ⟨o, es, hh, rest⟩), ⟨_, Heap.get?_push_size _ rfl, rfl, rfl⟩, fun b hb => ?_, q o⟩
 rw [List.mem_singleton.mp hb]
 exact I2.fpOk (Nat.le_refl _) (I2.hok.fresh (Nat.le_refl _))
theorem for_vals {d : Addr} {o : Obj} {kvs : List (Key × V)} {g : TG} {tb : TS} {D : Ends} {σ : St} {H : Hp} (Pv : Nat → St → Hp → Prop) (h0 : Pv 0 σ H) (hl : ∀ i σ H, i ≤ kvs.length → Pv i σ H → H d = some (.frz o (.dK kvs)))
   (hs : ∀ i kv σ H, kvs[i]? = some kv → Pv i σ H → g kv.2 σ H fun σ2 H2 => tb { D with nx := Pv (i + 1), ct := Pv (i + 1), bk := D.nx } σ2 H2) (hd : ∀ σ H, Pv kvs.length σ H → D.nx σ H) :
   ∃ W : Nat → Nat → St → Hp → Prop, (∃ m, W 0 m σ H) ∧ ∀ i m σ H, W i m σ H →
     ((ItV d o kvs).stop i H ∧ D.nx σ H) ∨ ((ItV d o kvs).go i H ∧ ∃ N : St → Hp → Prop, (∀ σ' H', N σ' H' → ∃ m', m' < m ∧ W (i + 1) m' σ' H') ∧ ∀ x H', (ItV d o kvs).yld i H x H' → g x σ H' fun σ2 H2 => tb { D with nx := N, ct := N, bk := D.nx } σ2 H2) := by
 refine ⟨fun i m σ H => m = kvs.length - i ∧ i ≤ kvs.length ∧ Pv i σ H, ⟨kvs.length, by simp, Nat.zero_le _, h0⟩, ?_⟩
 rintro i m σ H ⟨rfl, hi, p⟩
 have q := hl i σ H hi p
 by_cases hlt : i < kvs.length
 · refine .inr ⟨⟨q, hlt⟩, Pv (i + 1), fun σ' H' p' => ⟨kvs.length - (i + 1), by omega, rfl, hlt, p'⟩, fun x H' y => ?_⟩
   obtain ⟨rfl, kv, hk, rfl⟩ := y
   exact hs i kv σ H' hk p
 · have e : i = kvs.length := by omega
   subst e
   exact .inl ⟨⟨q, Nat.le_refl _⟩, hd σ H p⟩
theorem lc_valsIf {d : Addr} {o : Obj} {kvs : List (Key × V)} {T : V → Hp → VK → Prop} {B : V → Hp → (Bool → Hp → Prop) → Prop} {R : Addr → Hp → List V → Prop} {H : Hp} (Pv : Nat → List V → Hp → Prop) (h0 : Pv 0 [] H) (hn : kvs.length ≤ sizeLine) (hl : ∀ i ys H, i ≤ kvs.length → Pv i ys H → H d = some (.frz o (.dK kvs)) ∧ ys.length ≤ i)
   (hs : ∀ i kv ys H, kvs[i]? = some kv → Pv i ys H → B kv.2 H fun b H2 => if b = true then T kv.2 H2 (fun y H3 => Pv (i + 1) (ys ++ [y]) H3) else Pv (i + 1) ys H2) (hd : ∀ ys H, Pv kvs.length ys H → ∀ l, H l = none → R l H ys) :
   ∃ W : Nat → Nat → List V → Hp → Prop, (∃ m, W 0 m [] H) ∧ ∀ i m ys H, W i m ys H →
     ((ItV d o kvs).stop i H ∧ ∀ l, H l = none → R l H ys) ∨ ((ItV d o kvs).go i H ∧ ys.length < sizeLine ∧ ∃ (N : VK) (S : Hp → Prop), (∀ y H2, N y H2 → ∃ m', m' < m ∧ W (i + 1) m' (ys ++ [y]) H2) ∧ (∀ H2, S H2 → ∃ m', m' < m ∧ W (i + 1) m' ys H2) ∧
       ∀ x H', (ItV d o kvs).yld i H x H' → B x H' fun b H2 => if b = true then T x H2 N else S H2) := by
 refine ⟨fun i m ys H => m = kvs.length - i ∧ i ≤ kvs.length ∧ Pv i ys H, ⟨kvs.length, by simp, Nat.zero_le _, h0⟩, ?_⟩
 rintro i m ys H ⟨rfl, hi, p⟩
 obtain ⟨q, hy⟩ := hl i ys H hi p
 by_cases hlt : i < kvs.length
 · refine .inr ⟨⟨q, hlt⟩, by omega, fun y H2 => Pv (i + 1) (ys ++ [y]) H2, fun H2 => Pv (i + 1) ys H2, fun y H2 p' => ⟨kvs.length - (i + 1), by omega, rfl, hlt, p'⟩, fun H2 p' => ⟨kvs.length - (i + 1), by omega, rfl, hlt, p'⟩, fun x H' y => ?_⟩
   obtain ⟨rfl, kv, hk, rfl⟩ := y
   exact hs i kv ys H' hk p
 · have e : i = kvs.length := by omega
   subst e
   exact .inl ⟨⟨q, Nat.le_refl _⟩, hd ys H p⟩
theorem lc_listU {K : PySem.W.Frag} {a : Addr} {xs : List V} {U : V → Hp → VK → (Hp → Prop) → Prop} {R : Addr → Hp → List V → Prop} {H : Hp} (Pv : Nat → List V → Hp → Prop) (h0 : Pv 0 [] H) (hn : xs.length ≤ sizeLine) (hl : ∀ i ys H, i ≤ xs.length → Pv i ys H → SqL K H a xs ∧ ys.length ≤ i)
   (hs : ∀ i x ys H, xs[i]? = some x → Pv i ys H → U x H (fun y H3 => Pv (i + 1) (ys ++ [y]) H3) (fun H2 => Pv (i + 1) ys H2)) (hd : ∀ ys H, Pv xs.length ys H → ∀ l, H l = none → R l H ys) :
   ∃ W : Nat → Nat → List V → Hp → Prop, (∃ m, W 0 m [] H) ∧ ∀ i m ys H, W i m ys H →
     ((Itl K a).stop i H ∧ ∀ l, H l = none → R l H ys) ∨ ((Itl K a).go i H ∧ ys.length < sizeLine ∧ ∃ (N : VK) (S : Hp → Prop), (∀ y H2, N y H2 → ∃ m', m' < m ∧ W (i + 1) m' (ys ++ [y]) H2) ∧ (∀ H2, S H2 → ∃ m', m' < m ∧ W (i + 1) m' ys H2) ∧
       ∀ x H', (Itl K a).yld i H x H' → U x H' N S) := by
 refine ⟨fun i m ys H => m = xs.length - i ∧ i ≤ xs.length ∧ Pv i ys H, ⟨xs.length, by simp, Nat.zero_le _, h0⟩, ?_⟩
 rintro i m ys H ⟨rfl, hi, p⟩
 obtain ⟨q, hy⟩ := hl i ys H hi p
 by_cases hlt : i < xs.length
 · refine .inr ⟨⟨xs, xs[i], q, by simp [hlt]⟩, by omega, fun y H2 => Pv (i + 1) (ys ++ [y]) H2, fun H2 => Pv (i + 1) ys H2, fun y H2 p' => ⟨xs.length - (i + 1), by omega, rfl, hlt, p'⟩, fun H2 p' => ⟨xs.length - (i + 1), by omega, rfl, hlt, p'⟩, fun x H' ⟨e, y⟩ => ?_⟩
   subst e
   exact hs i x ys _ (y xs q) p
 · have e : i = xs.length := by omega
   subst e
   exact .inl ⟨⟨xs, q, Nat.le_refl _⟩, hd ys H p⟩
end
end L2
namespace HT
open PySem PySem.Spec PyProof.Rows L2
section
variable {prog : Program} {w : World} {A : Around} {E : Value → Shared → Prop} {s : Shared}
theorem tup_slice_all {tp si : Addr} {its : Array Value} {va vb : Value} {fr to : Option Int} {R : Value → Shared → Prop} (g : IsTup s.heap tp its) (gs : s.heap.IsSliceOf si va vb .none) (pa : IsPart va fr) (pb : IsPart vb to)
   (w0 : sIx its.size 0 fr = 0) (w1 : sIx its.size its.size to = its.size) (h : R (.ref tp) s) : wpAny (model prog w) A (getItem (.ref tp) (.ref si)) R E s := by
 obtain ⟨ob, hob, hcb, hdb⟩ := id gs
 have ty : s.TypeIs (.ref si) "slice" := ⟨ob, hob, hcb⟩
 unfold getItem
 try with_reducible refine wpAny_holding ?_
 first | refine wpAny_bind (wpAny_pure ?_) | skip
 refine wpAny_bind (wpAny_sequenceKey g.typeIs (by decide) ?_)
 refine wpAny_bind (wpAny_callSpecial?_slot (name := Str.ofString "__getitem__") g.typeIs PyProof.Rows.slot_tuple_getitem (wpAny_call_entry PyProof.Rows.slot_tuple_getitem g.typeIs entry_tuple_getitem ?_ (args_tuple_getitem _ _)))
 show wpAny _ _ (Builtin.Tuple.tupleItemsOf (.ref tp) >>= _) _ _ s
 refine wpAny_bind (tupleItemsOf_ g ?_)
 refine wpAny_bind (wpAny_typeOf ty ?_)
 rw [if_pos (by decide)]
 refine wpAny_bind (sliceApplied_gen gs pa pb ?_)
 have yes : ((((sIx its.size 0 fr : Nat) : Int) == 0 && (1 : Int) == 1 && (sIx its.size its.size to - sIx its.size 0 fr) == its.size) = true) := by
   rw [w0, w1]
   simp
 show wpAny _ _ (if (((sIx its.size 0 fr : Nat) : Int) == 0 && (1 : Int) == 1 && (sIx its.size its.size to - sIx its.size 0 fr) == its.size) = true then _ else _) _ _ s
 rw [if_pos yes]
 refine wpAny_bind (wpAny_bind (wpAny_typeOf g.typeIs (wpAny_pure ?_)))
 rw [if_pos (by decide)]
 exact wpAny_bind (wpAny_rule (wpAny_pure ⟨_, rfl, wpAny_pure h⟩))
end
end HT
namespace L2
open PySem PySem.W PySem.Spec PyProof.Rows L3
section
variable {X : Cx}
def rSlW (K : PySem.W.Frag) : V → Option Int → Option Int → Hp → VK → Prop := fun x lo hi H Q => ∃ a xs, x = .ref a ∧ SqT K H a xs ∧ ((HT.sIx xs.length 0 lo = 0 ∧ HT.sIx xs.length xs.length hi = xs.length ∧ Q (.ref a) H) ∨ rSlT K x lo hi H Q)
theorem sl_tupW : SlR X (rSlW X.K) := by
 intro pins s σ H x v vl vu lo hi sl Q I rx hs pl pu h
 obtain ⟨a, xs, rfl, hx, h⟩ := h
 rcases h with ⟨w0, w1, q⟩ | h
 · cases rx
   obtain ⟨its, r, ht, hz⟩ := I.tuple hx
   have hlen : its.toArray.size = xs.length := by rw [List.size_toArray]; exact r.length.symm
   refine ⟨"tuple", _, PyProof.Rows.slot_tuple_getitem.lookup, ht.typeIs, ?_⟩
   exact HT.tup_slice_all ht hs pl pu (by rw [hlen]; exact w0) (by rw [hlen]; exact w1) ⟨.ref a, H, I, rfl, q⟩
 · exact sl_tup pins s σ H _ v vl vu lo hi sl Q I rx hs pl pu h
theorem op_isF : OpR X (compareOp .Is) (fun x y H Q => ∃ b : Bool, x = .bl b ∧ y = .bl false ∧ Q (.bl (!b)) H) := by
 intro pins s σ H x y v u Q I rx ry h
 obtain ⟨b, rfl, rfl, q⟩ := h
 cases rx
 cases ry
 cases b
 · exact wpAny_pure ⟨.bl true, H, I, rfl, q⟩
 · exact wpAny_pure ⟨.bl false, H, I, rfl, q⟩
def eqW (K : PySem.W.Frag) (H : Hp) (x y : V) : Prop := eqT K H x y ∨ eqLi K H x y ∨ eqTu K H x y
theorem op_neW {cm : Bool} {k : Nat} (hr : Room cm k X.A) : OpR X (compareOp .NotEq) (fun x y H Q => ∃ a b xs ys, x = .ref a ∧ y = .ref b ∧ SqT X.K H a xs ∧ SqT X.K H b ys ∧ xs.length = ys.length ∧ (∀ (j : Nat) x y, xs[j]? = some x → ys[j]? = some y → eqW X.K H x y) ∧ Q (.bl false) H) := by
 intro pins s σ H x y v u Q I rx ry h
 obtain ⟨a, b, xs, ys, rfl, rfl, ha, hb, hl, he, q⟩ := h
 cases rx
 cases ry
 obtain ⟨i1, r1, p1, z1⟩ := I.tuple ha
 obtain ⟨i2, r2, p2, z2⟩ := I.tuple hb
 have n1 := r1.length
 have n2 := r2.length
 have w0 : X.A.units < cLine := by have := hr.un; omega
 have w1 : X.A.in1.units < cLine := by have := hr.un; show X.A.units + 1 < cLine; omega
 have w2 : X.A.in1.in1.units < cLine := by have := hr.un; show X.A.units + 1 + 1 < cLine; omega
 have w3 : X.A.in1.in1.in1.units < cLine := by have := hr.un; show X.A.units + 1 + 1 + 1 < cLine; omega
 refine SeqAt.RcNeAt.tuples (e := fun _ => true) (show s.heap.IsTuple a i1.toArray from p1) (show s.heap.IsTuple b i2.toArray from p2) w0 (fun j h1 h2 => ?_) _ _ _ _ ?_
 · simp only [List.size_toArray] at h1 h2
   obtain ⟨x, e, rx⟩ := vals_at r1 j h1
   obtain ⟨x2, e2, rx2⟩ := vals_at r2 j h2
   simp only [List.getElem_toArray]
   rcases he j x x2 e e2 with w | w | w
   · exact I.eqT w1 w rx rx2
   · exact I.eqLi w1 w2 w rx rx2
   · exact I.eqTu w1 w2 w3 w rx rx2
 · rw [show ((List.range (min i1.toArray.size i2.toArray.size)).all (fun _ => true) && i1.toArray.size == i2.toArray.size) = true by
     simp only [List.size_toArray]
     rw [← n1, ← n2, hl]
     simp]
   exact ⟨.bl false, H, I, rfl, q⟩
theorem op_eqV {cm : Bool} {k : Nat} (hr : Room cm k X.A) : OpR X (compareOp .Eq) (fun x y H Q => ∃ a b xs ys, x = .ref a ∧ y = .ref b ∧ SqL X.K H a xs ∧ SqL X.K H b ys ∧ xs.length = ys.length ∧ (∀ (j : Nat) x y, xs[j]? = some x → ys[j]? = some y → eqTu X.K H x y) ∧ Q (.bl true) H) := by
 intro pins s σ H x y v u Q I rx ry h
 obtain ⟨a, b, xs, ys, rfl, rfl, ha, hb, hl, he, q⟩ := h
 cases rx
 cases ry
 obtain ⟨i1, r1, p1, z1⟩ := I.list ha
 obtain ⟨i2, r2, p2, z2⟩ := I.list hb
 have n1 := r1.length
 have n2 := r2.length
 have w0 : X.A.units < cLine := by have := hr.un; omega
 have w1 : X.A.in1.units < cLine := by have := hr.un; show X.A.units + 1 < cLine; omega
 have w2 : X.A.in1.in1.units < cLine := by have := hr.un; show X.A.units + 1 + 1 < cLine; omega
 have w3 : X.A.in1.in1.in1.units < cLine := by have := hr.un; show X.A.units + 1 + 1 + 1 < cLine; omega
 refine SeqAt.eq_listAt (e := fun _ => true) p1.isList p2.isList (by simp only [List.size_toArray]; omega) w0 (fun j h1 h2 => ?_) ?_
 · simp only [List.size_toArray] at h1 h2
   obtain ⟨x, e, rx⟩ := vals_at r1 j h1
   obtain ⟨x2, e2, rx2⟩ := vals_at r2 j h2
   simp only [List.getElem_toArray]
   exact I.eqTu w1 w2 w3 (he j x x2 e e2) rx rx2
 · rw [show ((List.range i1.toArray.size).all fun _ => true) = true by simp]
   exact ⟨.bl true, H, I, rfl, q⟩
theorem op_eqF {cm : Bool} {k : Nat} (hr : Room cm k X.A) : OpR X (compareOp .Eq) (fun x y H Q => ∃ a b xs ys, x = .ref a ∧ y = .ref b ∧ SqL X.K H a xs ∧ SqL X.K H b ys ∧ xs.length = ys.length ∧ xs.all flatV = true ∧ ys.all flatV = true ∧ Q (.bl ((List.range xs.length).all fun j => eqV (xs.getD j .non) (ys.getD j .non))) H) := by
 intro pins s σ H x y v u Q I rx ry h
 obtain ⟨a, b, xs, ys, rfl, rfl, ha, hb, hl, fx, fy, q⟩ := h
 cases rx
 cases ry
 obtain ⟨i1, r1, p1, z1⟩ := I.list ha
 obtain ⟨i2, r2, p2, z2⟩ := I.list hb
 have n1 := r1.length
 have n2 := r2.length
 have w0 : X.A.units < cLine := by have := hr.un; omega
 refine SeqAt.eq_listAt (e := fun j => eqV (xs.getD j .non) (ys.getD j .non)) p1.isList p2.isList (by simp only [List.size_toArray]; omega) w0 (fun j h1 h2 => ?_) ?_
 · simp only [List.size_toArray] at h1 h2
   obtain ⟨x, e, rx⟩ := vals_at r1 j h1
   obtain ⟨x2, e2, rx2⟩ := vals_at r2 j h2
   simp only [List.getElem_toArray]
   rw [List.getD, List.getD, e, e2]
   exact eqAt_V rx rx2 (List.all_eq_true.mp fx x (List.mem_of_getElem? e)) (List.all_eq_true.mp fy x2 (List.mem_of_getElem? e2))
 · rw [List.size_toArray, ← n1]
   exact ⟨.bl _, H, I, rfl, q⟩
end
end L2
namespace Z
end Z
namespace N15
def flo (am many x : Int) : Int := Int.fdiv (am * x) many
def portF (am many a b : Int) : Int := flo am many b - flo am many a
def lastO : Int → List Int → Int
 | p, [] => p
 | _, c :: r => lastO c r
structure Cuts (many : Int) (cuts : List Int) : Prop where
 lo : ∀ c ∈ cuts, 0 ≤ c
 hi : ∀ c ∈ cuts, c ≤ many
 up : cuts.Pairwise (· ≤ ·)
theorem lastO_mem : ∀ (p : Int) (l : List Int), lastO p l = p ∧ l = [] ∨ lastO p l ∈ l
 | _, [] => .inl ⟨rfl, rfl⟩
 | p, c :: r => by
   rcases lastO_mem c r with ⟨e, _⟩ | h
   · right; simp only [lastO]; rw [e]; exact List.mem_cons_self ..
   · right; simp only [lastO]; exact List.mem_cons_of_mem _ h
theorem Cuts.turn {many : Int} {cuts pre post : List Int} {v : Int} (C : Cuts many cuts) (e : cuts = pre ++ v :: post) : 0 ≤ lastO 0 pre ∧ lastO 0 pre ≤ v ∧ v ≤ many := by
 subst e
 have v0 := C.lo v (List.mem_append_right _ (List.mem_cons_self ..))
 have v1 := C.hi v (List.mem_append_right _ (List.mem_cons_self ..))
 rcases lastO_mem 0 pre with ⟨z, _⟩ | h
 · rw [z]; exact ⟨Int.le_refl _, v0, v1⟩
 · refine ⟨C.lo _ (List.mem_append_left _ h), ?_, v1⟩
   exact (List.pairwise_append.mp C.up).2.2 _ h _ (List.mem_cons_self ..)
end N15
namespace N15
theorem fdiv_le (a b : Int) : (Int.fdiv a b).natAbs ≤ a.natAbs := by
 rcases a with (_ | k) | k <;> rcases b with (_ | j) | j
 all_goals first
   | exact Nat.zero_le _
   | exact Nat.div_le_self _ _
   | exact Nat.succ_le_succ (Nat.div_le_self _ _)
   | (show (Int.fdiv 0 _).natAbs ≤ 0; rw [Int.zero_fdiv]; exact Nat.le_refl _)
theorem flo_in {am many x : Int} (ha : am.natAbs ≤ 2 ^ 210) (hx : x.natAbs ≤ 2 ^ 110) : (flo am many x).natAbs ≤ 2 ^ 210 * 2 ^ 110 := by
 refine Nat.le_trans (fdiv_le _ _) ?_
 rw [Int.natAbs_mul]
 exact Nat.mul_le_mul ha hx
end N15
namespace N14
open N15
theorem flo_in {am many x : Int} (ha : am.natAbs ≤ 2 ^ 210) (hx : x.natAbs ≤ 2 ^ 190) : (flo am many x).natAbs ≤ 2 ^ 210 * 2 ^ 190 := by
 refine Nat.le_trans (fdiv_le _ _) ?_
 rw [Int.natAbs_mul]
 exact Nat.mul_le_mul ha hx
theorem turn {mn : Int} {cs : List Int} {i : Nat} {v : Int} (C : Cuts mn cs) (h : cs[i]? = some v) : 0 ≤ lastO 0 (cs.take i) ∧ lastO 0 (cs.take i) ≤ v ∧ v ≤ mn := by
 refine C.turn (post := cs.drop (i + 1)) ?_
 obtain ⟨hi, e⟩ := List.getElem?_eq_some_iff.mp h
 subst e
 rw [← List.drop_eq_getElem_cons hi, List.take_append_drop]
theorem up {mn : Int} {cs : List Int} (C : Cuts mn cs) {i j : Nat} (hij : i ≤ j) (hj : j < cs.length) : 0 ≤ cs.getD i 0 ∧ cs.getD i 0 ≤ cs.getD j 0 ∧ cs.getD j 0 ≤ mn := by
 have hi : i < cs.length := by omega
 have e1 : cs.getD i 0 = cs[i] := by simp [List.getD, hi]
 have e2 : cs.getD j 0 = cs[j] := by simp [List.getD, hj]
 rw [e1, e2]
 refine ⟨C.lo _ (List.getElem_mem hi), ?_, C.hi _ (List.getElem_mem hj)⟩
 rcases Nat.lt_or_eq_of_le hij with h | h
 · exact List.pairwise_iff_getElem.mp C.up i j hi hj h
 · subst h; exact Int.le_refl _
end N14
namespace K53
open PySem L2 L3
def top (i : Nat) : Stmt := PySem.Challenge.pw_groupbooks_k53_stock_refusals.main.body.getD i (.Pass ⟨0, 0, 0, 0⟩)
abbrev s_portion : Stmt := top 8
abbrev s_layer_cost : Stmt := top 10
abbrev s_chain_costs : Stmt := top 11
abbrev s_chain_gains : Stmt := top 12
abbrev s__law_cell : Stmt := top 17
abbrev s__law_draw : Stmt := top 18
abbrev s__law_names : Stmt := top 19
abbrev s__law_whole : Stmt := top 20
abbrev s__law_refusal : Stmt := top 21
abbrev s__law_asked : Stmt := top 22
abbrev s__law_due : Stmt := top 23
abbrev s__law_done : Stmt := top 24
abbrev s__law_held : Stmt := top 25
abbrev s__law_costs : Stmt := top 26
abbrev s__law_sums : Stmt := top 27
abbrev s__law_summed : Stmt := top 28
abbrev s__law_many : Stmt := top 29
abbrev s__law_deed : Stmt := top 30
abbrev s__law_alike : Stmt := top 31
abbrev s_law : Stmt := top 32
section
variable {P : Program} {w : World} {K : PySem.W.Frag} {mg : Str → Option Value} {base : Heap} {cm : Bool}
def spWhole : Sp := fun vs H Q _ => ∃ i : Int, vs = [.int i] ∧ Q (.bl true) H
def spLaw (K : PySem.W.Frag) : Sp := fun vs H Q _ => ∃ (a : Addr) (ns : List Int), vs = [.ref a] ∧ SqL K H a (ns.map V.int) ∧ ns.length ≤ 63 ∧ ∀ H', Q (.bl true) H'
theorem same_upd {H : Hp} {p : Addr} {o : HO} (h : H p = none) : Same H (upd H p o) := fun b o' hb => by
 rw [upd_ne (ne_of_none hb h)]
 exact hb
theorem same_set {H0 H : Hp} {p : Addr} {o : HO} (e : Same H0 H) (h : H0 p = none) : Same H0 (upd H p o) := fun b o' hb => by
 rw [upd_ne (ne_of_none hb h)]
 exact e _ _ hb
theorem at_ints {ws : List Int} {i : Nat} {w : Int} (h : ws[i]? = some w) : (ws.map V.int)[i]? = some (.int w) := by rw [List.getElem?_map, h]; rfl
def spPort (C : Addr) : Sp := fun vs H Q E => ∃ am mn a b : Int, vs = [.int am, .int mn, .int a, .int b] ∧ am.natAbs ≤ 2 ^ 210 ∧ mn.natAbs ≤ 2 ^ 200 ∧ a.natAbs ≤ 2 ^ 200 ∧ b.natAbs ≤ 2 ^ 200 ∧ ((mn < 1 ∨ a < 0 ∨ mn < b ∨ b < a) → E (.ref C) none H) ∧ ((1 ≤ mn ∧ 0 ≤ a ∧ b ≤ mn ∧ a ≤ b) → Q (.int (N15.portF am mn a b)) H)
theorem at_int {ws : List Int} {f : Int} (h0 : 0 ≤ f) (h1 : f < ws.length) : atI (ws.map V.int) f = some (.int (ws.getD f.toNat 0)) := by
 obtain ⟨n, rfl⟩ := Int.eq_ofNat_of_zero_le h0
 rw [Int.toNat_natCast]
 have hi : n < ws.length := by omega
 refine atI_nat (at_ints ?_)
 rw [List.getElem?_eq_getElem hi]
 simp [List.getD, hi]
theorem at_str {ws : List Str} {i : Int} (h0 : 0 ≤ i) (h1 : i < ws.length) : ∃ w ∈ ws, atI (ws.map V.str) i = some (.str w) := by
 obtain ⟨n, rfl⟩ := Int.eq_ofNat_of_zero_le h0
 have hn : n < ws.length := by omega
 exact ⟨ws[n], List.getElem_mem hn, atI_nat (by rw [List.getElem?_map, List.getElem?_eq_getElem hn]; rfl)⟩
theorem prod_in {x y : Int} {m n : Nat} (hx : x.natAbs ≤ m) (hy : y.natAbs ≤ n) : (x * y).natAbs ≤ m * n := by
 rw [Int.natAbs_mul]
 exact Nat.mul_le_mul hx hy
def L26 : Str := "abcdefghijklmnopqrstuvwxyz"
theorem l26_at {i : Int} (h0 : 0 ≤ i) (h1 : i < 26) : atI L26.cps.toList i = some (97 + i.toNat) := by
 obtain ⟨n, rfl⟩ := Int.eq_ofNat_of_zero_le h0
 have hn : n < 26 := by omega
 have all : ∀ n, n < 26 → L26.cps.toList[n]? = some (97 + n) := by decide +kernel
 exact atI_nat (all n hn)
theorem l26_len : L26.length ≤ 26 := by decide +kernel
def prs : List Int := [100003, 200003, 300007, 400009, 500009, 600011, 700001, 800011]
theorem pr_at {j : Int} (h0 : 0 ≤ j) (h1 : j < 8) : ∃ p : Int, 0 < p ∧ p ≤ 800011 ∧ atI [V.int 100003, V.int 200003, V.int 300007, V.int 400009, V.int 500009, V.int 600011, V.int 700001, V.int 800011] j = some (V.int p) := by
 have e := at_int (ws := prs) h0 (by show j < 8; exact h1)
 refine ⟨prs.getD j.toNat 0, ?_, ?_, e⟩
 · obtain ⟨n, rfl⟩ := Int.eq_ofNat_of_zero_le h0
   have hn : n < 8 := by omega
   have all : ∀ n, n < 8 → 0 < prs.getD n 0 := by decide +kernel
   exact all n hn
 · obtain ⟨n, rfl⟩ := Int.eq_ofNat_of_zero_le h0
   have hn : n < 8 := by omega
   have all : ∀ n, n < 8 → prs.getD n 0 ≤ 800011 := by decide +kernel
   exact all n hn
def spCe (K : PySem.W.Frag) : Sp := fun vs H Q _ => ∃ (a : Addr) (ns : List Int) (k : Int), vs = [.ref a, .int k] ∧ SqL K H a (ns.map V.int) ∧ 0 ≤ k ∧ k ≤ 100 ∧ ∀ c : Int, 0 ≤ c → c < 10 ^ 45 → Q (.int c) H
def spLay (C : Addr) : Sp := fun vs H Q E => ∃ (p : Addr) (t : V) (c s e a b : Int), vs = [.ref p, .int a, .int b] ∧ H p = some (.tup [t, .int c, .int s, .int e]) ∧ c.natAbs ≤ 2 ^ 200 ∧ s.natAbs ≤ 2 ^ 100 ∧ e.natAbs ≤ 2 ^ 100 ∧ a.natAbs ≤ 2 ^ 100 ∧ b.natAbs ≤ 2 ^ 100 ∧ ((e - s < 1 ∨ a < s ∨ e < b ∨ b < a) → E (.ref C) none H) ∧ ((s < e ∧ s ≤ a ∧ b ≤ e ∧ a ≤ b) → Q (.int (N15.portF c (e - s) (a - s) (b - s))) H)
abbrev Ly := Addr × Str × Int × Int × Int
def tupY (z : Ly) : HO := .tup [.str z.2.1, .int z.2.2.1, .int z.2.2.2.1, .int z.2.2.2.2]
def rfy (L : List Ly) : List V := L.map fun z => .ref z.1
theorem rfy_len (L : List Ly) : (rfy L).length = L.length := List.length_map ..
theorem rfy_app (A B : List Ly) : rfy (A ++ B) = rfy A ++ rfy B := List.map_append ..
theorem rfy_at {L : List Ly} {i : Nat} {x : V} (h : (rfy L)[i]? = some x) : ∃ z, L[i]? = some z ∧ x = .ref z.1 := by
 unfold rfy at h
 rw [List.getElem?_map] at h
 cases e : L[i]? with
 | none => rw [e] at h; cases h
 | some z => rw [e] at h; exact ⟨z, rfl, (Option.some.inj h).symm⟩
theorem at_rfy {L : List Ly} {i : Nat} {z : Ly} (h : L[i]? = some z) : (rfy L)[i]? = some (.ref z.1) := by
 unfold rfy
 rw [List.getElem?_map, h]
 rfl
def RY (H : Hp) (L : List Ly) : Prop := ∀ z ∈ L, H z.1 = some (tupY z)
theorem RY.same {H H' : Hp} {L : List Ly} (h : RY H L) (e : Same H H') : RY H' L := fun z hz => e _ _ (h z hz)
def Ok (L : List Ly) (S E : Int) : Prop := ∀ z ∈ L, 0 ≤ z.2.2.1 ∧ z.2.2.1 ≤ 10 ^ 40 ∧ 0 ≤ z.2.2.2.1 ∧ z.2.2.2.1 ≤ S ∧ S < E ∧ E ≤ z.2.2.2.2 ∧ z.2.2.2.2 ≤ 1000000
def pc (a b : Int) (z : Ly) : Int := N15.portF z.2.2.1 (z.2.2.2.2 - z.2.2.2.1) (a - z.2.2.2.1) (b - z.2.2.2.1)
def cos (L : List Ly) (a b : Int) : List Int := L.map (pc a b)
theorem cos_len (L : List Ly) (a b : Int) : (cos L a b).length = L.length := List.length_map ..
theorem take_ny {α : Type} {L : List α} {i : Nat} {z : α} (h : L[i]? = some z) : L.take (i + 1) = L.take i ++ [z] := by
 rw [List.take_succ, h]
 rfl
theorem join1 {α : Type} {G : Prop} (F P : α → Prop) (hm : (∀ x, F x → P x) → G) (hr : ∀ x, F x → P x) : G := hm hr
theorem join2 {α β : Type} {G : Prop} (F P : α → β → Prop) (hm : (∀ x y, F x y → P x y) → G) (hr : ∀ x y, F x y → P x y) : G := hm hr
theorem at_last {xs : List V} {v : V} (h : xs.getLast? = some v) : atI xs (-1) = some v := by
 have hne : xs ≠ [] := fun z => by rw [z] at h; cases h
 have hl : 0 < xs.length := List.length_pos_iff.mpr hne
 unfold atI
 rw [List.getLast?_eq_getElem?] at h
 rw [← h]
 unfold ixN
 rw [if_neg (by decide)]
 rw [if_pos (by omega)]
 show xs[(-1 + (xs.length : Int)).toNat]? = _
 rw [show (-1 + (xs.length : Int)).toNat = xs.length - 1 by omega]
abbrev Gn := Addr × Str × Int
def tupG (z : Gn) : HO := .tup [.str z.2.1, .int z.2.2]
def rfg (L : List Gn) : List V := L.map fun z => .ref z.1
theorem rfg_len (L : List Gn) : (rfg L).length = L.length := List.length_map ..
theorem rfg_app (A B : List Gn) : rfg (A ++ B) = rfg A ++ rfg B := List.map_append ..
def RG (H : Hp) (L : List Gn) : Prop := ∀ z ∈ L, H z.1 = some (tupG z)
theorem RG.same {H H' : Hp} {L : List Gn} (h : RG H L) (e : Same H H') : RG H' L := fun z hz => e _ _ (h z hz)
def gns (L : List Ly) (a b : Int) (n : Nat) : List (Str × Int) := (List.range n).map fun i => ((L.getD i (0, "", 0, 0, 0)).2.1, (cos L a b).getD (i + 1) 0 - (cos L a b).getD i 0)
theorem gns_nx (L : List Ly) (a b : Int) (n : Nat) : gns L a b (n + 1) = gns L a b n ++ [((L.getD n (0, "", 0, 0, 0)).2.1, (cos L a b).getD (n + 1) 0 - (cos L a b).getD n 0)] := by
 unfold gns
 rw [List.range_succ, List.map_append]
 rfl
def spCC (C : Addr) : Sp := fun vs H Q E => ∃ (l : Addr) (L : List Ly) (S T a b : Int), vs = [.ref l, .int a, .int b] ∧ H l = some (.lst (rfy L)) ∧ RY H L ∧ Ok L S T ∧ L.length ≤ 60 ∧ a.natAbs ≤ 2 ^ 90 ∧ b.natAbs ≤ 2 ^ 90 ∧
 ((∃ z ∈ L, a < z.2.2.2.1 ∨ z.2.2.2.2 < b ∨ b < a) → E (.ref C) none H) ∧ ((∀ z ∈ L, z.2.2.2.1 ≤ a ∧ a ≤ b ∧ b ≤ z.2.2.2.2) → ∀ p, H p = none → Q (.ref p) (upd H p (.lst ((cos L a b).map V.int))))
def spCG (C : Addr) : Sp := fun vs H Q E => ∃ (l : Addr) (L : List Ly) (S T a b : Int), vs = [.ref l, .int a, .int b] ∧ H l = some (.lst (rfy L)) ∧ RY H L ∧ Ok L S T ∧ L.length ≤ 60 ∧ 1 ≤ L.length ∧ a.natAbs ≤ 2 ^ 90 ∧ b.natAbs ≤ 2 ^ 90 ∧
 ((∃ z ∈ L, a < z.2.2.2.1 ∨ z.2.2.2.2 < b ∨ b < a) → E (.ref C) none H) ∧ ((∀ z ∈ L, z.2.2.2.1 ≤ a ∧ a ≤ b ∧ b ≤ z.2.2.2.2) → ∀ (p : Addr) (G : List Gn) H', Same H H' → H' p = some (.lst (rfg G)) → RG H' G → G.map (·.2) = gns L a b (L.length - 1) → Q (.ref p) H')
theorem sc_portion : FnScope ["amount", "many", "start", "stop"] ["amount", "many", "start", "stop"] (defScope s_portion) := ⟨rfl, rfl, rfl, by decide +kernel, rfl, by decide +kernel, by decide +kernel⟩
theorem ok_portion (D : Def K mg "portion" s_portion .none) {C_NoNumber : Addr} (m_NoNumber : mg "NoNumber" = some (.ref C_NoNumber)) (X_NoNumber : XCls K C_NoNumber) (i_NoNumber : PySem.W.findIn K (.ref C_NoNumber) "__init__" = some (some (.builtin "ValueError.__init__"))) : Cal P w K mg base (CX1 P w) true 1 "portion" ["amount", "many", "start", "stop"] [] (spPort C_NoNumber) := by
 obtain ⟨f, fd, F, hm⟩ := D
 refine ⟨f, fd, _, F.okX sc_portion (fun vs H Q E h => ?_) (fun cdv A outer s H vs Q E hr h => ?_), hm, F.kp, (F.binds fun _ _ _ _ _ _ us hl => match us, hl with | [_, _, _, _], _ => rfl), .nil, F.binds fun _ _ _ _ _ _ us hl => match us, hl with | [_, _, _, _], _ => rfl⟩
 · obtain ⟨am, mn, a, b, rfl, l1, l2, l3, l4, q1, q2⟩ := h
   rfl
 obtain ⟨am, mn, a, b, rfl, l1, l2, l3, l4, q1, q2⟩ := h
 have nd := sc_portion.nd
 refine ⟨_, (pss_cons (ps_if (pt_cmpR op_lt (pv 1) pe_int (nomark _)) (pss_one (ps_raise0 rfl xe_def rfl m_NoNumber X_NoNumber i_NoNumber (pa_cons pe_str pa_nil))) pss_nil)
   (pss_cons (ps_if (PW.pt (pw_or (pt_cmpR op_lt (pv 2) pe_int (nomark _)) (pw_or (pt_cmpR op_gt (pv 3) (pv 1) (nomark _)) (pw_or1 (pt_cmpR op_gt (pv 2) (pv 3) (nomark _)))))) (pss_one (ps_raise0 rfl xe_def rfl m_NoNumber X_NoNumber i_NoNumber (pa_cons pe_str pa_nil))) pss_nil)
   (pss_one (ps_ret (pe_op op_sub (pe_op op_fdivB (pe_op op_mulB (pv 0) (pv 3)) (pv 1)) (pe_op op_fdivB (pe_op op_mulB (pv 0) (pv 2)) (pv 1))))))), ?_⟩
 refine ⟨_, rfl, _, _, rfl, rfl, _, rfl, ?_⟩
 refine dec2 (fun h => ⟨by decide, True.intro, q1 (.inl h)⟩) (fun h => ?_)
 refine ⟨_, rfl, _, _, rfl, rfl, _, rfl, ?_⟩
 refine dec2 (fun h1 => iteT ⟨by decide, True.intro, q1 (.inr (.inl h1))⟩) (fun h1 => ?_)
 refine ⟨_, rfl, _, rfl, _, _, rfl, rfl, _, rfl, ?_⟩
 refine dec2 (fun h2 => iteT ⟨by decide, True.intro, q1 (.inr (.inr (.inl (by omega))))⟩) (fun h2 => ?_)
 refine ⟨_, rfl, _, rfl, _, _, rfl, rfl, _, rfl, ?_⟩
 refine dec2 (fun h3 => ⟨by decide, True.intro, q1 (.inr (.inr (.inr (by omega))))⟩) (fun h3 => ?_)
 exact ⟨_, rfl, ⟨_, rfl, ⟨_, _, rfl, rfl, mul_of (by omega) (by omega) (by omega) (by omega), ⟨_, rfl, ⟨_, _, rfl, rfl, log_of (by omega) (by omega) (by omega), ⟨_, rfl, ⟨_, rfl, ⟨_, _, rfl, rfl, mul_of (by omega) (by omega) (by omega) (by omega), ⟨_, rfl, ⟨_, _, rfl, rfl, log_of (by omega) (by omega) (by omega), ⟨_, _, rfl, rfl, q2 ⟨by omega, by omega, by omega, by omega⟩⟩⟩⟩⟩⟩⟩⟩⟩⟩⟩⟩
theorem sc_layer_cost : FnScope ["layer", "start", "stop", "begin"] ["layer", "start", "stop"] (defScope s_layer_cost) := ⟨rfl, rfl, rfl, by decide +kernel, rfl, by decide +kernel, by decide +kernel⟩
theorem ok_layer_cost (D : Def K mg "layer_cost" s_layer_cost .none) {C_NoNumber : Addr} (c_portion : Cal P w K mg base (CX1 P w) true 1 "portion" ["amount", "many", "start", "stop"] [] (spPort C_NoNumber)) : Cal P w K mg base (CX1 P w) true 2 "layer_cost" ["layer", "start", "stop"] [] (spLay C_NoNumber) := by
 obtain ⟨f, fd, F, hm⟩ := D
 obtain ⟨f_portion, fd_portion, d_portion, G_portion, m_portion, k_portion, b_portion, v_portion, b_portion1⟩ := c_portion
 refine ⟨f, fd, _, F.okX sc_layer_cost (fun vs H Q E h => ?_) (fun cdv A outer s H vs Q E hr h => ?_), hm, F.kp, (F.binds fun _ _ _ _ _ _ us hl => match us, hl with | [_, _, _], _ => rfl), .nil, F.binds fun _ _ _ _ _ _ us hl => match us, hl with | [_, _, _], _ => rfl⟩
 · obtain ⟨p, t, c, s, e, a, b, rfl, hp, l1, l2, l3, l4, l5, q1, q2⟩ := h
   rfl
 obtain ⟨p, t, c, s, e, a, b, rfl, hp, l1, l2, l3, l4, l5, q1, q2⟩ := h
 have nd := sc_layer_cost.nd
 refine ⟨_, (pss_cons (ps_set (i := 3) nd rfl (Or.inl rfl) (pe_ix ix_seq (pv 0) pe_int (fun _ _ => rfl)))
   (pss_one (ps_ret (pe_callR G_portion (hr.mono (by decide)) rfl m_portion k_portion b_portion Paired.nil xe_def (pa_cons (pe_ix ix_seq (pv 0) pe_int (fun _ _ => rfl)) (pa_cons (pe_op op_sub (pe_ix ix_seq (pv 0) pe_int (fun _ _ => rfl)) (pv 3)) (pa_cons (pe_op op_sub (pv 1) (pv 3)) (pa_cons (pe_op op_sub (pv 2) (pv 3)) pa_nil)))))))), ?_⟩
 have hT := SqT.of (K := K) hp
 exact ⟨_, rfl, .inr (.inl ⟨p, _, 2, _, rfl, rfl, hT, rfl, ⟨_, rfl, .inr (.inl ⟨p, _, 1, _, rfl, rfl, hT, rfl, ⟨_, rfl, .inr (.inl ⟨p, _, 3, _, rfl, rfl, hT, rfl, ⟨_, rfl, ⟨_, _, rfl, rfl, ⟨_, rfl, ⟨_, rfl, ⟨_, _, rfl, rfl, ⟨_, rfl, ⟨_, rfl, ⟨_, _, rfl, rfl, True.intro, c, e - s, a - s, b - s, rfl, by omega, by omega, by omega, by omega, (fun z => q1 (by omega)), (fun z => q2 (by omega))⟩⟩⟩⟩⟩⟩⟩⟩⟩)⟩⟩)⟩⟩)⟩
theorem sc_chain_costs : FnScope ["layers", "start", "stop"] ["layers", "start", "stop"] (defScope s_chain_costs) := ⟨rfl, rfl, rfl, by decide +kernel, rfl, by decide +kernel, by decide +kernel⟩
theorem ok_chain_costs (D : Def K mg "chain_costs" s_chain_costs .none) {C_NoNumber : Addr} (c_layer_cost : Cal P w K mg base (CX1 P w) true 2 "layer_cost" ["layer", "start", "stop"] [] (spLay C_NoNumber)) : Cal P w K mg base (CX1 P w) true 3 "chain_costs" ["layers", "start", "stop"] [] (spCC C_NoNumber) := by
 obtain ⟨f, fd, F, hm⟩ := D
 obtain ⟨f_layer_cost, fd_layer_cost, d_layer_cost, G_layer_cost, m_layer_cost, k_layer_cost, b_layer_cost, v_layer_cost, b_layer_cost1⟩ := c_layer_cost
 refine ⟨f, fd, _, F.okX sc_chain_costs (fun vs H Q E h => ?_) (fun cdv A outer s H vs Q E hr h => ?_), hm, F.kp, (F.binds fun _ _ _ _ _ _ us hl => match us, hl with | [_, _, _], _ => rfl), .nil, F.binds fun _ _ _ _ _ _ us hl => match us, hl with | [_, _, _], _ => rfl⟩
 · obtain ⟨l, L, S, T, a, b, rfl, hl, hL, ok, hlen, la, lb, q1, q2⟩ := h
   rfl
 obtain ⟨l, L, S, T, a, b, rfl, hl, hL, ok, hlen, la, lb, q1, q2⟩ := h
 have nd := sc_chain_costs.nd
 refine ⟨_, (pss_one (ps_ret (pe_lcR [1, 2] xe_def rfl rfl rfl (LcOk.free ["stop", "start"] rfl rfl (List.forall_mem_cons.mpr ⟨rfl, (List.forall_mem_cons.mpr ⟨rfl, (fun _ h => nomatch h)⟩)⟩) (by decide +kernel) rfl (by decide +kernel) rfl (by decide +kernel) (show (["layer", "start", "stop"] : List Str).Nodup from by decide +kernel) (List.forall_mem_cons.mpr ⟨⟨_, rfl, rfl, rfl, by decide +kernel⟩, (List.forall_mem_cons.mpr ⟨⟨_, rfl, rfl, rfl, by decide +kernel⟩, (fun _ h => nomatch h)⟩)⟩)) (pi_list (pv 0)) (fun C s2 H2 fp xe hxe2 => (pe_callR G_layer_cost (hr.mono (by decide)) rfl m_layer_cost k_layer_cost b_layer_cost Paired.nil hxe2 (pa_cons (pv 0) (pa_cons (pv 1) (pa_cons (pv 2) pa_nil)))))))), ?_⟩
 have hline : 600 ≤ sizeLine := by decide
 refine ⟨True.intro, _, rfl, l, rfl, ⟨_, SqL.of hl⟩, ?_⟩
 refine lc_list (xs := rfy L) (fun i ys H' => ys = (cos (L.take i) a b).map V.int ∧ H' = H ∧ ∀ z ∈ L.take i, z.2.2.2.1 ≤ a ∧ a ≤ b ∧ b ≤ z.2.2.2.2) ⟨rfl, rfl, fun z hz => nomatch hz⟩ (by rw [rfy_len]; omega) ?_ ?_ ?_
 · rintro i ys H' hi ⟨rfl, rfl, _⟩
   rw [rfy_len] at hi
   refine ⟨SqL.of hl, ?_⟩
   rw [List.length_map, cos_len, List.length_take]
   omega
 · rintro i x ys H' hx ⟨rfl, rfl, hin⟩
   obtain ⟨z, hz, rfl⟩ := rfy_at hx
   have zm := List.mem_of_getElem? hz
   have o := ok z zm
   refine ⟨_, rfl, _, rfl, _, rfl, True.intro, z.1, _, z.2.2.1, z.2.2.2.1, z.2.2.2.2, a, b, rfl, hL z zm, by omega, by omega, by omega, by omega, by omega, (fun w => q1 ⟨z, zm, by omega⟩), fun w => ⟨?_, rfl, fun y hy => ?_⟩⟩
   · rw [take_ny hz]
     unfold cos
     rw [List.map_append, List.map_append]
     rfl
   · rw [take_ny hz] at hy
     rcases List.mem_append.mp hy with m | m
     · exact hin y m
     · rw [List.mem_singleton.mp m]
       omega
 rintro ys H' ⟨rfl, rfl, hin⟩ p hp
 rw [rfy_len, List.take_length] at hin ⊢
 exact q2 hin p hp
theorem sc_chain_gains : FnScope ["layers", "start", "stop", "costs"] ["layers", "start", "stop"] (defScope s_chain_gains) := ⟨rfl, rfl, rfl, by decide +kernel, rfl, by decide +kernel, by decide +kernel⟩
theorem ok_chain_gains (D : Def K mg "chain_gains" s_chain_gains .none) {C_NoNumber : Addr} (c_chain_costs : Cal P w K mg base (CX1 P w) true 3 "chain_costs" ["layers", "start", "stop"] [] (spCC C_NoNumber)) (z_range : mg "range" = none) (z_len : mg "len" = none) : Cal P w K mg base (CX1 P w) true 4 "chain_gains" ["layers", "start", "stop"] [] (spCG C_NoNumber) := by
 obtain ⟨f, fd, F, hm⟩ := D
 obtain ⟨f_chain_costs, fd_chain_costs, d_chain_costs, G_chain_costs, m_chain_costs, k_chain_costs, b_chain_costs, v_chain_costs, b_chain_costs1⟩ := c_chain_costs
 refine ⟨f, fd, _, F.okX sc_chain_gains (fun vs H Q E h => ?_) (fun cdv A outer s H vs Q E hr h => ?_), hm, F.kp, (F.binds fun _ _ _ _ _ _ us hl => match us, hl with | [_, _, _], _ => rfl), .nil, F.binds fun _ _ _ _ _ _ us hl => match us, hl with | [_, _, _], _ => rfl⟩
 · obtain ⟨l, L, S, T, a, b, rfl, hl, hL, ok, hlen, hlen1, la, lb, q1, q2⟩ := h
   rfl
 obtain ⟨l, L, S, T, a, b, rfl, hl, hL, ok, hlen, hlen1, la, lb, q1, q2⟩ := h
 have nd := sc_chain_gains.nd
 refine ⟨_, (pss_cons (ps_set (i := 3) nd rfl (Or.inr rfl) (pe_callR G_chain_costs (hr.mono (by decide)) rfl m_chain_costs k_chain_costs b_chain_costs Paired.nil xe_def (pa_cons (pv 0) (pa_cons (pv 1) (pa_cons (pv 2) pa_nil)))))
   (pss_one (ps_ret (pe_lc [0, 3] rfl (LcOk.free ["layers", "costs"] rfl rfl (List.forall_mem_cons.mpr ⟨rfl, (List.forall_mem_cons.mpr ⟨rfl, (fun _ h => nomatch h)⟩)⟩) (by decide +kernel) rfl (by decide +kernel) rfl (by decide +kernel) (show (["place", "layers", "costs"] : List Str).Nodup from by decide +kernel) (List.forall_mem_cons.mpr ⟨⟨_, rfl, rfl, rfl, by decide +kernel⟩, (List.forall_mem_cons.mpr ⟨⟨_, rfl, rfl, rfl, by decide +kernel⟩, (fun _ h => nomatch h)⟩)⟩)) (pi_range2 rfl z_range (pa_cons pe_int (pa_cons (pe_callB call_len_seq rfl z_len bt_len (pa_cons (pv 0) pa_nil)) pa_nil))) (fun C s2 H2 fp xe => (pe_tup (pa_cons (pe_ix ix_seqC (pe_ix ix_seqC (pv 1) (pe_op op_sub (pv 0) pe_int) (fun _ _ => rfl)) pe_int (fun _ _ => rfl)) (pa_cons (pe_op op_sub (pe_ix ix_seqC (pv 2) (pv 0) (fun _ _ => rfl)) (pe_ix ix_seqC (pv 2) (pe_op op_sub (pv 0) pe_int) (fun _ _ => rfl))) pa_nil)))))))), ?_⟩
 have hline : 600 ≤ sizeLine := by decide
 refine ⟨_, rfl, _, rfl, _, rfl, True.intro, l, L, S, T, a, b, rfl, hl, hL, ok, hlen, la, lb, q1, fun hin cp hcp => ?_⟩
 have q := q2 hin
 have e1 := same_upd (o := .lst ((cos L a b).map V.int)) hcp
 have hl1 := e1 _ _ hl
 have hL1 := hL.same e1
 have hc1 : upd H cp (.lst ((cos L a b).map V.int)) cp = some (.lst ((cos L a b).map V.int)) := upd_same
 generalize upd H cp (.lst ((cos L a b).map V.int)) = H1 at e1 hl1 hL1 hc1 ⊢
 have cl := cos_len L a b
 refine ⟨_, rfl, l, _, rfl, .inl (SqL.of hl1), ?_⟩
 rw [rfy_len]
 refine ⟨_, _, rfl, ⟨by omega, by omega, by omega, by omega⟩, ?_⟩
 have hcnt : ((L.length : Int) - 1).toNat = L.length - 1 := by omega
 refine lc_range (lo := 1) (fun i ys H2 => ∃ G : List Gn, ys = rfg G ∧ G.map (·.2) = gns L a b i ∧ RG H2 G ∧ Same H1 H2) ⟨[], rfl, rfl, (fun z hz => nomatch hz), fun _ _ h => h⟩ (by omega) ?_ ?_ ?_
 · rintro i ys H2 hi ⟨G, rfl, hG, _, _⟩
   have := congrArg List.length hG
   rw [List.length_map] at this
   unfold gns at this
   rw [List.length_map, List.length_range] at this
   rw [rfg_len]
   exact this
 · rintro i ys H2 hi ⟨G, rfl, hG, hGt, e2⟩
   have hi1 : i + 1 < L.length := by omega
   have hz : L[i]? = some L[i] := List.getElem?_eq_getElem (by omega)
   have zd : L.getD i (0, "", 0, 0, 0) = L[i] := by rw [List.getD, hz]; rfl
   have y0 : atI (rfy L) (1 + (i : Int) - 1) = some (.ref L[i].1) := by
     rw [show (1 : Int) + (i : Int) - 1 = ((i : Nat) : Int) by omega]
     exact atI_nat (at_rfy hz)
   have c1 := at_int (ws := cos L a b) (f := 1 + (i : Int)) (by omega) (by omega)
   have c0 := at_int (ws := cos L a b) (f := 1 + (i : Int) - 1) (by omega) (by omega)
   rw [show (1 + (i : Int)).toNat = i + 1 by omega] at c1
   rw [show (1 + (i : Int) - 1).toNat = i by omega] at c0
   have hZ := SqT.of (K := K) (hL1.same e2 L[i] (List.mem_of_getElem? hz))
   have sl := SqL.of (K := K) (e2 _ _ hl1)
   have sc := SqL.of (K := K) (e2 _ _ hc1)
   refine ⟨_, rfl, _, rfl, _, _, rfl, rfl, .inl ⟨l, _, _, _, rfl, rfl, sl, y0, .inr (.inl ⟨L[i].1, _, 0, _, rfl, rfl, hZ, rfl, _, rfl, _, rfl, .inl ⟨cp, _, _, _, rfl, rfl, sc, c1, _, rfl, _, rfl, _, _, rfl, rfl, .inl ⟨cp, _, _, _, rfl, rfl, sc, c0, _, _, rfl, rfl, (by show 2 ≤ sizeLine; decide), fun p hp => ?_⟩⟩⟩)⟩⟩
   have f := same_upd (o := tupG (p, L[i].2.1, (cos L a b).getD (i + 1) 0 - (cos L a b).getD i 0)) hp
   refine ⟨G ++ [(p, L[i].2.1, (cos L a b).getD (i + 1) 0 - (cos L a b).getD i 0)], by rw [rfg_app]; rfl, ?_, fun y hy => ?_, e2.trans f⟩
   · rw [gns_nx, List.map_append, hG, zd]
     rfl
   · rcases List.mem_append.mp hy with w | w
     · exact f _ _ (hGt y w)
     · rw [List.mem_singleton.mp w]
       exact upd_same
 rintro ys H2 ⟨G, rfl, hG, hGt, e2⟩ p hp
 rw [hcnt] at hG
 have f := same_upd (o := .lst (rfg G)) hp
 exact q p G _ ((e1.trans e2).trans f) upd_same (hGt.same f) hG
structure Hv where
 lot : Int
 firm : Str
 a : Int
 b : Int
 L : List Ly
abbrev Sh := Int × Addr × Addr × Hv
def HoF (C : Addr) (H : Hp) (p l : Addr) (v : Hv) : Prop := ∃ dx fs, H p = some (.ins C dx fs) ∧ fs.lookup ("lot" : Str) = some (.int v.lot) ∧ fs.lookup ("firm" : Str) = some (.str v.firm) ∧ fs.lookup ("start" : Str) = some (.int v.a) ∧ fs.lookup ("stop" : Str) = some (.int v.b) ∧ fs.lookup ("layers" : Str) = some (.ref l) ∧ ∀ m ∈ (["pieces", "front", "behind", "costs", "gains"] : List Str), fs.lookup m = none
def HoA (C : Addr) (H : Hp) (p l : Addr) (v : Hv) : Prop := HoF C H p l v ∧ H l = some (.lst (rfy v.L)) ∧ RY H v.L
theorem HoA.same {C : Addr} {H H' : Hp} {p l : Addr} {v : Hv} (h : HoA C H p l v) (e : Same H H') : HoA C H' p l v := by
 obtain ⟨⟨dx, fs, hp, r⟩, hl, hL⟩ := h
 exact ⟨⟨dx, fs, e _ _ hp, r⟩, e _ _ hl, hL.same e⟩
theorem HoA.kd {C : Addr} {H H' : Hp} {p l d : Addr} {v : Hv} {kv : List (Key × V)} (h : HoA C H p l v) (hd : H d = some (.dK kv)) (e : ∀ b o, H b = some o → b ≠ d → H' b = some o) : HoA C H' p l v := by
 obtain ⟨⟨dx, fs, hp, r⟩, hl, hL⟩ := h
 refine ⟨⟨dx, fs, e _ _ hp (ne_of hp hd (by intro w; cases w)), r⟩, e _ _ hl (ne_of hl hd (by intro w; cases w)), fun z hz => ?_⟩
 have a := hL z hz
 unfold tupY at a ⊢
 exact e _ _ a (ne_of a hd (by intro w; cases w))
def kvA (A : List Sh) : List (Key × V) := A.map fun x => (Sum.inl x.1, .ref x.2.1)
def putA (A : List Sh) (n : Int) (x : Addr × Addr × Hv) : List Sh := if (A.any fun y => decide (y.1 = n)) = true then A.map (fun y => if y.1 = n then (y.1, x) else y) else A ++ [(n, x)]
def dropA (A : List Sh) (n : Int) : List Sh := A.filter fun y => decide (y.1 ≠ n)
theorem kvA_len (A : List Sh) : (kvA A).length = A.length := List.length_map ..
theorem inl_eq (a b : Int) : (Sum.inl a = (Sum.inl b : Key)) = (a = b) := propext ⟨fun h => Sum.inl.inj h, fun h => by rw [h]⟩
theorem kvA_put (A : List Sh) (n : Int) (x : Addr × Addr × Hv) : putK (kvA A) (Sum.inl n) (.ref x.1) = kvA (putA A n x) := by
 unfold putK putA kvA
 rw [List.any_map]
 have e : ((fun kv : Key × V => decide (kv.1 = Sum.inl n)) ∘ fun x : Sh => ((Sum.inl x.1 : Key), V.ref x.2.1)) = fun y : Sh => decide (y.1 = n) := funext fun y => by
   show decide ((Sum.inl y.1 : Key) = Sum.inl n) = decide (y.1 = n)
   simp only [inl_eq]
 rw [e]
 split
 · rw [List.map_map, List.map_map]
   refine List.map_congr_left fun y _ => ?_
   show (if (Sum.inl y.1 : Key) = Sum.inl n then _ else _) = _
   by_cases h : y.1 = n
   · rw [if_pos (by rw [h])]
     show _ = (Sum.inl (if y.1 = n then (y.1, x) else y).1, V.ref (if y.1 = n then (y.1, x) else y).2.1)
     rw [if_pos h]
   · rw [if_neg (fun w => h (Sum.inl.inj w))]
     show _ = (Sum.inl (if y.1 = n then (y.1, x) else y).1, V.ref (if y.1 = n then (y.1, x) else y).2.1)
     rw [if_neg h]
 · rw [List.map_append]
   rfl
theorem kvA_drop (A : List Sh) (n : Int) : dropK (kvA A) (Sum.inl n) = kvA (dropA A n) := by
 unfold dropK dropA kvA
 rw [List.filter_map]
 congr 1
 refine congrArg (fun p => List.filter p A) (funext fun y => ?_)
 show decide ((Sum.inl y.1 : Key) ≠ Sum.inl n) = decide (y.1 ≠ n)
 simp only [ne_eq, inl_eq]
theorem kvA_keys (A : List Sh) : (kvA A).map (·.1) = (A.map (·.1)).map Sum.inl := by
 unfold kvA
 rw [List.map_map, List.map_map]
 rfl
theorem kvA_val {A : List Sh} (nd : (A.map (·.1)).Nodup) {n : Int} {x : Addr × Addr × Hv} (h : (n, x) ∈ A) : valV (kvA A) (Sum.inl n) = some (.ref x.1) := by
 induction A with
 | nil => cases h
 | cons y r ih =>
   rw [List.map_cons, List.nodup_cons] at nd
   show valV ((Sum.inl y.1, V.ref y.2.1) :: kvA r) (Sum.inl n) = _
   rcases List.mem_cons.mp h with w | w
   · subst w
     exact valV_pos rfl
   · rw [valV_neg (fun z => nd.1 (by
       have z2 : y.1 = n := Sum.inl.inj z
       rw [z2]
       exact List.mem_map.mpr ⟨_, w, rfl⟩))]
     exact ih nd.2 w
theorem nd_one {A : List Sh} (nd : (A.map (·.1)).Nodup) {x y : Sh} (hx : x ∈ A) (hy : y ∈ A) (e : x.1 = y.1) : x = y := by
 induction A with
 | nil => cases hx
 | cons z r ih =>
   rw [List.map_cons, List.nodup_cons] at nd
   rcases List.mem_cons.mp hx with a | a
   · rcases List.mem_cons.mp hy with b | b
     · rw [a, b]
     · exact absurd (List.mem_map.mpr ⟨y, b, by rw [← e, a]⟩) nd.1
   · rcases List.mem_cons.mp hy with b | b
     · exact absurd (List.mem_map.mpr ⟨x, a, by rw [e, b]⟩) nd.1
     · exact ih nd.2 a b
theorem nd_fst {α : Type} {L : List (Int × α)} (h : (L.map (·.1)).Nodup) : L.Nodup := List.Pairwise.of_map (S := fun a b => a ≠ b) (fun w => w.1) (fun a b h e => h (by rw [e])) h
theorem mem_putA {A : List Sh} {n : Int} {x : Addr × Addr × Hv} {y : Sh} (h : y ∈ putA A n x) : y = (n, x) ∨ y ∈ A := by
 unfold putA at h
 split at h
 · obtain ⟨z, hz, e⟩ := List.mem_map.mp h
   by_cases w : z.1 = n
   · rw [if_pos w] at e
     exact .inl (by rw [← e, w])
   · rw [if_neg w] at e
     exact .inr (e ▸ hz)
 · rcases List.mem_append.mp h with w | w
   · exact .inr w
   · exact .inl (List.mem_singleton.mp w)
theorem nd_putA {A : List Sh} {n : Int} {x : Addr × Addr × Hv} (nd : (A.map (·.1)).Nodup) : ((putA A n x).map (·.1)).Nodup := by
 unfold putA
 split
 · rw [List.map_map]
   have e : ((fun y : Sh => y.1) ∘ fun y : Sh => if y.1 = n then (y.1, x) else y) = fun y => y.1 := funext fun y => by
     show (if y.1 = n then (y.1, x) else y).1 = y.1
     split <;> rfl
   rw [e]
   exact nd
 · rename_i h
   rw [List.map_append]
   refine List.nodup_append.mpr ⟨nd, by simp, fun a ha b hb => ?_⟩
   rw [List.map_cons, List.map_nil, List.mem_singleton] at hb
   subst hb
   intro e
   obtain ⟨y, hy, e2⟩ := List.mem_map.mp ha
   exact h (List.any_eq_true.mpr ⟨y, hy, decide_eq_true (e2.trans e)⟩)
theorem len_putA (A : List Sh) (n : Int) (x : Addr × Addr × Hv) : (putA A n x).length ≤ A.length + 1 := by
 unfold putA
 split
 · rw [List.length_map]
   omega
 · rw [List.length_append]
   exact Nat.le_refl _
theorem len_dropA (A : List Sh) (n : Int) : (dropA A n).length ≤ A.length := List.length_filter_le ..
theorem nd_dropA {A : List Sh} {n : Int} (nd : (A.map (·.1)).Nodup) : ((dropA A n).map (·.1)).Nodup := List.Pairwise.sublist (List.Sublist.map _ (List.filter_sublist ..)) nd
structure Stk (CS CH : Addr) (H : Hp) (p d : Addr) (A : List Sh) : Prop where
 ob : ∃ dx fs, H p = some (.ins CS dx fs) ∧ fs.lookup ("lying" : Str) = some (.ref d) ∧ ∀ m ∈ (["bring", "taken", "sell", "hand", "holdings", "goods_of", "unmade", "copied"] : List Str), fs.lookup m = none
 dc : H d = some (.dK (kvA A))
 ho : ∀ x ∈ A, HoA CH H x.2.1 x.2.2.1 x.2.2.2
 nd : (A.map (·.1)).Nodup
def Kd (d : Addr) (H H' : Hp) : Prop := ∀ b o, H b = some o → b ≠ d → H' b = some o
theorem Kd.of {d : Addr} {H H' : Hp} (e : Same H H') : Kd d H H' := fun b o h _ => e b o h
theorem Kd.trans {d : Addr} {H H1 H2 : Hp} (e : Kd d H H1) (f : Kd d H1 H2) : Kd d H H2 := fun b o h n => f b o (e b o h n) n
theorem Kd.upd {d : Addr} {H : Hp} {o : HO} : Kd d H (upd H d o) := fun b x h n => by
 rw [upd_ne n]
 exact h
theorem Kd.tup {d : Addr} {H H' : Hp} {kv : List (Key × V)} (e : Kd d H H') (hd : H d = some (.dK kv)) {b : Addr} {xs : List V} (h : H b = some (.tup xs)) : H' b = some (.tup xs) := e _ _ h (ne_of h hd (by intro w; cases w))
theorem Kd.lst {d : Addr} {H H' : Hp} {kv : List (Key × V)} (e : Kd d H H') (hd : H d = some (.dK kv)) {b : Addr} {xs : List V} (h : H b = some (.lst xs)) : H' b = some (.lst xs) := e _ _ h (ne_of h hd (by intro w; cases w))
theorem Kd.ry {d : Addr} {H H' : Hp} {kv : List (Key × V)} (e : Kd d H H') (hd : H d = some (.dK kv)) {L : List Ly} (h : RY H L) : RY H' L := fun z hz => e.tup hd (h z hz)
theorem Stk.same {CS CH : Addr} {H H' : Hp} {p d : Addr} {A : List Sh} (S : Stk CS CH H p d A) (e : Same H H') : Stk CS CH H' p d A := by
 obtain ⟨dx, fs, hp, r⟩ := S.ob
 exact ⟨⟨dx, fs, e _ _ hp, r⟩, e _ _ S.dc, fun x hx => (S.ho x hx).same e, S.nd⟩
theorem Stk.kd {CS CH : Addr} {H H' : Hp} {p d d' : Addr} {A : List Sh} {kv : List (Key × V)} (S : Stk CS CH H p d A) (hd : H d' = some (.dK kv)) (hn : d ≠ d') (e : Kd d' H H') : Stk CS CH H' p d A := by
 obtain ⟨dx, fs, hp, r⟩ := S.ob
 exact ⟨⟨dx, fs, e _ _ hp (ne_of hp hd (by intro w; cases w)), r⟩, e _ _ S.dc hn, fun x hx => (S.ho x hx).kd hd e, S.nd⟩
theorem Stk.put {CS CH : Addr} {H : Hp} {p d : Addr} {A : List Sh} (S : Stk CS CH H p d A) {q l : Addr} {v : Hv} (h : HoA CH H q l v) (n : Int) : Stk CS CH (upd H d (.dK (putK (kvA A) (Sum.inl n) (.ref q)))) p d (putA A n (q, l, v)) := by
 obtain ⟨dx, fs, hp, r⟩ := S.ob
 refine ⟨⟨dx, fs, Kd.upd _ _ hp (ne_of hp S.dc (by intro w; cases w)), r⟩, ?_, fun x hx => ?_, nd_putA S.nd⟩
 · rw [upd_same, ← kvA_put]
 · rcases mem_putA hx with w | w
   · rw [w]
     exact h.kd S.dc Kd.upd
   · exact (S.ho x w).kd S.dc Kd.upd
theorem Stk.drop {CS CH : Addr} {H : Hp} {p d : Addr} {A : List Sh} (S : Stk CS CH H p d A) (n : Int) : Stk CS CH (upd H d (.dK (dropK (kvA A) (Sum.inl n)))) p d (dropA A n) := by
 obtain ⟨dx, fs, hp, r⟩ := S.ob
 refine ⟨⟨dx, fs, Kd.upd _ _ hp (ne_of hp S.dc (by intro w; cases w)), r⟩, ?_, fun x hx => ?_, nd_dropA S.nd⟩
 · rw [upd_same, kvA_drop]
 · exact (S.ho x (List.mem_filter.mp hx).1).kd S.dc Kd.upd
theorem fr_of {H : Hp} {l p dx : Addr} {o o' : HO} (h : upd (upd H dx o') p o l = none) (hp : H p = none) (hdx : H dx = none) : H l = none := by
 cases g : H l with
 | none => rfl
 | some u =>
   rw [upd_ne (ne_of_none g hp), upd_ne (ne_of_none g hdx), g] at h
   cases h
def soldA (A : List Sh) (n k : Int) (v : Hv) (q l : Addr) : List Sh := if v.b - (v.a + k) = 0 then dropA A n else putA A n (q, l, { v with a := v.a + k })
def spHI (C : Addr) : Sp := fun vs H Q _ => ∃ (p dx l0 : Addr) (v : Hv), vs = [.ref p, .int v.lot, .str v.firm, .int v.a, .int v.b, .ref l0] ∧ H p = some (.ins C dx []) ∧ H l0 = some (.lst (rfy v.L)) ∧ RY H v.L ∧ ∀ l H', H l = none → l ≠ p → HoA C H' p l v → (∀ b o, H b = some o → b ≠ p → H' b = some o) → Q .non H'
def spHP (C : Addr) : Sp := fun vs H Q _ => ∃ (p l : Addr) (v : Hv), vs = [.ref p] ∧ HoA C H p l v ∧ Q (.int (v.b - v.a)) H
def spHF (C : Addr) : Sp := fun vs H Q _ => ∃ (p l : Addr) (v : Hv) (k : Int), vs = [.ref p, .int k] ∧ HoA C H p l v ∧ ∀ l' t H', Same H H' → H l' = none → H' l' = some (.lst (rfy v.L)) → H' t = some (.tup [.int v.lot, .int v.a, .int (v.a + k), .ref l']) → Q (.ref t) H'
def spHB (C : Addr) : Sp := fun vs H Q _ => ∃ (p l : Addr) (v : Hv) (k : Int), vs = [.ref p, .int k] ∧ HoA C H p l v ∧ ∀ p' l' H', Same H H' → H l' = none → HoA C H' p' l' { v with a := v.a + k } → Q (.ref p') H'
def spSI (CS CH : Addr) : Sp := fun vs H Q _ => ∃ (p dx : Addr), vs = [.ref p] ∧ H p = some (.ins CS dx []) ∧ ∀ d H', H d = none → d ≠ p → Stk CS CH H' p d [] → (∀ b o, H b = some o → b ≠ p → H' b = some o) → (∃ dx fs, H' p = some (.ins CS dx fs) ∧ fs.length ≤ 1) → Q .non H'
abbrev Hr := Addr × Addr × Int × Hv
def rfH (Z : List Hr) : List V := Z.map fun z => .ref z.1
theorem rfH_len (Z : List Hr) : (rfH Z).length = Z.length := List.length_map ..
theorem rfH_app (A B : List Hr) : rfH (A ++ B) = rfH A ++ rfH B := List.map_append ..
theorem rfH_at {L : List Hr} {i : Nat} {x : V} (h : (rfH L)[i]? = some x) : ∃ z, L[i]? = some z ∧ x = .ref z.1 := by
 unfold rfH at h
 rw [List.getElem?_map] at h
 cases e : L[i]? with
 | none => rw [e] at h; cases h
 | some z => rw [e] at h; exact ⟨z, rfl, (Option.some.inj h).symm⟩
def HrL (H : Hp) (Z : List Hr) : Prop := ∀ z ∈ Z, H z.1 = some (.tup [.int z.2.2.1, .int z.2.2.2.lot, .str z.2.2.2.firm, .int z.2.2.2.a, .int z.2.2.2.b, .ref z.2.1]) ∧ H z.2.1 = some (.lst (rfy z.2.2.2.L)) ∧ RY H z.2.2.2.L
theorem HrL.same {H H' : Hp} {Z : List Hr} (h : HrL H Z) (e : Same H H') : HrL H' Z := fun z hz => ⟨e _ _ (h z hz).1, e _ _ (h z hz).2.1, (h z hz).2.2.same e⟩
def spHs (CS CH : Addr) : Sp := fun vs H Q _ => ∃ (p d : Addr) (A : List Sh), vs = [.ref p] ∧ Stk CS CH H p d A ∧ A.length < 64 ∧ ∀ r (Z : List Hr) H', Same H H' → H r = none → H' r = some (.lst (rfH Z)) → HrL H' Z → (∀ z ∈ Z, H z.2.1 = none) → (∀ z ∈ Z, z.2.1 ≠ r) → (Z.map fun z => (z.2.2.1, z.2.2.2)).Perm (A.map fun x => (x.1, x.2.2.2)) → (Z.map (·.2.2.1)).Pairwise (· ≤ ·) → Q (.ref r) H'
theorem ho_no (m : Str) : m ∈ (["pieces", "front", "behind", "costs", "gains"] : List Str) → m ∈ (["layers", "stop", "start", "firm", "lot"] : List Str) → False := by
 intro h
 simp only [List.mem_cons, List.not_mem_nil, or_false] at h
 rcases h with rfl | rfl | rfl | rfl | rfl <;> decide +kernel
abbrev s_Holding___init__ : Stmt := inClass (top 14) 0
theorem sc_Holding___init__ : FnScope ["self", "lot", "firm", "start", "stop", "layers"] ["self", "lot", "firm", "start", "stop", "layers"] (defScope s_Holding___init__) := ⟨rfl, rfl, rfl, by decide +kernel, rfl, by decide +kernel, by decide +kernel⟩
theorem ok_Holding___init__ {C_Holding : Addr} (D : DefI K C_Holding "Holding.__init__" s_Holding___init__ .none) (z_list : mg "list" = none) (cl_Holding : Cls K C_Holding) (n_hlot : NoAttr K C_Holding "lot") (n_hfirm : NoAttr K C_Holding "firm") (n_hstart : NoAttr K C_Holding "start") (n_hstop : NoAttr K C_Holding "stop") (n_hlayers : NoAttr K C_Holding "layers") : CalI P w K mg base CX0 true 1 C_Holding ["self", "lot", "firm", "start", "stop", "layers"] [] (spHI C_Holding) := by
 obtain ⟨f, fd, F, hm⟩ := D
 refine ⟨f, fd, _, F.ok sc_Holding___init__ (fun vs H Q E h => ?_) (fun cdv A outer s H vs Q E hr h => ?_), hm, (F.binds fun _ _ _ _ _ _ us hl => match us, hl with | [_, _, _, _, _, _], _ => rfl), .nil, F.binds fun _ _ _ _ _ _ us hl => match us, hl with | [_, _, _, _, _, _], _ => rfl⟩
 · obtain ⟨p, dx, l0, v, rfl, hp, hl, hL, q⟩ := h
   rfl
 obtain ⟨p, dx, l0, v, rfl, hp, hl, hL, q⟩ := h
 have nd := sc_Holding___init__.nd
 refine ⟨_, (pss_cons (ps_fld (pv 0) (pv 1) rfl)
   (pss_cons (ps_fld (pv 0) (pv 2) rfl)
   (pss_cons (ps_fld (pv 0) (pv 3) rfl)
   (pss_cons (ps_fld (pv 0) (pv 4) rfl)
   (pss_one (ps_fld (pv 0) (pe_callTy call_list_of rfl z_list bt_list (pa_cons (pv 5) pa_nil)) rfl)))))), ?_⟩
 refine ⟨_, rfl, _, rfl, p, C_Holding, dx, [], rfl, hp, cl_Holding, n_hlot, (by show 0 < 1000; decide), ?_⟩
 refine ⟨_, rfl, _, rfl, p, C_Holding, dx, _, rfl, upd_same, cl_Holding, n_hfirm, (by show 1 < 1000; decide), ?_⟩
 refine ⟨_, rfl, _, rfl, p, C_Holding, dx, _, rfl, upd_same, cl_Holding, n_hstart, (by show 2 < 1000; decide), ?_⟩
 refine ⟨_, rfl, _, rfl, p, C_Holding, dx, _, rfl, upd_same, cl_Holding, n_hstop, (by show 3 < 1000; decide), ?_⟩
 have nl0 : l0 ≠ p := ne_of hl hp (by intro w; cases w)
 refine ⟨_, rfl, l0, _, rfl, .inl (SqL.of (by rw [upd_ne nl0, upd_ne nl0, upd_ne nl0, upd_ne nl0]; exact hl)), fun l hlf => ?_⟩
 have npl : p ≠ l := ne_of_none upd_same hlf
 have hln : H l = none := by
   rw [upd_ne (Ne.symm npl), upd_ne (Ne.symm npl), upd_ne (Ne.symm npl), upd_ne (Ne.symm npl)] at hlf
   exact hlf
 refine ⟨_, rfl, p, C_Holding, dx, _, rfl, (by rw [upd_ne npl]; exact upd_same), cl_Holding, n_hlayers, (by show 4 < 1000; decide), ?_⟩
 have keep : ∀ b o, H b = some o → b ≠ p → upd (upd (upd (upd (upd (upd H p (.ins C_Holding dx (putF "lot" (.int v.lot) []))) p (.ins C_Holding dx (putF "firm" (.str v.firm) (putF "lot" (.int v.lot) [])))) p (.ins C_Holding dx (putF "start" (.int v.a) (putF "firm" (.str v.firm) (putF "lot" (.int v.lot) []))))) p (.ins C_Holding dx (putF "stop" (.int v.b) (putF "start" (.int v.a) (putF "firm" (.str v.firm) (putF "lot" (.int v.lot) [])))))) l (.lst (rfy v.L))) p (.ins C_Holding dx (putF "layers" (.ref l) (putF "stop" (.int v.b) (putF "start" (.int v.a) (putF "firm" (.str v.firm) (putF "lot" (.int v.lot) [])))))) b = some o := fun b o hb nb => by
   rw [upd_ne nb, upd_ne (ne_of_none hb hln), upd_ne nb, upd_ne nb, upd_ne nb, upd_ne nb]
   exact hb
 refine q l _ hln (Ne.symm npl) ⟨⟨dx, _, upd_same, ?_, ?_, ?_, ?_, ?_, fun m hm => ?_⟩, ?_, fun z hz => ?_⟩ keep
 · rw [lookup_putF, if_neg (show ¬ (("lot" : Str) = "layers") by decide +kernel), lookup_putF, if_neg (show ¬ (("lot" : Str) = "stop") by decide +kernel), lookup_putF, if_neg (show ¬ (("lot" : Str) = "start") by decide +kernel), lookup_putF, if_neg (show ¬ (("lot" : Str) = "firm") by decide +kernel), lookup_putF, if_pos rfl]
 · rw [lookup_putF, if_neg (show ¬ (("firm" : Str) = "layers") by decide +kernel), lookup_putF, if_neg (show ¬ (("firm" : Str) = "stop") by decide +kernel), lookup_putF, if_neg (show ¬ (("firm" : Str) = "start") by decide +kernel), lookup_putF, if_pos rfl]
 · rw [lookup_putF, if_neg (show ¬ (("start" : Str) = "layers") by decide +kernel), lookup_putF, if_neg (show ¬ (("start" : Str) = "stop") by decide +kernel), lookup_putF, if_pos rfl]
 · rw [lookup_putF, if_neg (show ¬ (("stop" : Str) = "layers") by decide +kernel), lookup_putF, if_pos rfl]
 · rw [lookup_putF, if_pos rfl]
 · rw [lookup_putF, lookup_putF, lookup_putF, lookup_putF, lookup_putF]
   have nn : ∀ x ∈ (["layers", "stop", "start", "firm", "lot"] : List Str), ¬ m = x := fun x hx z => by
     subst z
     revert hm hx
     exact ho_no m
   rw [if_neg (nn _ (by simp)), if_neg (nn _ (by simp)), if_neg (nn _ (by simp)), if_neg (nn _ (by simp)), if_neg (nn _ (by simp))]
   rfl
 · rw [upd_ne (Ne.symm npl), upd_same]
 · have a := hL z hz
   unfold tupY at a ⊢
   exact keep _ _ a (ne_of a hp (by intro w; cases w))
abbrev s_Holding_pieces : Stmt := inClass (top 14) 1
theorem sc_Holding_pieces : FnScope ["self"] ["self"] (defScope s_Holding_pieces) := ⟨rfl, rfl, rfl, by decide +kernel, rfl, by decide +kernel, by decide +kernel⟩
theorem ok_Holding_pieces {C_Holding : Addr} (D : DefM K C_Holding "pieces" "Holding.pieces" s_Holding_pieces .none) (cl_Holding : Cls K C_Holding) (n_hlot : NoAttr K C_Holding "lot") (n_hfirm : NoAttr K C_Holding "firm") (n_hstart : NoAttr K C_Holding "start") (n_hstop : NoAttr K C_Holding "stop") (n_hlayers : NoAttr K C_Holding "layers") : CalM P w K mg base CX0 cm 1 C_Holding "pieces" ["self"] [] (spHP C_Holding) := by
 obtain ⟨f, fd, F, hm⟩ := D
 refine ⟨f, fd, _, F.ok sc_Holding_pieces (fun vs H Q E h => ?_) (fun cdv A outer s H vs Q E hr h => ?_), hm, (F.binds fun _ _ _ _ _ _ us hl => match us, hl with | [_], _ => rfl), .nil, F.binds fun _ _ _ _ _ _ us hl => match us, hl with | [_], _ => rfl⟩
 · obtain ⟨p, l, v, rfl, ho, q⟩ := h
   rfl
 obtain ⟨p, l, v, rfl, ho, q⟩ := h
 have nd := sc_Holding_pieces.nd
 refine ⟨_, (pss_one (ps_ret (pe_op op_sub (pe_fld (pv 0) rfl) (pe_fld (pv 0) rfl)))), ?_⟩
 obtain ⟨⟨dx, fs, hp, hlot, hfirm, hstart, hstop, hlayers, hno⟩, hl, hL⟩ := ho
 exact ⟨_, rfl, p, C_Holding, dx, fs, _, rfl, hp, cl_Holding, n_hstop, hstop, _, rfl, p, C_Holding, dx, fs, _, rfl, hp, cl_Holding, n_hstart, hstart, _, _, rfl, rfl, q⟩
abbrev s_Holding_front : Stmt := inClass (top 14) 2
theorem sc_Holding_front : FnScope ["self", "many"] ["self", "many"] (defScope s_Holding_front) := ⟨rfl, rfl, rfl, by decide +kernel, rfl, by decide +kernel, by decide +kernel⟩
theorem ok_Holding_front {C_Holding : Addr} (D : DefM K C_Holding "front" "Holding.front" s_Holding_front .none) (z_list : mg "list" = none) (cl_Holding : Cls K C_Holding) (n_hlot : NoAttr K C_Holding "lot") (n_hfirm : NoAttr K C_Holding "firm") (n_hstart : NoAttr K C_Holding "start") (n_hstop : NoAttr K C_Holding "stop") (n_hlayers : NoAttr K C_Holding "layers") : CalM P w K mg base CX0 true 1 C_Holding "front" ["self", "many"] [] (spHF C_Holding) := by
 obtain ⟨f, fd, F, hm⟩ := D
 refine ⟨f, fd, _, F.ok sc_Holding_front (fun vs H Q E h => ?_) (fun cdv A outer s H vs Q E hr h => ?_), hm, (F.binds fun _ _ _ _ _ _ us hl => match us, hl with | [_, _], _ => rfl), .nil, F.binds fun _ _ _ _ _ _ us hl => match us, hl with | [_, _], _ => rfl⟩
 · obtain ⟨p, l, v, k, rfl, ho, q⟩ := h
   rfl
 obtain ⟨p, l, v, k, rfl, ho, q⟩ := h
 have nd := sc_Holding_front.nd
 refine ⟨_, (pss_one (ps_ret (pe_tup (pa_cons (pe_fld (pv 0) rfl) (pa_cons (pe_fld (pv 0) rfl) (pa_cons (pe_op op_add (pe_fld (pv 0) rfl) (pv 1)) (pa_cons (pe_callTy call_list_of rfl z_list bt_list (pa_cons (pe_fld (pv 0) rfl) pa_nil)) pa_nil))))))), ?_⟩
 obtain ⟨⟨dx, fs, hp, hlot, hfirm, hstart, hstop, hlayers, hno⟩, hl, hL⟩ := ho
 refine ⟨_, rfl, p, C_Holding, dx, fs, _, rfl, hp, cl_Holding, n_hlot, hlot, _, rfl, p, C_Holding, dx, fs, _, rfl, hp, cl_Holding, n_hstart, hstart, _, rfl, p, C_Holding, dx, fs, _, rfl, hp, cl_Holding, n_hstart, hstart, _, rfl, _, _, rfl, rfl, _, rfl, p, C_Holding, dx, fs, _, rfl, hp, cl_Holding, n_hlayers, hlayers, l, _, rfl, .inl (SqL.of hl), fun l' hl' => ⟨(by show 4 ≤ sizeLine; decide), fun t ht => ?_⟩⟩
 have e1 := same_upd (o := .lst (rfy v.L)) hl'
 have e2 := same_upd (o := .tup [.int v.lot, .int v.a, .int (v.a + k), .ref l']) ht
 exact q l' t _ (e1.trans e2) hl' (e2 _ _ upd_same) upd_same
abbrev s_Holding_behind : Stmt := inClass (top 14) 3
theorem sc_Holding_behind : FnScope ["self", "many"] ["self", "many"] (defScope s_Holding_behind) := ⟨rfl, rfl, rfl, by decide +kernel, rfl, by decide +kernel, by decide +kernel⟩
theorem ok_Holding_behind {C_Holding : Addr} (D : DefM K C_Holding "behind" "Holding.behind" s_Holding_behind .none) (c_Holding___init__ : CalI P w K mg base CX0 true 1 C_Holding ["self", "lot", "firm", "start", "stop", "layers"] [] (spHI C_Holding)) (m_Holding : mg "Holding" = some (.ref C_Holding)) (cl_Holding : Cls K C_Holding) (n_hlot : NoAttr K C_Holding "lot") (n_hfirm : NoAttr K C_Holding "firm") (n_hstart : NoAttr K C_Holding "start") (n_hstop : NoAttr K C_Holding "stop") (n_hlayers : NoAttr K C_Holding "layers") : CalM P w K mg base CX0 true 3 C_Holding "behind" ["self", "many"] [] (spHB C_Holding) := by
 obtain ⟨f, fd, F, hm⟩ := D
 obtain ⟨f_Holding___init__, fd_Holding___init__, d_Holding___init__, G_Holding___init__, M_Holding, b_Holding___init__, v_Holding___init__, b_Holding___init__1⟩ := c_Holding___init__
 refine ⟨f, fd, _, F.ok sc_Holding_behind (fun vs H Q E h => ?_) (fun cdv A outer s H vs Q E hr h => ?_), hm, (F.binds fun _ _ _ _ _ _ us hl => match us, hl with | [_, _], _ => rfl), .nil, F.binds fun _ _ _ _ _ _ us hl => match us, hl with | [_, _], _ => rfl⟩
 · obtain ⟨p, l, v, k, rfl, ho, q⟩ := h
   rfl
 obtain ⟨p, l, v, k, rfl, ho, q⟩ := h
 have nd := sc_Holding_behind.nd
 refine ⟨_, (pss_one (ps_ret (pe_make M_Holding G_Holding___init__ (hr.mono (by decide)) rfl m_Holding b_Holding___init__ Paired.nil pass0 (pa_cons (pe_fld (pv 0) rfl) (pa_cons (pe_fld (pv 0) rfl) (pa_cons (pe_op op_add (pe_fld (pv 0) rfl) (pv 1)) (pa_cons (pe_fld (pv 0) rfl) (pa_cons (pe_fld (pv 0) rfl) pa_nil)))))))), ?_⟩
 obtain ⟨⟨dx, fs, hp, hlot, hfirm, hstart, hstop, hlayers, hno⟩, hl, hL⟩ := ho
 refine ⟨_, rfl, p, C_Holding, dx, fs, _, rfl, hp, cl_Holding, n_hlot, hlot, _, rfl, p, C_Holding, dx, fs, _, rfl, hp, cl_Holding, n_hfirm, hfirm, _, rfl, p, C_Holding, dx, fs, _, rfl, hp, cl_Holding, n_hstart, hstart, _, rfl, _, _, rfl, rfl, _, rfl, p, C_Holding, dx, fs, _, rfl, hp, cl_Holding, n_hstop, hstop, _, rfl, p, C_Holding, dx, fs, _, rfl, hp, cl_Holding, n_hlayers, hlayers, fun p1 dx1 hp0 hdx hne => ⟨p1, dx1, l, { v with a := v.a + k }, rfl, upd_same, ?_, ?_, fun l1 H1 hl1 hlp HA k2 => ⟨rfl, ?_⟩⟩⟩
 · rw [upd_ne (ne_of_none hl hp0), upd_ne (ne_of_none hl hdx)]
   exact hl
 · intro z hz
   rw [upd_ne (ne_of_none (hL z hz) hp0), upd_ne (ne_of_none (hL z hz) hdx)]
   exact hL z hz
 have k3 : Same H H1 := fun b o hb => by
   have nb1 : b ≠ p1 := ne_of_none hb hp0
   have nb2 : b ≠ dx1 := ne_of_none hb hdx
   exact k2 b o (by rw [upd_ne nb1, upd_ne nb2]; exact hb) nb1
 exact q p1 l1 H1 k3 (fr_of hl1 hp0 hdx) HA
abbrev s_Stock___init__ : Stmt := inClass (top 15) 0
theorem sc_Stock___init__ : FnScope ["self"] ["self"] (defScope s_Stock___init__) := ⟨rfl, rfl, rfl, by decide +kernel, rfl, by decide +kernel, by decide +kernel⟩
theorem ok_Stock___init__ {C_Stock : Addr} (D : DefI K C_Stock "Stock.__init__" s_Stock___init__ .none) {C_Holding : Addr} (cl_Stock : Cls K C_Stock) (n_sly : NoAttr K C_Stock "lying") (cl_Holding : Cls K C_Holding) : CalI P w K mg base CX0 true 1 C_Stock ["self"] [] (spSI C_Stock C_Holding) := by
 obtain ⟨f, fd, F, hm⟩ := D
 refine ⟨f, fd, _, F.ok sc_Stock___init__ (fun vs H Q E h => ?_) (fun cdv A outer s H vs Q E hr h => ?_), hm, (F.binds fun _ _ _ _ _ _ us hl => match us, hl with | [_], _ => rfl), .nil, F.binds fun _ _ _ _ _ _ us hl => match us, hl with | [_], _ => rfl⟩
 · obtain ⟨p, dx, rfl, hp, q⟩ := h
   rfl
 obtain ⟨p, dx, rfl, hp, q⟩ := h
 have nd := sc_Stock___init__.nd
 refine ⟨_, (pss_one (ps_fld (pv 0) pe_dnewK rfl)), ?_⟩
 refine fun d hd => ?_
 have npd : p ≠ d := ne_of_none hp hd
 refine ⟨_, rfl, p, C_Stock, dx, _, rfl, (by rw [upd_ne npd]; exact hp), cl_Stock, n_sly, (by show 0 < 1000; decide), ?_⟩
 refine q d _ hd (Ne.symm npd) ⟨⟨dx, _, upd_same, (by rw [lookup_putF, if_pos rfl]), fun m hm => ?_⟩, ?_, (fun x hx => nomatch hx), List.nodup_nil⟩ (fun b o hb nb => ?_) ⟨dx, _, upd_same, Nat.le_refl 1⟩
 · rw [lookup_putF]
   have nn : ¬ m = ("lying" : Str) := fun z => by
     subst z
     exact absurd hm (by decide +kernel)
   rw [if_neg nn]
   rfl
 · rw [upd_ne (Ne.symm npd), upd_same]
   rfl
 · rw [upd_ne nb, upd_ne (ne_of_none hb hd)]
   exact hb
inductive Rf where
 | bad (k : Int)
 | gds (n : Int)
 | few (n k : Int)
def rF : Rf → List (Str × V)
 | .bad k => putF "amount" (.int k) []
 | .gds n => putF "holding" (.int n) []
 | .few n k => putF "lack" (.int k) (putF "holding" (.int n) [])
def rC (CB CG CT : Addr) : Rf → Addr
 | .bad _ => CB
 | .gds _ => CG
 | .few _ _ => CT
def rU : Rf → List V
 | .bad k => [.str "amount", .int k]
 | .gds n => [.str "goods", .int n]
 | .few n k => [.str "few", .int n, .int k]
def vv (v : Hv) : Int × Str × Int × Int × List (Str × Int × Int × Int) := (v.lot, v.firm, v.a, v.b, v.L.map (·.2))
def vw (x : Sh) : Int × Int × Str × Int × Int × List (Str × Int × Int × Int) := (x.1, vv x.2.2.2)
abbrev Vw := Int × Int × Str × Int × Int × List (Str × Int × Int × Int)
def lkV (A : List Sh) (n : Int) : Option (Int × Str × Int × Int × List (Str × Int × Int × Int)) := ((A.map vw).find? fun w => decide (w.1 = n)).map (·.2)
theorem lk_mem {A : List Sh} {n : Int} {q l : Addr} {v : Hv} (nd : (A.map (·.1)).Nodup) (h : (n, q, l, v) ∈ A) : lkV A n = some (vv v) := by
 unfold lkV
 induction A with
 | nil => cases h
 | cons y r ih =>
   rw [List.map_cons, List.nodup_cons] at nd
   rw [List.map_cons, List.find?_cons]
   rcases List.mem_cons.mp h with w | w
   · rw [← w]
     have e : decide ((vw (n, q, l, v)).1 = n) = true := decide_eq_true rfl
     rw [e]
     rfl
   · have e : decide ((vw y).1 = n) = false := decide_eq_false fun z => nd.1 (by
       have z2 : y.1 = n := z
       rw [z2]
       exact List.mem_map.mpr ⟨_, w, rfl⟩)
     rw [e]
     exact ih nd.2 w
theorem lk_no {A : List Sh} {n : Int} (h : ¬ ∃ x ∈ A, x.1 = n) : lkV A n = none := by
 unfold lkV
 rw [List.find?_eq_none.mpr]
 · rfl
 · intro w hw z
   obtain ⟨x, hx, rfl⟩ := List.mem_map.mp hw
   exact h ⟨x, hx, of_decide_eq_true z⟩
theorem kvA_no {A : List Sh} {n : Int} (h : ¬ ∃ x ∈ A, x.1 = n) : valV (kvA A) (Sum.inl n) = none := by
 induction A with
 | nil => rfl
 | cons y r ih =>
   show valV ((Sum.inl y.1, V.ref y.2.1) :: kvA r) (Sum.inl n) = _
   rw [valV_neg (fun z => h ⟨y, List.mem_cons_self, Sum.inl.inj z⟩)]
   exact ih fun ⟨x, hx, e⟩ => h ⟨x, List.mem_cons_of_mem _ hx, e⟩
def rfT (A : List Sh) (n : Int) (f : Str) (k : Int) : Option Rf := if k < 1 then some (.bad k) else match lkV A n with
 | none => some (.gds n)
 | some u => if u.2.1 = f then (if u.2.2.2.1 - u.2.2.1 < k then some (.few n (k - (u.2.2.2.1 - u.2.2.1))) else none) else some (.gds n)
theorem rf_bad {A : List Sh} {n k : Int} {f : Str} (h : k < 1) : rfT A n f k = some (.bad k) := if_pos h
theorem rf_no {A : List Sh} {n k : Int} {f : Str} (h : ¬ k < 1) (hl : lkV A n = none) : rfT A n f k = some (.gds n) := by
 unfold rfT
 rw [if_neg h, hl]
theorem rf_gds {A : List Sh} {n k : Int} {f : Str} {v : Hv} (h : ¬ k < 1) (hl : lkV A n = some (vv v)) (hf : ¬ v.firm = f) : rfT A n f k = some (.gds n) := by
 unfold rfT
 rw [if_neg h, hl]
 exact if_neg hf
theorem rf_few {A : List Sh} {n k : Int} {f : Str} {v : Hv} (h : ¬ k < 1) (hl : lkV A n = some (vv v)) (hf : v.firm = f) (hk : v.b - v.a < k) : rfT A n f k = some (.few n (k - (v.b - v.a))) := by
 unfold rfT
 rw [if_neg h, hl]
 exact (if_pos hf).trans (if_pos hk)
theorem rf_ok {A : List Sh} {n k : Int} {f : Str} {v : Hv} (h : ¬ k < 1) (hl : lkV A n = some (vv v)) (hf : v.firm = f) (hk : ¬ v.b - v.a < k) : rfT A n f k = none := by
 unfold rfT
 rw [if_neg h, hl]
 exact (if_pos hf).trans (if_neg hk)
def spX1 (C : Addr) (fl : Str) : Sp := fun vs H Q _ => ∃ (x : Addr) (u0 : V), vs = [.ref x, u0] ∧ H x = some (bareO x (.ref C) none) ∧ ∀ d H', H d = none → d ≠ x → H' d = some (.xd (putF fl u0 [])) → H' x = some (bareO x (.ref C) (some d)) → (∀ y o, H y = some o → y ≠ x → H' y = some o) → Q .non H'
def spX2 (C : Addr) : Sp := fun vs H Q _ => ∃ (x : Addr) (u0 u1 : V), vs = [.ref x, u0, u1] ∧ H x = some (bareO x (.ref C) none) ∧ ∀ d H', H d = none → d ≠ x → H' d = some (.xd (putF "lack" u1 (putF "holding" u0 []))) → H' x = some (bareO x (.ref C) (some d)) → (∀ y o, H y = some o → y ≠ x → H' y = some o) → Q .non H'
theorem after_x {H H' : Hp} {x : Addr} {o : HO} (hx0 : H x = none) (keep : ∀ y o', upd H x o y = some o' → y ≠ x → H' y = some o') : Same H (fun b => if b = x then none else H' b) := fun b o' hb => by
 have n := ne_of_none hb hx0
 show (if b = x then none else H' b) = some o'
 rw [if_neg n]
 exact keep b o' (by rw [upd_ne n]; exact hb) n
def RfE (CB CG CT : Addr) (H : Hp) (o : Option Rf) (E : XK) : Prop := ∀ r, o = some r → ∀ e H', Same H H' → H' e = some (.xd (rF r)) → E (.ref (rC CB CG CT r)) (some e) H'
def spTkE (CS CH CB CG CT : Addr) : Sp := fun vs H Q E => ∃ (p d : Addr) (A : List Sh) (n k : Int) (f : Str), vs = [.ref p, .int n, .str f, .int k] ∧ Stk CS CH H p d A ∧ RfE CB CG CT H (rfT A n f k) E ∧
 (rfT A n f k = none → ∀ q l v, (n, q, l, v) ∈ A → v.firm = f → 1 ≤ k → k ≤ v.b - v.a → ∀ l' t H', Same H H' → H l' = none → H' l' = some (.lst (rfy v.L)) → H' t = some (.tup [.int v.lot, .int v.a, .int (v.a + k), .ref l']) → Q (.ref t) H')
def spSlE (CS CH CB CG CT : Addr) : Sp := fun vs H Q E => ∃ (p d : Addr) (A : List Sh) (n k : Int) (f : Str), vs = [.ref p, .int n, .str f, .int k] ∧ Stk CS CH H p d A ∧ A.length ≤ 1000 ∧ RfE CB CG CT H (rfT A n f k) E ∧
 (rfT A n f k = none → ∀ q l v, (n, q, l, v) ∈ A → v.firm = f → 1 ≤ k → k ≤ v.b - v.a → ∀ l' t q' l2 H', Kd d H H' → H l' = none → H' l' = some (.lst (rfy v.L)) → RY H' v.L → H' t = some (.tup [.int v.lot, .int v.a, .int (v.a + k), .ref l']) → H l2 = none → l2 ≠ l' → Stk CS CH H' p d (soldA A n k v q' l2) → Q (.ref t) H')
def spHdE (CS CH CB CG CT : Addr) : Sp := fun vs H Q E => ∃ (p d : Addr) (A : List Sh) (n k c new : Int) (f s : Str), vs = [.ref p, .int n, .str f, .int k, .str s, .int c, .int new] ∧ Stk CS CH H p d A ∧ A.length ≤ 1000 ∧ (∀ x ∈ A, x.2.2.2.L.length ≤ 1000) ∧ RfE CB CG CT H (rfT A n f k) E ∧
 (rfT A n f k = none → ∀ q l v, (n, q, l, v) ∈ A → v.firm = f → 1 ≤ k → k ≤ v.b - v.a → ∀ l' t q' l2 q3 l3 y H', Kd d H H' → H l' = none → H' l' = some (.lst (rfy v.L)) → RY H' v.L → H' t = some (.tup [.int v.lot, .int v.a, .int (v.a + k), .ref l']) → H l2 = none → H l3 = none → l2 ≠ l' → l3 ≠ l' → Stk CS CH H' p d (putA (soldA A n k v q' l2) new (q3, l3, ⟨v.lot, s, v.a, v.a + k, v.L ++ [(y, s, c, v.a, v.a + k)]⟩)) → Q (.ref t) H')
def spBrE (CS CH CB : Addr) : Sp := fun vs H Q E => ∃ (p d : Addr) (A : List Sh) (n c m : Int) (f : Str), vs = [.ref p, .int n, .str f, .int c, .int m] ∧ Stk CS CH H p d A ∧ A.length ≤ 1000 ∧ (m < 1 → ∀ e H', Same H H' → H' e = some (.xd (rF (.bad m))) → E (.ref CB) (some e) H') ∧ (1 ≤ m → ∀ q l y H', Kd d H H' → H l = none → Stk CS CH H' p d (putA A n (q, l, ⟨n, f, 0, m, [(y, f, c, 0, m)]⟩)) → Q .non H')
abbrev s_BadAmount__init__ : Stmt := inClass (top 4) 0
theorem sc_BadAmount__init__ : FnScope ["self", "amount"] ["self", "amount"] (defScope s_BadAmount__init__) := ⟨rfl, rfl, rfl, by decide +kernel, rfl, by decide +kernel, by decide +kernel⟩
theorem ok_BadAmount__init__ {C_BadAmount : Addr} (X_BadAmount : XCls K C_BadAmount) (n_BadAmountamount : NoAttr K C_BadAmount "amount") (D : DefX K C_BadAmount "BadAmount.__init__" s_BadAmount__init__) : CalX P w K mg base true 1 C_BadAmount ["self", "amount"] (spX1 C_BadAmount "amount") := by
 obtain ⟨f, fd, F, hfi, hfn⟩ := D
 refine ⟨f, fd, hfi, hfn, F.ok sc_BadAmount__init__ (fun vs H Q E h => ?_) (fun cdv A outer s H vs Q E hr h => ?_), (F.binds fun _ _ _ _ _ _ us hl => match us, hl with | [_, _], _ => rfl)⟩
 · obtain ⟨x, u0, rfl, hx, q⟩ := h
   rfl
 obtain ⟨x, u0, rfl, hx, q⟩ := h
 have nd := sc_BadAmount__init__.nd
 refine ⟨_, (pss_one (ps_fldB (pv 0) (pv 1) rfl)), ?_⟩
 refine ⟨_, rfl, _, rfl, x, C_BadAmount, rfl, X_BadAmount, n_BadAmountamount, .inl ⟨hx, fun d hd hdx => ?_⟩⟩
 refine q d _ hd hdx (by rw [upd_ne hdx]; exact upd_same) upd_same fun y o hy hyx => ?_
 have hyd : y ≠ d := ne_of_none hy hd
 rw [upd_ne hyx, upd_ne hyd]
 exact hy
abbrev s_NoGoods__init__ : Stmt := inClass (top 5) 0
theorem sc_NoGoods__init__ : FnScope ["self", "holding"] ["self", "holding"] (defScope s_NoGoods__init__) := ⟨rfl, rfl, rfl, by decide +kernel, rfl, by decide +kernel, by decide +kernel⟩
theorem ok_NoGoods__init__ {C_NoGoods : Addr} (X_NoGoods : XCls K C_NoGoods) (n_NoGoodsholding : NoAttr K C_NoGoods "holding") (D : DefX K C_NoGoods "NoGoods.__init__" s_NoGoods__init__) : CalX P w K mg base true 1 C_NoGoods ["self", "holding"] (spX1 C_NoGoods "holding") := by
 obtain ⟨f, fd, F, hfi, hfn⟩ := D
 refine ⟨f, fd, hfi, hfn, F.ok sc_NoGoods__init__ (fun vs H Q E h => ?_) (fun cdv A outer s H vs Q E hr h => ?_), (F.binds fun _ _ _ _ _ _ us hl => match us, hl with | [_, _], _ => rfl)⟩
 · obtain ⟨x, u0, rfl, hx, q⟩ := h
   rfl
 obtain ⟨x, u0, rfl, hx, q⟩ := h
 have nd := sc_NoGoods__init__.nd
 refine ⟨_, (pss_one (ps_fldB (pv 0) (pv 1) rfl)), ?_⟩
 refine ⟨_, rfl, _, rfl, x, C_NoGoods, rfl, X_NoGoods, n_NoGoodsholding, .inl ⟨hx, fun d hd hdx => ?_⟩⟩
 refine q d _ hd hdx (by rw [upd_ne hdx]; exact upd_same) upd_same fun y o hy hyx => ?_
 have hyd : y ≠ d := ne_of_none hy hd
 rw [upd_ne hyx, upd_ne hyd]
 exact hy
abbrev s_TooFew__init__ : Stmt := inClass (top 6) 0
theorem sc_TooFew__init__ : FnScope ["self", "holding", "lack"] ["self", "holding", "lack"] (defScope s_TooFew__init__) := ⟨rfl, rfl, rfl, by decide +kernel, rfl, by decide +kernel, by decide +kernel⟩
theorem ok_TooFew__init__ {C_TooFew : Addr} (X_TooFew : XCls K C_TooFew) (n_TooFewholding : NoAttr K C_TooFew "holding") (n_TooFewlack : NoAttr K C_TooFew "lack") (D : DefX K C_TooFew "TooFew.__init__" s_TooFew__init__) : CalX P w K mg base true 1 C_TooFew ["self", "holding", "lack"] (spX2 C_TooFew) := by
 obtain ⟨f, fd, F, hfi, hfn⟩ := D
 refine ⟨f, fd, hfi, hfn, F.ok sc_TooFew__init__ (fun vs H Q E h => ?_) (fun cdv A outer s H vs Q E hr h => ?_), (F.binds fun _ _ _ _ _ _ us hl => match us, hl with | [_, _, _], _ => rfl)⟩
 · obtain ⟨x, u0, u1, rfl, hx, q⟩ := h
   rfl
 obtain ⟨x, u0, u1, rfl, hx, q⟩ := h
 have nd := sc_TooFew__init__.nd
 refine ⟨_, (pss_cons (ps_fldB (pv 0) (pv 1) rfl)
   (pss_one (ps_fldB (pv 0) (pv 2) rfl))), ?_⟩
 refine ⟨_, rfl, _, rfl, x, C_TooFew, rfl, X_TooFew, n_TooFewholding, .inl ⟨hx, fun d hd hdx => ?_⟩⟩
 refine ⟨_, rfl, _, rfl, x, C_TooFew, rfl, X_TooFew, n_TooFewlack, .inr ⟨d, _, upd_same, (by rw [upd_ne hdx]; exact upd_same), (by show 1 < 1000; decide), ?_⟩⟩
 refine q d _ hd hdx upd_same ?_ fun y o hy hyx => ?_
 · rw [upd_ne (Ne.symm hdx)]
   exact upd_same
 · have hyd : y ≠ d := ne_of_none hy hd
   rw [upd_ne hyd, upd_ne hyx, upd_ne hyd]
   exact hy
abbrev s_Stock_bring : Stmt := inClass (top 15) 1
theorem sc_Stock_bring : FnScope ["self", "number", "firm", "cost", "many"] ["self", "number", "firm", "cost", "many"] (defScope s_Stock_bring) := ⟨rfl, rfl, rfl, by decide +kernel, rfl, by decide +kernel, by decide +kernel⟩
theorem ok_Stock_bring {C_Stock : Addr} (D : DefM K C_Stock "bring" "Stock.bring" s_Stock_bring .none) {C_BadAmount C_Holding : Addr} (c_BadAmount__init__ : CalX P w K mg base true 1 C_BadAmount ["self", "amount"] (spX1 C_BadAmount "amount")) (c_Holding___init__ : CalI P w K mg base CX0 true 1 C_Holding ["self", "lot", "firm", "start", "stop", "layers"] [] (spHI C_Holding)) (m_BadAmount : mg "BadAmount" = some (.ref C_BadAmount)) (m_Holding : mg "Holding" = some (.ref C_Holding)) (X_BadAmount : XCls K C_BadAmount) (cl_Stock : Cls K C_Stock) (n_sly : NoAttr K C_Stock "lying") : CalM P w K mg base (CX1 P w) true 3 C_Stock "bring" ["self", "number", "firm", "cost", "many"] [] (spBrE C_Stock C_Holding C_BadAmount) := by
 obtain ⟨f, fd, F, hm⟩ := D
 obtain ⟨f_BadAmount__init__, fd_BadAmount__init__, i_BadAmount, fn_BadAmount, G_BadAmount__init__, b_BadAmount__init__⟩ := c_BadAmount__init__
 obtain ⟨f_Holding___init__, fd_Holding___init__, d_Holding___init__, G_Holding___init__, M_Holding, b_Holding___init__, v_Holding___init__, b_Holding___init__1⟩ := c_Holding___init__
 refine ⟨f, fd, _, F.okX sc_Stock_bring (fun vs H Q E h => ?_) (fun cdv A outer s H vs Q E hr h => ?_), hm, (F.binds fun _ _ _ _ _ _ us hl => match us, hl with | [_, _, _, _, _], _ => rfl), .nil, F.binds fun _ _ _ _ _ _ us hl => match us, hl with | [_, _, _, _, _], _ => rfl⟩
 · obtain ⟨p, d, A, n, c, m, f, rfl, S, hA, q1, q2⟩ := h
   rfl
 obtain ⟨p, d, A, n, c, m, f, rfl, S, hA, q1, q2⟩ := h
 have nd := sc_Stock_bring.nd
 refine ⟨_, (pss_cons (ps_if (pt_cmpR op_lt (pv 4) pe_int (nomark _)) (pss_one (ps_raiseI rfl xe_def rfl m_BadAmount X_BadAmount i_BadAmount fn_BadAmount G_BadAmount__init__ (hr.mono (by decide)) b_BadAmount__init__ (pa_cons (pv 4) pa_nil))) pss_nil)
   (pss_one (ps_dput (hu_of hr) (pe_fld (pv 0) rfl) (pv 1) (pe_make M_Holding G_Holding___init__ (hr.mono (by decide)) rfl m_Holding b_Holding___init__ Paired.nil pass0 (pa_cons (pv 1) (pa_cons (pv 2) (pa_cons pe_int (pa_cons (pv 4) (pa_cons (pe_lst (pa_cons (pe_tup (pa_cons (pv 2) (pa_cons (pv 3) (pa_cons pe_int (pa_cons (pv 4) pa_nil))))) pa_nil)) pa_nil)))))) rfl))), ?_⟩
 have hline : 10 ^ 6 ≤ sizeLine := by decide
 obtain ⟨dx, fs, hp, hly, hno⟩ := S.ob
 refine ⟨_, rfl, _, _, rfl, rfl, _, rfl, ?_⟩
 refine dec2 (fun h => ⟨_, rfl, (by show 1 ≤ sizeLine; decide), True.intro, fun x hx0 => ⟨x, _, rfl, upd_same, fun e H' hd1 hdx g1 g2 keep => ⟨rfl, some e, g2, q1 h e _ (after_x hx0 keep) (by show (if e = x then none else H' e) = _; rw [if_neg hdx]; exact g1)⟩⟩⟩) (fun hm0 => ?_)
 have hm : 1 ≤ m := by omega
 refine ⟨_, rfl, _, rfl, _, rfl, _, rfl, _, rfl, _, rfl, (by show 4 ≤ sizeLine; decide), fun y hy => ?_⟩
 have e1 := same_upd (o := .tup [.str f, .int c, .int 0, .int m]) hy
 refine ⟨(by show 1 ≤ sizeLine; decide), fun l0 hl0 => ?_⟩
 have e2 := same_upd (o := .lst [.ref y]) hl0
 have hyy : upd (upd H y (.tup [.str f, .int c, .int 0, .int m])) l0 (.lst [.ref y]) y = some (.tup [.str f, .int c, .int 0, .int m]) := e2 _ _ upd_same
 have hll : upd (upd H y (.tup [.str f, .int c, .int 0, .int m])) l0 (.lst [.ref y]) l0 = some (.lst [.ref y]) := upd_same
 have e12 := e1.trans e2
 generalize upd (upd H y (.tup [.str f, .int c, .int 0, .int m])) l0 (.lst [.ref y]) = H1 at e12 hyy hll ⊢
 refine fun p1 dx1 hp0 hdx hne => ⟨p1, dx1, l0, ⟨n, f, 0, m, [(y, f, c, 0, m)]⟩, rfl, upd_same, ?_, ?_, fun l1 H2 hl1 hlp HA k2 => ⟨rfl, ?_⟩⟩
 · rw [upd_ne (ne_of_none hll hp0), upd_ne (ne_of_none hll hdx)]
   exact hll
 · intro z hz
   rw [List.mem_singleton.mp hz]
   rw [upd_ne (ne_of_none hyy hp0), upd_ne (ne_of_none hyy hdx)]
   exact hyy
 have k3 : Same H1 H2 := fun b o hb => by
   have nb1 : b ≠ p1 := ne_of_none hb hp0
   have nb2 : b ≠ dx1 := ne_of_none hb hdx
   exact k2 b o (by rw [upd_ne nb1, upd_ne nb2]; exact hb) nb1
 have e3 := e12.trans k3
 have S2 := S.same e3
 have kl := kvA_len A
 refine ⟨_, rfl, p, C_Stock, dx, fs, _, rfl, e3 _ _ hp, cl_Stock, n_sly, hly, _, rfl, d, _, rfl, DPut.k (k := Sum.inl n) S2.dc (by omega), ?_⟩
 exact q2 hm p1 l1 y _ ((Kd.of e3).trans Kd.upd) (e12.free (fr_of hl1 hp0 hdx)) (S2.put HA n)
abbrev s_Stock_taken : Stmt := inClass (top 15) 2
theorem sc_Stock_taken : FnScope ["self", "number", "firm", "many", "lack"] ["self", "number", "firm", "many"] (defScope s_Stock_taken) := ⟨rfl, rfl, rfl, by decide +kernel, rfl, by decide +kernel, by decide +kernel⟩
theorem ok_Stock_taken {C_Stock : Addr} (D : DefM K C_Stock "taken" "Stock.taken" s_Stock_taken .none) {C_BadAmount C_Holding C_NoGoods C_TooFew : Addr} (c_BadAmount__init__ : CalX P w K mg base true 1 C_BadAmount ["self", "amount"] (spX1 C_BadAmount "amount")) (c_NoGoods__init__ : CalX P w K mg base true 1 C_NoGoods ["self", "holding"] (spX1 C_NoGoods "holding")) (c_Holding_pieces : CalM P w K mg base CX0 true 1 C_Holding "pieces" ["self"] [] (spHP C_Holding)) (c_TooFew__init__ : CalX P w K mg base true 1 C_TooFew ["self", "holding", "lack"] (spX2 C_TooFew)) (c_Holding_front : CalM P w K mg base CX0 true 1 C_Holding "front" ["self", "many"] [] (spHF C_Holding)) (m_BadAmount : mg "BadAmount" = some (.ref C_BadAmount)) (m_NoGoods : mg "NoGoods" = some (.ref C_NoGoods)) (m_TooFew : mg "TooFew" = some (.ref C_TooFew)) (X_BadAmount : XCls K C_BadAmount) (X_NoGoods : XCls K C_NoGoods) (X_TooFew : XCls K C_TooFew) (cl_Stock : Cls K C_Stock) (n_sly : NoAttr K C_Stock "lying") (cl_Holding : Cls K C_Holding) (n_hfirm : NoAttr K C_Holding "firm") : CalM P w K mg base (CX1 P w) true 3 C_Stock "taken" ["self", "number", "firm", "many"] [] (spTkE C_Stock C_Holding C_BadAmount C_NoGoods C_TooFew) := by
 obtain ⟨f, fd, F, hm⟩ := D
 obtain ⟨f_BadAmount__init__, fd_BadAmount__init__, i_BadAmount, fn_BadAmount, G_BadAmount__init__, b_BadAmount__init__⟩ := c_BadAmount__init__
 obtain ⟨f_NoGoods__init__, fd_NoGoods__init__, i_NoGoods, fn_NoGoods, G_NoGoods__init__, b_NoGoods__init__⟩ := c_NoGoods__init__
 obtain ⟨f_Holding_pieces, fd_Holding_pieces, d_Holding_pieces, G_Holding_pieces, m_Holding_pieces, b_Holding_pieces, v_Holding_pieces, b_Holding_pieces1⟩ := c_Holding_pieces
 obtain ⟨f_TooFew__init__, fd_TooFew__init__, i_TooFew, fn_TooFew, G_TooFew__init__, b_TooFew__init__⟩ := c_TooFew__init__
 obtain ⟨f_Holding_front, fd_Holding_front, d_Holding_front, G_Holding_front, m_Holding_front, b_Holding_front, v_Holding_front, b_Holding_front1⟩ := c_Holding_front
 refine ⟨f, fd, _, F.okX sc_Stock_taken (fun vs H Q E h => ?_) (fun cdv A outer s H vs Q E hr h => ?_), hm, (F.binds fun _ _ _ _ _ _ us hl => match us, hl with | [_, _, _, _], _ => rfl), .nil, F.binds fun _ _ _ _ _ _ us hl => match us, hl with | [_, _, _, _], _ => rfl⟩
 · obtain ⟨p, d, A, n, k, f, rfl, S, q1, q2⟩ := h
   rfl
 obtain ⟨p, d, A, n, k, f, rfl, S, q1, q2⟩ := h
 have nd := sc_Stock_taken.nd
 refine ⟨_, (pss_cons (ps_if (pt_cmpR op_lt (pv 3) pe_int (nomark _)) (pss_one (ps_raiseI rfl xe_def rfl m_BadAmount X_BadAmount i_BadAmount fn_BadAmount G_BadAmount__init__ (hr.mono (by decide)) b_BadAmount__init__ (pa_cons (pv 3) pa_nil))) pss_nil)
   (pss_cons (ps_if (PW.pt (pw_or (pt_cmp (pc_dnotin (hu_of hr) (pv 1) (pe_fld (pv 0) rfl))) (pw_or1 (pt_cmpR op_ne (pe_fld (pe_dget (hu_of hr) (pe_fld (pv 0) rfl) (pv 1) (fun _ _ => rfl)) rfl) (pv 2) (nomark _))))) (pss_one (ps_raiseI rfl xe_def rfl m_NoGoods X_NoGoods i_NoGoods fn_NoGoods G_NoGoods__init__ (hr.mono (by decide)) b_NoGoods__init__ (pa_cons (pv 1) pa_nil))) pss_nil)
   (pss_cons (ps_set (i := 4) nd rfl (Or.inl rfl) (pe_op op_sub (pv 3) (pe_meth0 (pe_dget (hu_of hr) (pe_fld (pv 0) rfl) (pv 1) (fun _ _ => rfl)) cl_Holding m_Holding_pieces G_Holding_pieces (hr.mono (by decide)) b_Holding_pieces Paired.nil pass0)))
   (pss_cons (ps_if (pt_cmpR op_gt (pv 4) pe_int (nomark _)) (pss_one (ps_raiseI rfl xe_def rfl m_TooFew X_TooFew i_TooFew fn_TooFew G_TooFew__init__ (hr.mono (by decide)) b_TooFew__init__ (pa_cons (pv 1) (pa_cons (pv 4) pa_nil)))) pss_nil)
   (pss_one (ps_ret (pe_meth (pe_dget (hu_of hr) (pe_fld (pv 0) rfl) (pv 1) (fun _ _ => rfl)) cl_Holding m_Holding_front G_Holding_front (hr.mono (by decide)) b_Holding_front Paired.nil pass0 (pa_cons (pv 3) pa_nil)))))))), ?_⟩
 obtain ⟨dx, fs, hp, hly, hno⟩ := S.ob
 refine ⟨_, rfl, _, _, rfl, rfl, _, rfl, ?_⟩
 refine dec2 (fun h => ?_) (fun h => ?_)
 · exact ⟨_, rfl, (by show 1 ≤ sizeLine; decide), True.intro, fun x hx0 => ⟨x, _, rfl, upd_same, fun e H' hd1 hdx g1 g2 keep => ⟨rfl, some e, g2, q1 (.bad k) (rf_bad h) e _ (after_x hx0 keep) (by show (if e = x then none else H' e) = _; rw [if_neg hdx]; exact g1)⟩⟩⟩
 by_cases hm : ∃ x ∈ A, x.1 = n
 · obtain ⟨⟨n', q0, l, v⟩, hm, hn⟩ := hm
   obtain rfl : n' = n := hn
   have hlk := lk_mem S.nd hm
   obtain ⟨⟨dx1, fs1, hq, hlot, hfirm, hstart, hstop, hlayers, hno1⟩, hl, hL⟩ := S.ho _ hm
   have hG : DGet H d (.int n') (some (.ref q0)) := kvA_val S.nd hm ▸ DGet.k (k := Sum.inl n') S.dc
   refine ⟨_, rfl, _, rfl, p, C_Stock, dx, fs, _, rfl, hp, cl_Stock, n_sly, hly, d, _, rfl, hG, false, rfl, iteF ?_⟩
   refine ⟨_, rfl, p, C_Stock, dx, fs, _, rfl, hp, cl_Stock, n_sly, hly, _, rfl, d, _, rfl, hG, q0, C_Holding, dx1, fs1, _, rfl, hq, cl_Holding, n_hfirm, hfirm, _, rfl, rfl, _, rfl, ?_⟩
   refine ndec2 (fun hf => ?_) (fun hf => ?_)
   · have hf : ¬ v.firm = f := fun z => hf (congrArg V.str z)
     exact ⟨_, rfl, (by show 1 ≤ sizeLine; decide), True.intro, fun x hx0 => ⟨x, _, rfl, upd_same, fun e H' hd1 hdx g1 g2 keep => ⟨rfl, some e, g2, q1 (.gds n') (rf_gds h hlk hf) e _ (after_x hx0 keep) (by show (if e = x then none else H' e) = _; rw [if_neg hdx]; exact g1)⟩⟩⟩
   have hf : v.firm = f := V.str.inj hf
   refine ⟨_, rfl, _, rfl, p, C_Stock, dx, fs, _, rfl, hp, cl_Stock, n_sly, hly, _, rfl, d, _, rfl, hG, q0, dx1, fs1, rfl, hq, hno1 "pieces" (by decide +kernel), q0, l, v, rfl, S.ho _ hm, _, _, rfl, rfl, ?_⟩
   refine ⟨_, rfl, _, _, rfl, rfl, _, rfl, ?_⟩
   refine dec2 (fun h2 => ?_) (fun h2 => ?_)
   · exact ⟨_, rfl, _, rfl, (by show 2 ≤ sizeLine; decide), True.intro, fun x hx0 => ⟨x, _, _, rfl, upd_same, fun e H' hd1 hdx g1 g2 keep => ⟨rfl, some e, g2, q1 (.few n' (k - (v.b - v.a))) (rf_few h hlk hf (by omega)) e _ (after_x hx0 keep) (by show (if e = x then none else H' e) = _; rw [if_neg hdx]; exact g1)⟩⟩⟩
   · exact ⟨_, rfl, p, C_Stock, dx, fs, _, rfl, hp, cl_Stock, n_sly, hly, _, rfl, d, _, rfl, hG, q0, dx1, fs1, rfl, hq, hno1 "front" (by decide +kernel), _, rfl, q0, l, v, k, rfl, S.ho _ hm, q2 (rf_ok h hlk hf (by omega)) q0 l v hm hf (by omega) (by omega)⟩
 have hG : DGet H d (.int n) none := kvA_no hm ▸ DGet.k (k := Sum.inl n) S.dc
 refine ⟨_, rfl, _, rfl, p, C_Stock, dx, fs, _, rfl, hp, cl_Stock, n_sly, hly, d, _, rfl, hG, true, rfl, iteT ?_⟩
 exact ⟨_, rfl, (by show 1 ≤ sizeLine; decide), True.intro, fun x hx0 => ⟨x, _, rfl, upd_same, fun e H' hd1 hdx g1 g2 keep => ⟨rfl, some e, g2, q1 (.gds n) (rf_no h (lk_no hm)) e _ (after_x hx0 keep) (by show (if e = x then none else H' e) = _; rw [if_neg hdx]; exact g1)⟩⟩⟩
abbrev s_Stock_sell : Stmt := inClass (top 15) 3
theorem sc_Stock_sell : FnScope ["self", "number", "firm", "many", "gone", "left"] ["self", "number", "firm", "many"] (defScope s_Stock_sell) := ⟨rfl, rfl, rfl, by decide +kernel, rfl, by decide +kernel, by decide +kernel⟩
theorem ok_Stock_sell {C_Stock : Addr} (D : DefM K C_Stock "sell" "Stock.sell" s_Stock_sell .none) {C_BadAmount C_Holding C_NoGoods C_TooFew : Addr} (c_Stock_taken : CalM P w K mg base (CX1 P w) true 3 C_Stock "taken" ["self", "number", "firm", "many"] [] (spTkE C_Stock C_Holding C_BadAmount C_NoGoods C_TooFew)) (c_Holding_behind : CalM P w K mg base CX0 true 3 C_Holding "behind" ["self", "many"] [] (spHB C_Holding)) (c_Holding_pieces : CalM P w K mg base CX0 true 1 C_Holding "pieces" ["self"] [] (spHP C_Holding)) (cl_Stock : Cls K C_Stock) (n_sly : NoAttr K C_Stock "lying") (cl_Holding : Cls K C_Holding) : CalM P w K mg base (CX1 P w) true 4 C_Stock "sell" ["self", "number", "firm", "many"] [] (spSlE C_Stock C_Holding C_BadAmount C_NoGoods C_TooFew) := by
 obtain ⟨f, fd, F, hm⟩ := D
 obtain ⟨f_Stock_taken, fd_Stock_taken, d_Stock_taken, G_Stock_taken, m_Stock_taken, b_Stock_taken, v_Stock_taken, b_Stock_taken1⟩ := c_Stock_taken
 obtain ⟨f_Holding_behind, fd_Holding_behind, d_Holding_behind, G_Holding_behind, m_Holding_behind, b_Holding_behind, v_Holding_behind, b_Holding_behind1⟩ := c_Holding_behind
 obtain ⟨f_Holding_pieces, fd_Holding_pieces, d_Holding_pieces, G_Holding_pieces, m_Holding_pieces, b_Holding_pieces, v_Holding_pieces, b_Holding_pieces1⟩ := c_Holding_pieces
 refine ⟨f, fd, _, F.okX sc_Stock_sell (fun vs H Q E h => ?_) (fun cdv A outer s H vs Q E hr h => ?_), hm, (F.binds fun _ _ _ _ _ _ us hl => match us, hl with | [_, _, _, _], _ => rfl), .nil, F.binds fun _ _ _ _ _ _ us hl => match us, hl with | [_, _, _, _], _ => rfl⟩
 · obtain ⟨p, d, A, n, k, f, rfl, S, hA, q1, q2⟩ := h
   rfl
 obtain ⟨p, d, A, n, k, f, rfl, S, hA, q1, q2⟩ := h
 have nd := sc_Stock_sell.nd
 refine ⟨_, (pss_cons (ps_set (i := 4) nd rfl (Or.inl rfl) (pe_methR (pv 0) cl_Stock m_Stock_taken G_Stock_taken (hr.mono (by decide)) b_Stock_taken Paired.nil xe_def (pa_cons (pv 1) (pa_cons (pv 2) (pa_cons (pv 3) pa_nil)))))
   (pss_cons (ps_set (i := 5) nd rfl (Or.inl rfl) (pe_meth (pe_dget (hu_of hr) (pe_fld (pv 0) rfl) (pv 1) (fun _ _ => rfl)) cl_Holding m_Holding_behind G_Holding_behind (hr.mono (by decide)) b_Holding_behind Paired.nil pass0 (pa_cons (pv 3) pa_nil)))
   (pss_cons (ps_if (pt_cmpR op_eq (pe_meth0 (pv 5) cl_Holding m_Holding_pieces G_Holding_pieces (hr.mono (by decide)) b_Holding_pieces Paired.nil pass0) pe_int (nomark _)) (pss_one (ps_expr (pe_dpop1 (pe_fld (pv 0) rfl) (pv 1) ⟨rfl, rfl, rfl, rfl⟩))) (pss_one (ps_dput (hu_of hr) (pe_fld (pv 0) rfl) (pv 1) (pv 5) rfl)))
   (pss_one (ps_ret (pv 4)))))), ?_⟩
 have hline : 10 ^ 6 ≤ sizeLine := by decide
 obtain ⟨dx, fs, hp, hly, hno⟩ := S.ob
 refine ⟨_, rfl, p, dx, fs, rfl, hp, hno "taken" (by decide +kernel), _, rfl, _, rfl, _, rfl, True.intro, p, d, A, n, k, f, rfl, S, q1, fun hok q0 l v hm hf hk1 hk2 l' t H1 e1 hl0 hl1 ht1 => ?_⟩
 have q := q2 hok q0 l v hm hf hk1 hk2
 have S1 := S.same e1
 have hp1 := e1 _ _ hp
 have HA1 := S1.ho _ hm
 obtain ⟨⟨dx1, fs1, hq, hlot, hfirm, hstart, hstop, hlayers, hno1⟩, hl, hL⟩ := HA1
 have hv := kvA_val S.nd hm
 have hG : DGet H1 d (.int n) (some (.ref q0)) := hv ▸ DGet.k (k := Sum.inl n) S1.dc
 refine ⟨_, rfl, p, C_Stock, dx, fs, _, rfl, hp1, cl_Stock, n_sly, hly, _, rfl, d, _, rfl, hG, q0, dx1, fs1, rfl, hq, hno1 "behind" (by decide +kernel), _, rfl, q0, l, v, k, rfl, S1.ho _ hm, fun p2 l2 H2 e2 hl2n HA2 => ?_⟩
 have S2 := S1.same e2
 have hp2 := e2 _ _ hp1
 obtain ⟨⟨dx2, fs2, hq2, g1, g2, g3, g4, g5, hno2⟩, hl2, hL2⟩ := HA2
 have e12 := e1.trans e2
 have kl := kvA_len A
 refine ⟨_, rfl, p2, dx2, fs2, rfl, hq2, hno2 "pieces" (by decide +kernel), p2, l2, _, rfl, ⟨⟨dx2, fs2, hq2, g1, g2, g3, g4, g5, hno2⟩, hl2, hL2⟩, rfl, _, rfl, ?_⟩
 refine dec2 (fun h => ?_) (fun h => ?_)
 · have h0 : v.b - (v.a + k) = 0 := V.int.inj h
   refine ⟨_, rfl, p, C_Stock, dx, fs, _, rfl, hp2, cl_Stock, n_sly, hly, d, rfl, .inl ⟨_, .inl S2.dc⟩, _, rfl, _, Sum.inl n, _, S2.dc, rfl, hv, ?_⟩
   have K2 : Kd d H2 (upd H2 d (.dK (dropK (kvA A) (Sum.inl n)))) := Kd.upd
   have S3 := S2.drop n
   refine ⟨_, rfl, q l' t p2 l2 _ ((Kd.of e12).trans K2) hl0 (K2.lst S2.dc (e2 _ _ hl1)) (K2.ry S2.dc hL2) (K2.tup S2.dc (e2 _ _ ht1)) (e1.free hl2n) (fun w => by rw [w, hl1] at hl2n; cases hl2n) ?_⟩
   unfold soldA
   rw [if_pos h0]
   exact S3
 · have h0 : ¬ v.b - (v.a + k) = 0 := fun z => h (congrArg V.int z)
   refine ⟨_, rfl, _, rfl, p, C_Stock, dx, fs, _, rfl, hp2, cl_Stock, n_sly, hly, _, rfl, d, _, rfl, DPut.k (k := Sum.inl n) S2.dc (by omega), ?_⟩
   have K2 : Kd d H2 (upd H2 d (.dK (putK (kvA A) (Sum.inl n) (.ref p2)))) := Kd.upd
   have S3 := S2.put ⟨⟨dx2, fs2, hq2, g1, g2, g3, g4, g5, hno2⟩, hl2, hL2⟩ n
   refine ⟨_, rfl, q l' t p2 l2 _ ((Kd.of e12).trans K2) hl0 (K2.lst S2.dc (e2 _ _ hl1)) (K2.ry S2.dc hL2) (K2.tup S2.dc (e2 _ _ ht1)) (e1.free hl2n) (fun w => by rw [w, hl1] at hl2n; cases hl2n) ?_⟩
   unfold soldA
   rw [if_neg h0]
   exact S3
abbrev s_Stock_hand : Stmt := inClass (top 15) 4
theorem sc_Stock_hand : FnScope ["self", "number", "firm", "many", "sister", "cost", "new", "gone", "start", "stop"] ["self", "number", "firm", "many", "sister", "cost", "new"] (defScope s_Stock_hand) := ⟨rfl, rfl, rfl, by decide +kernel, rfl, by decide +kernel, by decide +kernel⟩
theorem ok_Stock_hand {C_Stock : Addr} (D : DefM K C_Stock "hand" "Stock.hand" s_Stock_hand .none) {C_BadAmount C_Holding C_NoGoods C_TooFew : Addr} (c_Stock_sell : CalM P w K mg base (CX1 P w) true 4 C_Stock "sell" ["self", "number", "firm", "many"] [] (spSlE C_Stock C_Holding C_BadAmount C_NoGoods C_TooFew)) (c_Holding___init__ : CalI P w K mg base CX0 true 1 C_Holding ["self", "lot", "firm", "start", "stop", "layers"] [] (spHI C_Holding)) (m_Holding : mg "Holding" = some (.ref C_Holding)) (cl_Stock : Cls K C_Stock) (n_sly : NoAttr K C_Stock "lying") : CalM P w K mg base (CX1 P w) true 5 C_Stock "hand" ["self", "number", "firm", "many", "sister", "cost", "new"] [] (spHdE C_Stock C_Holding C_BadAmount C_NoGoods C_TooFew) := by
 obtain ⟨f, fd, F, hm⟩ := D
 obtain ⟨f_Stock_sell, fd_Stock_sell, d_Stock_sell, G_Stock_sell, m_Stock_sell, b_Stock_sell, v_Stock_sell, b_Stock_sell1⟩ := c_Stock_sell
 obtain ⟨f_Holding___init__, fd_Holding___init__, d_Holding___init__, G_Holding___init__, M_Holding, b_Holding___init__, v_Holding___init__, b_Holding___init__1⟩ := c_Holding___init__
 refine ⟨f, fd, _, F.okX sc_Stock_hand (fun vs H Q E h => ?_) (fun cdv A outer s H vs Q E hr h => ?_), hm, (F.binds fun _ _ _ _ _ _ us hl => match us, hl with | [_, _, _, _, _, _, _], _ => rfl), .nil, F.binds fun _ _ _ _ _ _ us hl => match us, hl with | [_, _, _, _, _, _, _], _ => rfl⟩
 · obtain ⟨p, d, A, n, k, c, new, f, s, rfl, S, hA, hLA, q1, q2⟩ := h
   rfl
 obtain ⟨p, d, A, n, k, c, new, f, s, rfl, S, hA, hLA, q1, q2⟩ := h
 have nd := sc_Stock_hand.nd
 refine ⟨_, (pss_cons (ps_set (i := 7) nd rfl (Or.inl rfl) (pe_methR (pv 0) cl_Stock m_Stock_sell G_Stock_sell (hr.mono (by decide)) b_Stock_sell Paired.nil xe_def (pa_cons (pv 1) (pa_cons (pv 2) (pa_cons (pv 3) pa_nil)))))
   (pss_cons (ps_set (i := 8) nd rfl (Or.inl rfl) (pe_ix ix_seq (pv 7) pe_int (fun _ _ => rfl)))
   (pss_cons (ps_set (i := 9) nd rfl (Or.inl rfl) (pe_ix ix_seq (pv 7) pe_int (fun _ _ => rfl)))
   (pss_cons (ps_dput (hu_of hr) (pe_fld (pv 0) rfl) (pv 6) (pe_make M_Holding G_Holding___init__ (hr.mono (by decide)) rfl m_Holding b_Holding___init__ Paired.nil pass0 (pa_cons (pe_ix ix_seq (pv 7) pe_int (fun _ _ => rfl)) (pa_cons (pv 4) (pa_cons (pv 8) (pa_cons (pv 9) (pa_cons (pe_op op_cat (pe_ix ix_seq (pv 7) pe_int (fun _ _ => rfl)) (pe_lst (pa_cons (pe_tup (pa_cons (pv 4) (pa_cons (pv 5) (pa_cons (pv 8) (pa_cons (pv 9) pa_nil))))) pa_nil))) pa_nil)))))) rfl)
   (pss_one (ps_ret (pv 7))))))), ?_⟩
 have hline : 10 ^ 6 ≤ sizeLine := by decide
 obtain ⟨dx, fs, hp, hly, hno⟩ := S.ob
 refine ⟨_, rfl, p, dx, fs, rfl, hp, hno "sell" (by decide +kernel), _, rfl, _, rfl, _, rfl, True.intro, p, d, A, n, k, f, rfl, S, hA, q1, fun hok q0 l v hm hf hk1 hk2 l' t q' l2 H1 K1 hl0 hl1 hL1 ht1 hl2n hl2l S1 => ?_⟩
 have q := q2 hok q0 l v hm hf hk1 hk2
 have hLl : v.L.length ≤ 1000 := hLA _ hm
 have hT := SqT.of (K := K) ht1
 refine ⟨_, rfl, .inr (.inl ⟨t, _, 1, _, rfl, rfl, hT, rfl, ?_⟩)⟩
 refine ⟨_, rfl, .inr (.inl ⟨t, _, 2, _, rfl, rfl, hT, rfl, ?_⟩)⟩
 refine ⟨_, rfl, .inr (.inl ⟨t, _, 0, _, rfl, rfl, hT, rfl, _, rfl, _, rfl, _, rfl, _, rfl, .inr (.inl ⟨t, _, 3, _, rfl, rfl, hT, rfl, _, rfl, _, rfl, _, rfl, _, rfl, (by show 4 ≤ sizeLine; decide), fun y hy => ?_⟩)⟩)⟩
 have e1 := same_upd (o := .tup [.str s, .int c, .int v.a, .int (v.a + k)]) hy
 refine ⟨(by show 1 ≤ sizeLine; decide), fun l0 hl0' => ?_⟩
 have e2 := same_upd (o := .lst [.ref y]) hl0'
 refine ⟨l', l0, _, _, rfl, rfl, e2 _ _ (e1 _ _ hl1), upd_same, (by rw [rfy_len]; show v.L.length + 1 ≤ sizeLine; omega), fun l4 hl4 => ?_⟩
 have e3 := same_upd (o := .lst (rfy v.L ++ [.ref y])) hl4
 have e13 := (e1.trans e2).trans e3
 have hy1 : upd H1 y (.tup [.str s, .int c, .int v.a, .int (v.a + k)]) y = some (.tup [.str s, .int c, .int v.a, .int (v.a + k)]) := upd_same
 have hyy := e3 _ _ (e2 _ _ hy1)
 have hl44 : upd (upd (upd H1 y (.tup [.str s, .int c, .int v.a, .int (v.a + k)])) l0 (.lst [.ref y])) l4 (.lst (rfy v.L ++ [.ref y])) l4 = some (.lst (rfy (v.L ++ [(y, s, c, v.a, v.a + k)]))) := by
   rw [upd_same, rfy_app]
   rfl
 have hL4 := hL1.same e13
 generalize upd (upd (upd H1 y (.tup [.str s, .int c, .int v.a, .int (v.a + k)])) l0 (.lst [.ref y])) l4 (.lst (rfy v.L ++ [.ref y])) = H4 at e13 hyy hl44 hL4 ⊢
 have hL5 : RY H4 (v.L ++ [(y, s, c, v.a, v.a + k)]) := fun z hz => by
   rcases List.mem_append.mp hz with w | w
   · exact hL4 z w
   · rw [List.mem_singleton.mp w]
     exact hyy
 refine fun p1 dx1 hp0 hdx hne => ⟨p1, dx1, l4, ⟨v.lot, s, v.a, v.a + k, v.L ++ [(y, s, c, v.a, v.a + k)]⟩, rfl, upd_same, ?_, ?_, fun l1 H5 hl1' hlp HA k2 => ⟨rfl, ?_⟩⟩
 · rw [upd_ne (ne_of_none hl44 hp0), upd_ne (ne_of_none hl44 hdx)]
   exact hl44
 · intro z hz
   rw [upd_ne (ne_of_none (hL5 z hz) hp0), upd_ne (ne_of_none (hL5 z hz) hdx)]
   exact hL5 z hz
 have k3 : Same H4 H5 := fun b o hb => by
   have nb1 : b ≠ p1 := ne_of_none hb hp0
   have nb2 : b ≠ dx1 := ne_of_none hb hdx
   exact k2 b o (by rw [upd_ne nb1, upd_ne nb2]; exact hb) nb1
 have e5 := e13.trans k3
 have S5 := S1.same e5
 obtain ⟨dx5, fs5, hp5, hly5, hno5⟩ := S5.ob
 have kl := kvA_len (soldA A n k v q' l2)
 have ll : (soldA A n k v q' l2).length ≤ A.length + 1 := by
   unfold soldA
   split
   · have := len_dropA A n
     omega
   · exact len_putA _ _ _
 refine ⟨_, rfl, p, C_Stock, dx5, fs5, _, rfl, hp5, cl_Stock, n_sly, hly5, _, rfl, d, _, rfl, DPut.k (k := Sum.inl new) S5.dc (by omega), ?_⟩
 have K2 : Kd d H5 (upd H5 d (.dK (putK (kvA (soldA A n k v q' l2)) (Sum.inl new) (.ref p1)))) := Kd.upd
 exact ⟨_, rfl, q l' t q' l2 p1 l1 y _ (K1.trans ((Kd.of e5).trans K2)) hl0 (K2.lst S5.dc (e5 _ _ hl1)) (K2.ry S5.dc (hL1.same e5)) (K2.tup S5.dc (e5 _ _ ht1)) hl2n (by
   have h3 := e13.free (fr_of hl1' hp0 hdx)
   cases h : H l1 with
   | none => rfl
   | some o =>
     by_cases nd1 : l1 = d
     · rw [nd1, S1.dc] at h3
       cases h3
     · rw [K1 _ _ h nd1] at h3
       cases h3) hl2l (fun w => by have h3 := e13.free (fr_of hl1' hp0 hdx); rw [w, hl1] at h3; cases h3) (S5.put HA new)⟩
abbrev s_Stock_holdings : Stmt := inClass (top 15) 5
theorem sc_Stock_holdings : FnScope ["self", "some"] ["self"] (defScope s_Stock_holdings) := ⟨rfl, rfl, rfl, by decide +kernel, rfl, by decide +kernel, by decide +kernel⟩
theorem ok_Stock_holdings {C_Stock : Addr} (D : DefM K C_Stock "holdings" "Stock.holdings" s_Stock_holdings .none) {C_Holding : Addr} (z_sorted : mg "sorted" = none) (z_list : mg "list" = none) (cl_Stock : Cls K C_Stock) (n_sly : NoAttr K C_Stock "lying") (cl_Holding : Cls K C_Holding) (n_hlot : NoAttr K C_Holding "lot") (n_hfirm : NoAttr K C_Holding "firm") (n_hstart : NoAttr K C_Holding "start") (n_hstop : NoAttr K C_Holding "stop") (n_hlayers : NoAttr K C_Holding "layers") : CalM P w K mg base CX0 true 1 C_Stock "holdings" ["self"] [] (spHs C_Stock C_Holding) := by
 obtain ⟨f, fd, F, hm⟩ := D
 refine ⟨f, fd, _, F.ok sc_Stock_holdings (fun vs H Q E h => ?_) (fun cdv A outer s H vs Q E hr h => ?_), hm, (F.binds fun _ _ _ _ _ _ us hl => match us, hl with | [_], _ => rfl), .nil, F.binds fun _ _ _ _ _ _ us hl => match us, hl with | [_], _ => rfl⟩
 · obtain ⟨p, d, A, rfl, S, hA, q⟩ := h
   rfl
 obtain ⟨p, d, A, rfl, S, hA, q⟩ := h
 have nd := sc_Stock_holdings.nd
 refine ⟨_, (pss_cons (ps_setLC [0] (i := 1) nd rfl (Or.inl rfl) rfl (LcOk.free ["self"] rfl rfl (List.forall_mem_cons.mpr ⟨rfl, (fun _ h => nomatch h)⟩) (by decide +kernel) rfl (by decide +kernel) rfl (by decide +kernel) (show (["number", "self"] : List Str).Nodup from by decide +kernel) (List.forall_mem_cons.mpr ⟨⟨_, rfl, rfl, rfl, by decide +kernel⟩, (fun _ h => nomatch h)⟩)) (pi_list (pe_callB (call_sortedI rfl) rfl z_sorted bt_sorted (pa_cons (pe_fld (pv 0) rfl) pa_nil))) (fun C s2 H2 fp xe => (pe_tup (pa_cons (pv 0) (pa_cons (pe_dget (hu_of hr) (pe_fldC (pv 1) rfl) (pv 0) (fun _ _ => rfl)) pa_nil)))))
   (pss_one (ps_ret (pe_lcT (xs := ["number", "one"]) [] rfl (LcOkT.plain (xs := ["number", "one"]) (by decide +kernel) (by decide +kernel) rfl (by decide +kernel) (by decide +kernel) (by decide +kernel)) (pi_list (pv 1)) (pg_tup2T rfl (LcOkT.plain (xs := ["number", "one"]) (by decide +kernel) (by decide +kernel) rfl (by decide +kernel) (by decide +kernel) (by decide +kernel))) (fun C s2 H2 fp xe => (pe_tup (pa_cons (pv 0) (pa_cons (pe_fldC (pv 1) rfl) (pa_cons (pe_fldC (pv 1) rfl) (pa_cons (pe_fldC (pv 1) rfl) (pa_cons (pe_fldC (pv 1) rfl) (pa_cons (pe_callTy call_list_ofC rfl z_list bt_list (pa_cons (pe_fldC (pv 1) rfl) pa_nil)) pa_nil)))))))))))), ?_⟩
 have hline : 10 ^ 6 ≤ sizeLine := by decide
 obtain ⟨dx, fs, hp, hly, hno⟩ := S.ob
 refine ⟨_, rfl, p, C_Stock, dx, fs, _, rfl, hp, cl_Stock, n_sly, hly, d, kvA A, A.map (·.1), rfl, S.dc, kvA_keys A, (by rw [List.length_map]; exact hA), fun sl ms hsl hpm hpw => ⟨sl, rfl, ⟨_, SqL.of upd_same⟩, ?_⟩⟩
 have e1 := same_upd (o := .lst (ms.map V.int)) hsl
 have hsl1 : upd H sl (.lst (ms.map V.int)) sl = some (.lst (ms.map V.int)) := upd_same
 generalize upd H sl (.lst (ms.map V.int)) = H1 at e1 hsl1 ⊢
 have hml : ms.length = A.length := by rw [hpm.length_eq, List.length_map]
 have lmm : (ms.map V.int).length = ms.length := List.length_map ..
 refine lc_list (xs := ms.map V.int) (fun i ys H' => ∃ T : List (Addr × Sh), ys = T.map (fun z => .ref z.1) ∧ T.map (·.2.1) = ms.take i ∧ (∀ z ∈ T, z.2 ∈ A ∧ H' z.1 = some (.tup [.int z.2.1, .ref z.2.2.1])) ∧ Same H1 H') ⟨[], rfl, rfl, (fun z hz => nomatch hz), Same.refl _⟩ (by omega) ?_ ?_ ?_
 · rintro i ys H' hi ⟨T, rfl, hT, _, e⟩
   have := congrArg List.length hT
   rw [List.length_map, List.length_take] at this
   rw [lmm] at hi
   exact ⟨SqL.of (e _ _ hsl1), by rw [List.length_map]; omega⟩
 · rintro i x ys H' hx ⟨T, rfl, hT, hTt, e⟩
   obtain ⟨n, hn, rfl⟩ : ∃ n, ms[i]? = some n ∧ x = .int n := by
     rw [List.getElem?_map] at hx
     cases h : ms[i]? with
     | none => rw [h] at hx; cases hx
     | some n => rw [h] at hx; exact ⟨n, rfl, (Option.some.inj hx).symm⟩
   obtain ⟨x, hxA, rfl⟩ := List.mem_map.mp (hpm.mem_iff.mp (List.mem_of_getElem? hn))
   have e2 := e1.trans e
   have hG : DGet H' d (.int x.1) (some (.ref x.2.1)) := kvA_val S.nd hxA ▸ DGet.k (k := Sum.inl x.1) (e2 _ _ S.dc)
   refine ⟨_, rfl, _, rfl, p, C_Stock, dx, fs, _, rfl, e2 _ _ hp, cl_Stock, n_sly, hly, _, rfl, d, _, rfl, hG, (by show 2 ≤ sizeLine; decide), fun t ht => ?_⟩
   have g := same_upd (o := .tup [.int x.1, .ref x.2.1]) ht
   refine ⟨T ++ [(t, x)], by rw [List.map_append]; rfl, ?_, fun z hz => ?_, e.trans g⟩
   · rw [List.map_append, hT, take_ny hn]
     rfl
   · rcases List.mem_append.mp hz with w | w
     · exact ⟨(hTt z w).1, g _ _ (hTt z w).2⟩
     · rw [List.mem_singleton.mp w]
       exact ⟨hxA, upd_same⟩
 rintro ys H2 ⟨T, rfl, hT, hTt, e2⟩ sm hsm
 rw [lmm, List.take_length] at hT
 have hTl : T.length = A.length := by
   have := congrArg List.length hT
   rw [List.length_map] at this
   omega
 have e3 := same_upd (o := .lst (T.map fun z => V.ref z.1)) hsm
 have e13 := (e1.trans e2).trans e3
 have hTt3 : ∀ z ∈ T, z.2 ∈ A ∧ upd H2 sm (.lst (T.map fun z => V.ref z.1)) z.1 = some (.tup [.int z.2.1, .ref z.2.2.1]) := fun z hz => ⟨(hTt z hz).1, e3 _ _ (hTt z hz).2⟩
 have hsm3 : upd H2 sm (.lst (T.map fun z => V.ref z.1)) sm = some (.lst (T.map fun z => V.ref z.1)) := upd_same
 generalize upd H2 sm (.lst (T.map fun z => V.ref z.1)) = H3 at e3 e13 hTt3 hsm3 ⊢
 have lmT : (T.map fun z => V.ref z.1).length = T.length := List.length_map ..
 refine ⟨_, rfl, sm, rfl, ⟨_, SqL.of hsm3⟩, ?_⟩
 refine lc_list (xs := T.map fun z => V.ref z.1) (fun i ys H' => ∃ Z : List Hr, ys = rfH Z ∧ Z.map (fun z => (z.2.2.1, z.2.2.2)) = (T.take i).map (fun z => (z.2.1, z.2.2.2.2)) ∧ HrL H' Z ∧ (∀ z ∈ Z, H z.2.1 = none) ∧ Same H3 H') ⟨[], rfl, rfl, (fun z hz => nomatch hz), (fun z hz => nomatch hz), Same.refl _⟩ (by omega) ?_ ?_ ?_
 · rintro i ys H' hi ⟨Z, rfl, hZ, _, _, e⟩
   have := congrArg List.length hZ
   rw [List.length_map, List.length_map, List.length_take] at this
   rw [lmT] at hi
   exact ⟨SqL.of (e _ _ hsm3), by rw [rfH_len]; omega⟩
 · rintro i x ys H' hx ⟨Z, rfl, hZ, hZt, hZf, e⟩ σ0 h0
   obtain ⟨z, hz, rfl⟩ : ∃ z, T[i]? = some z ∧ x = .ref z.1 := by
     rw [List.getElem?_map] at hx
     cases h : T[i]? with
     | none => rw [h] at hx; cases hx
     | some n => rw [h] at hx; exact ⟨n, rfl, (Option.some.inj hx).symm⟩
   obtain ⟨u1, u2, rfl⟩ : ∃ u1 u2, σ0 = [u1, u2] := by
     rcases σ0 with _ | ⟨u, _ | ⟨v, _ | ⟨w, r⟩⟩⟩ <;> simp at h0
     exact ⟨u, v, rfl⟩
   obtain ⟨hzA, hzt⟩ := hTt3 z (List.mem_of_getElem? hz)
   obtain ⟨⟨dx1, fs1, hq, hlot, hfirm, hstart, hstop, hlayers, hno1⟩, hl, hL⟩ := (S.ho z.2 hzA).same (e13.trans e)
   have FH : ∀ {A : Prop}, A → A := fun a => a
   refine ⟨z.1, _, rfl, SqT.of (e _ _ hzt), rfl, _, _, rfl, _, _, rfl, rfl, [_, _], rfl, rfl, ?_⟩
   refine ⟨_, rfl, _, rfl, z.2.2.1, C_Holding, dx1, fs1, _, rfl, hq, cl_Holding, n_hlot, hlot, _, rfl, z.2.2.1, C_Holding, dx1, fs1, _, rfl, hq, cl_Holding, n_hfirm, hfirm, _, rfl, z.2.2.1, C_Holding, dx1, fs1, _, rfl, hq, cl_Holding, n_hstart, hstart, _, rfl, z.2.2.1, C_Holding, dx1, fs1, _, rfl, hq, cl_Holding, n_hstop, hstop, _, rfl, z.2.2.1, C_Holding, dx1, fs1, _, rfl, hq, cl_Holding, n_hlayers, hlayers, z.2.2.2.1, _, rfl, .inl (SqL.of hl), fun l1 hl1 => ⟨(by show 6 ≤ sizeLine; decide), fun t ht => ?_⟩⟩
   have g1 := same_upd (o := .lst (rfy z.2.2.2.2.L)) hl1
   have g2 := same_upd (o := .tup [.int z.2.1, .int z.2.2.2.2.lot, .str z.2.2.2.2.firm, .int z.2.2.2.2.a, .int z.2.2.2.2.b, .ref l1]) ht
   have g := g1.trans g2
   refine ⟨Z ++ [(t, l1, z.2.1, z.2.2.2.2)], by rw [rfH_app]; rfl, ?_, fun y hy => ?_, fun y hy => (List.mem_append.mp hy).elim (hZf y) fun w => by rw [List.mem_singleton.mp w]; exact (e13.trans e).free hl1, e.trans g⟩
   · rw [List.map_append, hZ, take_ny hz, List.map_append]
     rfl
   · rcases List.mem_append.mp hy with w | w
     · exact hZt.same g y w
     · rw [List.mem_singleton.mp w]
       exact ⟨upd_same, g2 _ _ upd_same, hL.same g⟩
 rintro ys H4 ⟨Z, rfl, hZ, hZt, hZf, e4⟩ r hr
 rw [lmT, List.take_length] at hZ
 have e5 := same_upd (o := .lst (rfH Z)) hr
 refine q r Z _ ((e13.trans e4).trans e5) ((e13.trans e4).free hr) upd_same (hZt.same e5) hZf (fun z hz w => by have h1 := (hZt z hz).2.1; rw [w, hr] at h1; cases h1) ?_ ?_
 · rw [hZ]
   refine (List.perm_ext_iff_of_nodup ?_ ?_).mpr fun w => ?_
   · have h1 : (T.map fun z => (z.2.1, z.2.2.2.2)).Nodup := by
       have h2 : (T.map fun z => z.2.1).Nodup := by
         rw [hT]
         exact hpm.nodup_iff.mpr S.nd
       exact nd_fst (by rw [List.map_map]; exact h2)
     exact h1
   · exact nd_fst (by rw [List.map_map]; exact S.nd)
   · constructor
     · intro h
       obtain ⟨z, hz, rfl⟩ := List.mem_map.mp h
       exact List.mem_map.mpr ⟨z.2, (hTt3 z hz).1, rfl⟩
     · intro h
       obtain ⟨x, hx, rfl⟩ := List.mem_map.mp h
       have hn : x.1 ∈ T.map (fun z => z.2.1) := by
         rw [hT]
         exact hpm.mem_iff.mpr (List.mem_map.mpr ⟨x, hx, rfl⟩)
       obtain ⟨z, hz, ez⟩ := List.mem_map.mp hn
       have hz2 : z.2 = x := by
         have a := kvA_val S.nd (show (z.2.1, z.2.2) ∈ A from (hTt3 z hz).1)
         exact nd_one S.nd (hTt3 z hz).1 hx ez
       exact List.mem_map.mpr ⟨z, hz, by rw [← hz2]⟩
 · have h1 := congrArg (List.map fun w : Int × Hv => w.1) hZ
   rw [List.map_map, List.map_map] at h1
   have h2 : (Z.map fun z => z.2.2.1) = ms := h1.trans hT
   rw [h2]
   exact hpw
def sumI : List Int → Int
 | [] => 0
 | x :: r => x + sumI r
theorem sumI_snoc (l : List Int) (x : Int) : sumI (l ++ [x]) = sumI l + x := by
 induction l with
 | nil => show x + 0 = 0 + x; omega
 | cons y r ih => show y + sumI (r ++ [x]) = y + sumI r + x; omega
theorem sumI_sum (l : List Int) : l.sum = sumI l := by
 induction l with
 | nil => rfl
 | cons y r ih => rw [List.sum_cons, ih]; rfl
def cst (v : Hv) : List Int := cos v.L v.a v.b
def Hok (v : Hv) : Prop := Ok v.L v.a v.b ∧ 1 ≤ v.L.length ∧ v.L.length ≤ 60
def hdC (v : Hv) : Int := (cst v).getD 0 0
def lsC (v : Hv) : Int := (cst v).getD (v.L.length - 1) 0
def flF (A : List Sh) (f : Str) : List Sh := A.filter fun x => decide (x.2.2.2.firm = f)
def gd1 (A : List Sh) (f : Str) : Int := sumI ((flF A f).map fun x => hdC x.2.2.2)
def gd2 (A : List Sh) (f : Str) : Int := sumI ((flF A f).map fun x => lsC x.2.2.2 - hdC x.2.2.2)
def gnF (v : Hv) (f : Str) : Int := sumI (((gns v.L v.a v.b (v.L.length - 1)).filter fun g => decide (g.1 = f)).map (·.2))
def gnA (A : List Sh) (f : Str) : Int := sumI (A.map fun x => gnF x.2.2.2 f)
def spHC (C : Addr) : Sp := fun vs H Q _ => ∃ (p l : Addr) (v : Hv), vs = [.ref p] ∧ HoA C H p l v ∧ Hok v ∧ ∀ c, H c = none → Q (.ref c) (upd H c (.lst ((cst v).map V.int)))
def spHG (C : Addr) : Sp := fun vs H Q _ => ∃ (p l : Addr) (v : Hv), vs = [.ref p] ∧ HoA C H p l v ∧ Hok v ∧ ∀ (c : Addr) (G : List Gn) H', Same H H' → H' c = some (.lst (rfg G)) → RG H' G → G.map (·.2) = gns v.L v.a v.b (v.L.length - 1) → Q (.ref c) H'
def spGd (CS CH : Addr) : Sp := fun vs H Q _ => ∃ (p d : Addr) (A : List Sh) (f : Str), vs = [.ref p, .str f] ∧ Stk CS CH H p d A ∧ (∀ x ∈ A, Hok x.2.2.2) ∧ A.length ≤ 200 ∧ ∀ t H', Same H H' → H' t = some (.tup [.int (gd1 A f), .int (gd2 A f)]) → Q (.ref t) H'
def spUn (CS CH : Addr) : Sp := fun vs H Q _ => ∃ (p d : Addr) (A : List Sh) (f : Str), vs = [.ref p, .str f] ∧ Stk CS CH H p d A ∧ (∀ x ∈ A, Hok x.2.2.2) ∧ A.length ≤ 200 ∧ ∀ H', Same H H' → Q (.int (gnA A f)) H'
theorem cst_last {v : Hv} (h : 1 ≤ v.L.length) : ((cst v).map V.int).getLast? = some (.int (lsC v)) := by
 unfold lsC cst
 rw [List.getLast?_eq_getElem?, List.length_map, cos_len, List.getElem?_map, List.getD]
 have hi : v.L.length - 1 < (cos v.L v.a v.b).length := by
   rw [cos_len]
   omega
 rw [List.getElem?_eq_getElem hi]
 rfl
theorem flF_nx {A : List Sh} {i : Nat} {x : Sh} {f : Str} (h : A[i]? = some x) : flF (A.take (i + 1)) f = flF (A.take i) f ++ (if x.2.2.2.firm = f then [x] else []) := by
 unfold flF
 rw [take_ny h, List.filter_append]
 congr 1
 by_cases e : x.2.2.2.firm = f
 · rw [if_pos e, List.filter_cons_of_pos (by simpa using e)]
   rfl
 · rw [if_neg e, List.filter_cons_of_neg (by simpa using e)]
   rfl
abbrev s_Holding_costs : Stmt := inClass (top 14) 4
theorem sc_Holding_costs : FnScope ["self"] ["self"] (defScope s_Holding_costs) := ⟨rfl, rfl, rfl, by decide +kernel, rfl, by decide +kernel, by decide +kernel⟩
theorem ok_Holding_costs {C_Holding : Addr} (D : DefM K C_Holding "costs" "Holding.costs" s_Holding_costs .none) (c_chain_costs : Cal P w K mg base (CX1 P w) true 3 "chain_costs" ["layers", "start", "stop"] [] (spCC C_NoNumber)) (cl_Holding : Cls K C_Holding) (n_hstart : NoAttr K C_Holding "start") (n_hstop : NoAttr K C_Holding "stop") (n_hlayers : NoAttr K C_Holding "layers") : CalM P w K mg base CX0 true 4 C_Holding "costs" ["self"] [] (spHC C_Holding) := by
 obtain ⟨f, fd, F, hm⟩ := D
 obtain ⟨f_chain_costs, fd_chain_costs, d_chain_costs, G_chain_costs, m_chain_costs, k_chain_costs, b_chain_costs, v_chain_costs, b_chain_costs1⟩ := c_chain_costs
 refine ⟨f, fd, _, F.ok sc_Holding_costs (fun vs H Q E h => ?_) (fun cdv A outer s H vs Q E hr h => ?_), hm, (F.binds fun _ _ _ _ _ _ us hl => match us, hl with | [_], _ => rfl), .nil, F.binds fun _ _ _ _ _ _ us hl => match us, hl with | [_], _ => rfl⟩
 · obtain ⟨p, l, v, rfl, ho, hk, q⟩ := h
   rfl
 obtain ⟨p, l, v, rfl, ho, hk, q⟩ := h
 have nd := sc_Holding_costs.nd
 refine ⟨_, (pss_one (ps_ret (pe_callR G_chain_costs (hr.mono (by decide)) rfl m_chain_costs k_chain_costs b_chain_costs Paired.nil xe_off (pa_cons (pe_fld (pv 0) rfl) (pa_cons (pe_fld (pv 0) rfl) (pa_cons (pe_fld (pv 0) rfl) pa_nil)))))), ?_⟩
 obtain ⟨⟨dx, fs, hp, hlot, hfirm, hstart, hstop, hlayers, hno⟩, hl, hL⟩ := ho
 have o1 := hk.1
 have hl1 := hk.2.1
 obtain ⟨y, hy⟩ : ∃ y, v.L[0]? = some y := ⟨_, List.getElem?_eq_getElem (by omega)⟩
 have oy := o1 y (List.mem_of_getElem? hy)
 refine ⟨_, rfl, p, C_Holding, dx, fs, _, rfl, hp, cl_Holding, n_hlayers, hlayers, _, rfl, p, C_Holding, dx, fs, _, rfl, hp, cl_Holding, n_hstart, hstart, _, rfl, p, C_Holding, dx, fs, _, rfl, hp, cl_Holding, n_hstop, hstop, True.intro, l, v.L, v.a, v.b, v.a, v.b, rfl, hl, hL, o1, hk.2.2, by omega, by omega, (fun ⟨z, hz, w⟩ => False.elim (by have := o1 z hz; omega)), fun _ c hc => q c hc⟩
abbrev s_Holding_gains : Stmt := inClass (top 14) 5
theorem sc_Holding_gains : FnScope ["self"] ["self"] (defScope s_Holding_gains) := ⟨rfl, rfl, rfl, by decide +kernel, rfl, by decide +kernel, by decide +kernel⟩
theorem ok_Holding_gains {C_Holding : Addr} (D : DefM K C_Holding "gains" "Holding.gains" s_Holding_gains .none) (c_chain_gains : Cal P w K mg base (CX1 P w) true 4 "chain_gains" ["layers", "start", "stop"] [] (spCG C_NoNumber)) (cl_Holding : Cls K C_Holding) (n_hstart : NoAttr K C_Holding "start") (n_hstop : NoAttr K C_Holding "stop") (n_hlayers : NoAttr K C_Holding "layers") : CalM P w K mg base CX0 true 5 C_Holding "gains" ["self"] [] (spHG C_Holding) := by
 obtain ⟨f, fd, F, hm⟩ := D
 obtain ⟨f_chain_gains, fd_chain_gains, d_chain_gains, G_chain_gains, m_chain_gains, k_chain_gains, b_chain_gains, v_chain_gains, b_chain_gains1⟩ := c_chain_gains
 refine ⟨f, fd, _, F.ok sc_Holding_gains (fun vs H Q E h => ?_) (fun cdv A outer s H vs Q E hr h => ?_), hm, (F.binds fun _ _ _ _ _ _ us hl => match us, hl with | [_], _ => rfl), .nil, F.binds fun _ _ _ _ _ _ us hl => match us, hl with | [_], _ => rfl⟩
 · obtain ⟨p, l, v, rfl, ho, hk, q⟩ := h
   rfl
 obtain ⟨p, l, v, rfl, ho, hk, q⟩ := h
 have nd := sc_Holding_gains.nd
 refine ⟨_, (pss_one (ps_ret (pe_callR G_chain_gains (hr.mono (by decide)) rfl m_chain_gains k_chain_gains b_chain_gains Paired.nil xe_off (pa_cons (pe_fld (pv 0) rfl) (pa_cons (pe_fld (pv 0) rfl) (pa_cons (pe_fld (pv 0) rfl) pa_nil)))))), ?_⟩
 obtain ⟨⟨dx, fs, hp, hlot, hfirm, hstart, hstop, hlayers, hno⟩, hl, hL⟩ := ho
 have o1 := hk.1
 have hl1 := hk.2.1
 obtain ⟨y, hy⟩ : ∃ y, v.L[0]? = some y := ⟨_, List.getElem?_eq_getElem (by omega)⟩
 have oy := o1 y (List.mem_of_getElem? hy)
 refine ⟨_, rfl, p, C_Holding, dx, fs, _, rfl, hp, cl_Holding, n_hlayers, hlayers, _, rfl, p, C_Holding, dx, fs, _, rfl, hp, cl_Holding, n_hstart, hstart, _, rfl, p, C_Holding, dx, fs, _, rfl, hp, cl_Holding, n_hstop, hstop, True.intro, l, v.L, v.a, v.b, v.a, v.b, rfl, hl, hL, o1, hk.2.2, hl1, by omega, by omega, (fun ⟨z, hz, w⟩ => False.elim (by have := o1 z hz; omega)), fun _ c G H' e hc hG hv => q c G H' e hc hG hv⟩
abbrev s_Stock_goods_of : Stmt := inClass (top 15) 6
theorem sc_Stock_goods_of : FnScope ["self", "firm", "costs"] ["self", "firm"] (defScope s_Stock_goods_of) := ⟨rfl, rfl, rfl, by decide +kernel, rfl, by decide +kernel, by decide +kernel⟩
theorem ok_Stock_goods_of {C_Stock : Addr} (D : DefM K C_Stock "goods_of" "Stock.goods_of" s_Stock_goods_of .none) {C_Holding : Addr} (c_Holding_costs : CalM P w K mg base CX0 true 4 C_Holding "costs" ["self"] [] (spHC C_Holding)) (z_sum : mg "sum" = none) (cl_Stock : Cls K C_Stock) (n_sly : NoAttr K C_Stock "lying") (cl_Holding : Cls K C_Holding) (n_hfirm : NoAttr K C_Holding "firm") : CalM P w K mg base CX0 true 5 C_Stock "goods_of" ["self", "firm"] [] (spGd C_Stock C_Holding) := by
 obtain ⟨f, fd, F, hm⟩ := D
 obtain ⟨f_Holding_costs, fd_Holding_costs, d_Holding_costs, G_Holding_costs, m_Holding_costs, b_Holding_costs, v_Holding_costs, b_Holding_costs1⟩ := c_Holding_costs
 refine ⟨f, fd, _, F.ok sc_Stock_goods_of (fun vs H Q E h => ?_) (fun cdv A outer s H vs Q E hr h => ?_), hm, (F.binds fun _ _ _ _ _ _ us hl => match us, hl with | [_, _], _ => rfl), .nil, F.binds fun _ _ _ _ _ _ us hl => match us, hl with | [_, _], _ => rfl⟩
 · obtain ⟨p, d, A, f, rfl, S, hok, hA, q⟩ := h
   rfl
 obtain ⟨p, d, A, f, rfl, S, hok, hA, q⟩ := h
 have nd := sc_Stock_goods_of.nd
 refine ⟨_, (pss_cons (ps_setLCIf [1] (i := 2) nd rfl (Or.inl rfl) rfl (LcOk.free ["firm"] rfl rfl (List.forall_mem_cons.mpr ⟨rfl, (fun _ h => nomatch h)⟩) (by decide +kernel) rfl (by decide +kernel) rfl (by decide +kernel) (show (["one", "firm"] : List Str).Nodup from by decide +kernel) (List.forall_mem_cons.mpr ⟨⟨_, rfl, rfl, rfl, by decide +kernel⟩, (fun _ h => nomatch h)⟩)) (pi_vals (pe_bm0 PySem.F.plainAttrs_dict PySem.F.slot_dict_values PySem.F.type_dict_values mt_values (pe_fld (pv 0) rfl))) (fun C s2 H2 fp xe => (pt_cmpR op_eq (pe_fldC (pv 0) rfl) (pv 1) (nomark _))) (fun C s2 H2 fp xe => (pe_meth0 (pv 0) cl_Holding m_Holding_costs G_Holding_costs (hr.mono (by decide)) b_Holding_costs Paired.nil pass0)))
   (pss_one (ps_thaw (ps_ret (pe_tup (pa_cons (pe_callB (call_sum hr) rfl z_sum bt_sum (pa_cons (pe_lc [] rfl (LcOk.plain (by decide +kernel) (by decide +kernel) rfl (by decide +kernel) rfl) (pi_list (pv 2)) (fun C s2 H2 fp xe => (pe_ix ix_seqC (pv 0) pe_int (fun _ _ => rfl)))) pa_nil)) (pa_cons (pe_callB (call_sum hr) rfl z_sum bt_sum (pa_cons (pe_lc [] rfl (LcOk.plain (by decide +kernel) (by decide +kernel) rfl (by decide +kernel) rfl) (pi_list (pv 2)) (fun C s2 H2 fp xe => (pe_op op_sub (pe_ix ix_seqC (pv 0) (pe_un un_neg pe_int) (fun _ _ => rfl)) (pe_ix ix_seqC (pv 0) pe_int (fun _ _ => rfl))))) pa_nil)) pa_nil))))))), ?_⟩
 have hline : 600 ≤ sizeLine := by decide
 have kvl := kvA_len A
 obtain ⟨dx, fs, hp, hly, hno⟩ := S.ob
 refine ⟨_, rfl, p, C_Stock, dx, fs, _, rfl, hp, cl_Stock, n_sly, hly, .inr (.inr (.inl ⟨rfl, .inl ⟨_, S.dc⟩⟩)), d, _, rfl, rfl, S.dc, fun v hv => ?_⟩
 have f1 := same_upd (o := vvw v d) hv
 refine ⟨v, d, _, rfl, upd_same, f1 _ _ S.dc, fun ob => ?_⟩
 refine lc_valsIf (d := d) (o := ob) (kvs := kvA A) (fun i ys H' => ∃ T : List (Addr × Hv), ys = T.map (fun z => V.ref z.1) ∧ T.map (·.2) = (flF (A.take i) f).map (·.2.2.2) ∧ (∀ z ∈ T, H' z.1 = some (.lst ((cst z.2).map V.int))) ∧ H' d = some (.frz ob (.dK (kvA A))) ∧ ∀ b o, H b = some o → b ≠ d → H' b = some o) ⟨[], rfl, rfl, (fun z hz => nomatch hz), upd_same, fun b o hb nb => by rw [upd_ne nb]; exact f1 _ _ hb⟩ (by omega) ?_ ?_ ?_
 · rintro i ys H' hi ⟨T, rfl, hT, _, hf, _⟩
   refine ⟨hf, ?_⟩
   have := congrArg List.length hT
   rw [List.length_map, List.length_map] at this
   have h2 := List.length_filter_le (fun x : Sh => decide (x.2.2.2.firm = f)) (A.take i)
   rw [List.length_take] at h2
   unfold flF at this
   rw [List.length_map]
   omega
 · rintro i kv ys H' hkv ⟨T, rfl, hT, hTt, hf, kp⟩
   obtain ⟨x, hx, rfl⟩ : ∃ x, A[i]? = some x ∧ kv = ((Sum.inl x.1 : Key), V.ref x.2.1) := by
     unfold kvA at hkv
     rw [List.getElem?_map] at hkv
     cases h : A[i]? with
     | none => rw [h] at hkv; cases hkv
     | some x => rw [h] at hkv; exact ⟨x, rfl, (Option.some.inj hkv).symm⟩
   have hxA := List.mem_of_getElem? hx
   have nx := flF_nx (f := f) hx
   have HA := S.ho x hxA
   obtain ⟨⟨dx1, fs1, hq, hlot, hfirm, hstart, hstop, hlayers, hno1⟩, hl, hL⟩ := HA
   have hq' := kp _ _ hq (ne_of hq S.dc (by intro w; cases w))
   have hl' := kp _ _ hl (ne_of hl S.dc (by intro w; cases w))
   have hL' : RY H' x.2.2.2.L := fun z hz => kp _ _ (hL z hz) (ne_of (hL z hz) S.dc (by intro w; unfold tupY at w; cases w))
   refine ⟨_, rfl, x.2.1, C_Holding, dx1, fs1, _, rfl, hq', cl_Holding, n_hfirm, hfirm, _, rfl, rfl, _, rfl, ?_⟩
   refine dec2 (fun h => ?_) (fun h => ?_)
   · have hff : x.2.2.2.firm = f := V.str.inj h
     rw [if_pos hff] at nx
     refine ⟨_, rfl, x.2.1, dx1, fs1, rfl, hq', hno1 "costs" (by decide +kernel), x.2.1, x.2.2.1, x.2.2.2, rfl, ⟨⟨dx1, fs1, hq', hlot, hfirm, hstart, hstop, hlayers, hno1⟩, hl', hL'⟩, hok x hxA, fun c hc => ?_⟩
     have g := same_upd (o := .lst ((cst x.2.2.2).map V.int)) hc
     refine ⟨T ++ [(c, x.2.2.2)], by rw [List.map_append]; rfl, ?_, fun z hz => ?_, g _ _ hf, fun b o hb nb => g _ _ (kp b o hb nb)⟩
     · rw [List.map_append, hT, nx, List.map_append]
       rfl
     · rcases List.mem_append.mp hz with w | w
       · exact g _ _ (hTt z w)
       · rw [List.mem_singleton.mp w]
         exact upd_same
   · have hff : ¬ x.2.2.2.firm = f := fun z => h (congrArg V.str z)
     rw [if_neg hff, List.append_nil] at nx
     exact ⟨T, rfl, by rw [hT, nx], hTt, hf, kp⟩
 rintro ys H1 ⟨T, rfl, hT, hTt, hf, kp⟩ cl hcl
 rw [kvl, List.take_length] at hT
 have g1 := same_upd (o := .lst (T.map fun z => V.ref z.1)) hcl
 refine ⟨d, ob, _, g1 _ _ hf, (fun o' u z => by
   have z : H d = some (.frz o' u) := z
   rw [S.dc] at z
   cases z), ?_⟩
 have e2 : Same H (upd (upd H1 cl (.lst (T.map fun z => V.ref z.1))) d (.dK (kvA A))) := fun b o hb => by
   by_cases nb : b = d
   · subst nb
     rw [upd_same, ← S.dc]
     exact hb
   · rw [upd_ne nb]
     exact g1 _ _ (kp b o hb nb)
 have ndc : cl ≠ d := fun w => by
   rw [w, hf] at hcl
   cases hcl
 have hcl2 : upd (upd H1 cl (.lst (T.map fun z => V.ref z.1))) d (.dK (kvA A)) cl = some (.lst (T.map fun z => V.ref z.1)) := by
   rw [upd_ne ndc]
   exact upd_same
 have hTt2 : ∀ z ∈ T, upd (upd H1 cl (.lst (T.map fun z => V.ref z.1))) d (.dK (kvA A)) z.1 = some (.lst ((cst z.2).map V.int)) := fun z hz => by
   have h1 := g1 _ _ (hTt z hz)
   rw [upd_ne (ne_of h1 (g1 _ _ hf) (by intro w; cases w))]
   exact h1
 generalize upd (upd H1 cl (.lst (T.map fun z => V.ref z.1))) d (.dK (kvA A)) = H2 at e2 hcl2 hTt2 ⊢
 have hTl : T.length ≤ A.length := by
   have := congrArg List.length hT
   rw [List.length_map, List.length_map] at this
   have h2 := List.length_filter_le (fun x : Sh => decide (x.2.2.2.firm = f)) A
   unfold flF at this
   omega
 have hTk : ∀ z ∈ T, Hok z.2 := fun z hz => by
   have h1 : z.2 ∈ (flF A f).map (·.2.2.2) := by
     rw [← hT]
     exact List.mem_map.mpr ⟨z, hz, rfl⟩
   obtain ⟨x, hx, e⟩ := List.mem_map.mp h1
   rw [← e]
   exact hok x (List.mem_filter.mp hx).1
 have lmT : (T.map fun z => V.ref z.1).length = T.length := List.length_map ..
 have Tat : ∀ {i : Nat} {w : V}, (T.map fun z => V.ref z.1)[i]? = some w → ∃ z, T[i]? = some z ∧ w = .ref z.1 := fun {i w} h => by
   rw [List.getElem?_map] at h
   cases g : T[i]? with
   | none => rw [g] at h; cases h
   | some z => rw [g] at h; exact ⟨z, rfl, (Option.some.inj h).symm⟩
 refine ⟨_, rfl, cl, rfl, ⟨_, SqL.of hcl2⟩, ?_⟩
 refine lc_list (xs := T.map fun z => V.ref z.1) (fun i ys H' => ys = ((T.take i).map fun z => hdC z.2).map V.int ∧ H' = H2) ⟨rfl, rfl⟩ (by omega) ?_ ?_ ?_
 · rintro i ys H' hi ⟨rfl, rfl⟩
   rw [lmT] at hi
   exact ⟨SqL.of hcl2, by rw [List.length_map, List.length_map, List.length_take]; omega⟩
 · rintro i w ys H' hw ⟨rfl, rfl⟩
   obtain ⟨z, hz, rfl⟩ := Tat hw
   have hzm := List.mem_of_getElem? hz
   have hk := hTk z hzm
   have hk1 := hk.2.1
   have cl' := cos_len z.2.L z.2.a z.2.b
   refine ⟨_, rfl, .inl ⟨z.1, _, 0, _, rfl, rfl, SqL.of (hTt2 z hzm), at_int (ws := cst z.2) (f := 0) (by omega) (by unfold cst; omega), ?_, rfl⟩⟩
   rw [take_ny hz, List.map_append, List.map_append]
   rfl
 rintro ys H' ⟨rfl, rfl⟩ s1 hs1
 rw [lmT, List.take_length]
 have g3 := same_upd (o := .lst ((T.map fun z => hdC z.2).map V.int)) hs1
 refine ⟨s1, _, rfl, SqL.of upd_same, ?_⟩
 generalize hH3 : upd H' s1 (.lst ((T.map fun z => hdC z.2).map V.int)) = H3 at g3 ⊢
 have hcl3 := g3 _ _ hcl2
 refine ⟨_, rfl, cl, rfl, ⟨_, SqL.of hcl3⟩, ?_⟩
 refine lc_list (xs := T.map fun z => V.ref z.1) (fun i ys H' => ys = ((T.take i).map fun z => lsC z.2 - hdC z.2).map V.int ∧ H' = H3) ⟨rfl, rfl⟩ (by omega) ?_ ?_ ?_
 · rintro i ys H4 hi ⟨rfl, rfl⟩
   rw [lmT] at hi
   exact ⟨SqL.of hcl3, by rw [List.length_map, List.length_map, List.length_take]; omega⟩
 · rintro i w ys H4 hw ⟨rfl, rfl⟩
   obtain ⟨z, hz, rfl⟩ := Tat hw
   have hzm := List.mem_of_getElem? hz
   have hk := hTk z hzm
   have hk1 := hk.2.1
   have cl' := cos_len z.2.L z.2.a z.2.b
   have hsq := SqL.of (K := K) (g3 _ _ (hTt2 z hzm))
   refine ⟨_, rfl, _, rfl, .inl ⟨z.1, _, _, _, rfl, rfl, hsq, at_last (cst_last hk1), _, rfl, .inl ⟨z.1, _, 0, _, rfl, rfl, hsq, at_int (ws := cst z.2) (f := 0) (by omega) (by unfold cst; omega), _, _, rfl, rfl, ?_, rfl⟩⟩⟩
   rw [take_ny hz, List.map_append, List.map_append]
   rfl
 rintro ys H4 ⟨rfl, rfl⟩ s2 hs2
 rw [lmT, List.take_length]
 have g4 := same_upd (o := .lst ((T.map fun z => lsC z.2 - hdC z.2).map V.int)) hs2
 refine ⟨s2, _, rfl, SqL.of upd_same, (by show 2 ≤ sizeLine; decide), fun t ht => ?_⟩
 have g5 := same_upd (o := .tup [.int ((T.map fun z => hdC z.2).sum), .int ((T.map fun z => lsC z.2 - hdC z.2).sum)]) ht
 refine q t _ (((e2.trans g3).trans g4).trans g5) ?_
 have a1 : T.map (fun z => hdC z.2) = (flF A f).map (fun x => hdC x.2.2.2) := by
   have := congrArg (List.map hdC) hT
   rw [List.map_map, List.map_map] at this
   exact this
 have a2 : T.map (fun z => lsC z.2 - hdC z.2) = (flF A f).map (fun x => lsC x.2.2.2 - hdC x.2.2.2) := by
   have := congrArg (List.map fun v => lsC v - hdC v) hT
   rw [List.map_map, List.map_map] at this
   exact this
 rw [upd_same, a1, a2, sumI_sum, sumI_sum]
 rfl
abbrev s_Stock_unmade : Stmt := inClass (top 15) 7
theorem sc_Stock_unmade : FnScope ["self", "firm", "gained", "one"] ["self", "firm"] (defScope s_Stock_unmade) := ⟨rfl, rfl, rfl, by decide +kernel, rfl, by decide +kernel, by decide +kernel⟩
theorem ok_Stock_unmade {C_Stock : Addr} (D : DefM K C_Stock "unmade" "Stock.unmade" s_Stock_unmade .none) {C_Holding : Addr} (c_Holding_gains : CalM P w K mg base CX0 true 5 C_Holding "gains" ["self"] [] (spHG C_Holding)) (z_sum : mg "sum" = none) (cl_Stock : Cls K C_Stock) (n_sly : NoAttr K C_Stock "lying") (cl_Holding : Cls K C_Holding) : CalM P w K mg base CX0 true 6 C_Stock "unmade" ["self", "firm"] [] (spUn C_Stock C_Holding) := by
 obtain ⟨f, fd, F, hm⟩ := D
 obtain ⟨f_Holding_gains, fd_Holding_gains, d_Holding_gains, G_Holding_gains, m_Holding_gains, b_Holding_gains, v_Holding_gains, b_Holding_gains1⟩ := c_Holding_gains
 refine ⟨f, fd, _, F.ok sc_Stock_unmade (fun vs H Q E h => ?_) (fun cdv A outer s H vs Q E hr h => ?_), hm, (F.binds fun _ _ _ _ _ _ us hl => match us, hl with | [_, _], _ => rfl), .nil, F.binds fun _ _ _ _ _ _ us hl => match us, hl with | [_, _], _ => rfl⟩
 · obtain ⟨p, d, A, f, rfl, S, hok, hA, q⟩ := h
   rfl
 obtain ⟨p, d, A, f, rfl, S, hok, hA, q⟩ := h
 have nd := sc_Stock_unmade.nd
 refine ⟨_, (pss_cons (ps_set (i := 2) nd rfl (Or.inl rfl) pe_int)
   (pss_cons (ps_for PassesOwn.never rfl (pi_vals (pe_bm0 PySem.F.plainAttrs_dict PySem.F.slot_dict_values PySem.F.type_dict_values mt_values (pe_fld (pv 0) rfl))) (pg_name (i := 3) nd rfl (Or.inl rfl)) (pss_one (ps_set (i := 2) nd rfl (Or.inl rfl) (pe_op op_add (pv 2) (pe_callB (call_sum hr) rfl z_sum bt_sum (pa_cons (pe_lcTIf (xs := ["maker", "gain"]) [1] rfl (LcOkT.free (xs := ["maker", "gain"]) ["firm"] rfl rfl (List.forall_mem_cons.mpr ⟨rfl, (fun _ h => nomatch h)⟩) (by decide +kernel) rfl (by decide +kernel) (by decide +kernel) (by decide +kernel) (show (["maker", "gain", "firm"] : List Str).Nodup from by decide +kernel) (List.forall_mem_cons.mpr ⟨⟨_, rfl, rfl, rfl, by decide +kernel⟩, (fun _ h => nomatch h)⟩)) (pi_list (pe_meth0 (pv 3) cl_Holding m_Holding_gains G_Holding_gains (hr.mono (by decide)) b_Holding_gains Paired.nil pass0)) (pg_tup2T rfl (LcOkT.free (xs := ["maker", "gain"]) ["firm"] rfl rfl (List.forall_mem_cons.mpr ⟨rfl, (fun _ h => nomatch h)⟩) (by decide +kernel) rfl (by decide +kernel) (by decide +kernel) (by decide +kernel) (show (["maker", "gain", "firm"] : List Str).Nodup from by decide +kernel) (List.forall_mem_cons.mpr ⟨⟨_, rfl, rfl, rfl, by decide +kernel⟩, (fun _ h => nomatch h)⟩))) (fun C s2 H2 fp xe => (pt_cmpR op_eq (pv 0) (pv 2) (nomark _))) (fun C s2 H2 fp xe => (pv 1))) pa_nil))))))
   (pss_one (ps_thaw (ps_ret (pv 2)))))), ?_⟩
 have hline : 600 ≤ sizeLine := by decide
 have kvl := kvA_len A
 obtain ⟨dx, fs, hp, hly, hno⟩ := S.ob
 refine ⟨_, rfl, p, C_Stock, dx, fs, _, rfl, hp, cl_Stock, n_sly, hly, .inr (.inr (.inl ⟨rfl, .inl ⟨_, S.dc⟩⟩)), d, _, rfl, rfl, S.dc, fun v hv => ?_⟩
 have f1 := same_upd (o := vvw v d) hv
 refine ⟨v, d, _, rfl, upd_same, f1 _ _ S.dc, fun ob => ?_⟩
 refine for_vals (d := d) (o := ob) (kvs := kvA A) (fun i σ H' => ∃ (gv : Int) (o3 : Option V), σ = [some (.ref p), some (.str f), some (.int gv), o3] ∧ gv = sumI ((A.take i).map fun x => gnF x.2.2.2 f) ∧ H' d = some (.frz ob (.dK (kvA A))) ∧ ∀ b o, H b = some o → b ≠ d → H' b = some o) ⟨0, _, rfl, rfl, upd_same, fun b o hb nb => by rw [upd_ne nb]; exact f1 _ _ hb⟩ ?_ ?_ ?_
 · rintro i σ H' hi ⟨gv, o3, rfl, _, hf, _⟩
   exact hf
 · rintro i kv σ H' hkv ⟨gv, o3, rfl, hg, hf, kp⟩
   obtain ⟨x, hx, rfl⟩ : ∃ x, A[i]? = some x ∧ kv = ((Sum.inl x.1 : Key), V.ref x.2.1) := by
     unfold kvA at hkv
     rw [List.getElem?_map] at hkv
     cases h : A[i]? with
     | none => rw [h] at hkv; cases hkv
     | some x => rw [h] at hkv; exact ⟨x, rfl, (Option.some.inj hkv).symm⟩
   have hxA := List.mem_of_getElem? hx
   obtain ⟨⟨dx1, fs1, hq, hlot, hfirm, hstart, hstop, hlayers, hno1⟩, hl, hL⟩ := S.ho x hxA
   have hq' := kp _ _ hq (ne_of hq S.dc (by intro w; cases w))
   have hl' := kp _ _ hl (ne_of hl S.dc (by intro w; cases w))
   have hL' : RY H' x.2.2.2.L := fun z hz => kp _ _ (hL z hz) (ne_of (hL z hz) S.dc (by intro w; unfold tupY at w; cases w))
   have hk := hok x hxA
   refine ⟨_, rfl, _, rfl, x.2.1, dx1, fs1, rfl, hq', hno1 "gains" (by decide +kernel), x.2.1, x.2.2.1, x.2.2.2, rfl, ⟨⟨dx1, fs1, hq', hlot, hfirm, hstart, hstop, hlayers, hno1⟩, hl', hL'⟩, hk, fun c G H2 e2 hc hG hGv => ⟨c, rfl, ⟨_, SqL.of hc⟩, ?_⟩⟩
   have hGl : G.length ≤ 60 := by
     have := congrArg List.length hGv
     rw [List.length_map] at this
     unfold gns at this
     rw [List.length_map, List.length_range] at this
     have h2 := hk.2.2
     omega
   have lmG := rfg_len G
   refine lc_listU (xs := rfg G) (fun j ys H5 => ys = (((G.take j).filter fun g => decide (g.2.1 = f)).map fun g => g.2.2).map V.int ∧ H5 = H2) ⟨rfl, rfl⟩ (by omega) ?_ ?_ ?_
   · rintro j ys H5 hj ⟨rfl, rfl⟩
     refine ⟨SqL.of hc, ?_⟩
     rw [List.length_map, List.length_map]
     have h2 := List.length_filter_le (fun g : Gn => decide (g.2.1 = f)) (G.take j)
     rw [List.length_take] at h2
     omega
   · rintro j w ys H5 hw ⟨rfl, rfl⟩ σ0 h0
     obtain ⟨z, hz, rfl⟩ : ∃ z, G[j]? = some z ∧ w = .ref z.1 := by
       unfold rfg at hw
       rw [List.getElem?_map] at hw
       cases g : G[j]? with
       | none => rw [g] at hw; cases hw
       | some z => rw [g] at hw; exact ⟨z, rfl, (Option.some.inj hw).symm⟩
     obtain ⟨u1, u2, rfl⟩ : ∃ u1 u2, σ0 = [u1, u2] := by
       rcases σ0 with _ | ⟨u, _ | ⟨v, _ | ⟨w, r⟩⟩⟩ <;> simp at h0
       exact ⟨u, v, rfl⟩
     have hzt := hG z (List.mem_of_getElem? hz)
     unfold tupG at hzt
     refine ⟨z.1, _, rfl, SqT.of hzt, rfl, _, _, rfl, _, _, rfl, rfl, [_, _], rfl, rfl, ?_⟩
     refine ⟨_, rfl, _, rfl, rfl, _, rfl, ?_⟩
     refine dec2 (fun h => ?_) (fun h => ?_)
     · refine ⟨_, rfl, ?_, rfl⟩
       rw [take_ny hz, List.filter_append, List.filter_cons_of_pos (by simpa using V.str.inj h), List.map_append, List.map_append]
       rfl
     · refine ⟨?_, rfl⟩
       rw [take_ny hz, List.filter_append, List.filter_cons_of_neg (by simpa using fun z => h (congrArg V.str z))]
       simp
   rintro ys H5 ⟨rfl, rfl⟩ s1 hs1
   rw [lmG, List.take_length]
   have g3 := same_upd (o := .lst ((((G.filter fun g => decide (g.2.1 = f)).map fun g => g.2.2)).map V.int)) hs1
   refine ⟨s1, _, rfl, SqL.of upd_same, _, _, rfl, rfl, ?_⟩
   have hgn : ((G.filter fun g => decide (g.2.1 = f)).map fun g => g.2.2).sum = gnF x.2.2.2 f := by
     unfold gnF
     rw [← hGv, List.filter_map, List.map_map, sumI_sum]
     rfl
   refine ⟨_, _, rfl, ?_, g3 _ _ (e2 _ _ hf), fun b o hb nb => g3 _ _ (e2 _ _ (kp b o hb nb))⟩
   rw [take_ny hx, List.map_append]
   show _ = sumI (_ ++ [gnF x.2.2.2 f])
   rw [sumI_snoc, ← hg, ← hgn]
 rintro σ H1 ⟨gv, o3, rfl, hg, hf, kp⟩
 rw [kvl, List.take_length] at hg
 refine ⟨d, ob, _, hf, (fun o' u z => by
   have z : H d = some (.frz o' u) := z
   rw [S.dc] at z
   cases z), ?_⟩
 have e2 : Same H (upd H1 d (.dK (kvA A))) := fun b o hb => by
   by_cases nb : b = d
   · subst nb
     rw [upd_same, ← S.dc]
     exact hb
   · rw [upd_ne nb]
     exact kp b o hb nb
 rw [hg]
 exact ⟨_, rfl, q _ e2⟩
def plN (c : Int) (j k : Nat) : Nat := 97 + ((c / 64 + (0 + (k : Int)) * (c / 7 % 5) + (if (0 + (k : Int)) = c / 8 % (1 + c % 8) then (0 + (j : Int)) else 0)) % 26).toNat
def DnN (c : Int) (j : Nat) (x : Str) : Prop := x.cps.toList[(c / 8 % (1 + c % 8)).toNat]? = some (plN c j (c / 8 % (1 + c % 8)).toNat)
theorem dnN_nd {c : Int} {xs : List Str} (hl : xs.length ≤ 26) (h : ∀ j x, xs[j]? = some x → DnN c j x) : xs.Nodup := by
 refine List.pairwise_iff_getElem.mpr fun i j hi hj hij e => ?_
 have a := h i xs[i] (List.getElem?_eq_getElem hi)
 have b := h j xs[j] (List.getElem?_eq_getElem hj)
 rw [← e] at b
 unfold DnN at a b
 rw [a] at b
 have z := Option.some.inj b
 unfold plN at z
 have hm := Int.emod_nonneg (c / 8) (show (1 + c % 8) ≠ 0 by omega)
 have ht : (0 + (((c / 8 % (1 + c % 8)).toNat : Nat) : Int)) = c / 8 % (1 + c % 8) := by omega
 rw [if_pos ht, if_pos ht] at z
 omega
theorem app_cps (x y : Str) : (x ++ y).cps.toList = x.cps.toList ++ y.cps.toList := by
 show (x.cps ++ y.cps).toList = _
 rw [Array.toList_append]
theorem pl_app {c : Int} {i i2 : Nat} {nm : Str} {x : Nat} (hn : nm.length = i2) (hv : ∀ k, k < i2 → nm.cps.toList[k]? = some (plN c i k)) (hx : x = plN c i i2) : ∀ k, k < i2 + 1 → (nm ++ (⟨#[x]⟩ : Str)).cps.toList[k]? = some (plN c i k) := fun k hk => by
 have hl : nm.cps.toList.length = i2 := hn
 rw [app_cps]
 rcases Nat.lt_or_eq_of_le (Nat.le_of_lt_succ hk) with w | w
 · rw [List.getElem?_append_left (by omega)]
   exact hv k w
 · subst w
   rw [List.getElem?_append_right (by omega), hl, Nat.sub_self]
   show some x = _
   rw [hx]
theorem pre_len : ∀ s, s < 19 → ∀ j, j < 5 → (Txt.slice L26 (some ((s : Nat) : Int)) (some ((s : Nat) + 1 + (0 + ((j : Nat) : Int))))).length = j + 1 := by decide +kernel
theorem pre_nd {xs : List Str} (h : ∀ j x, xs[j]? = some x → x.length = j + 1) : xs.Nodup := by
 refine List.pairwise_iff_getElem.mpr fun i j hi hj hij e => ?_
 have a := h i xs[i] (List.getElem?_eq_getElem hi)
 have b := h j xs[j] (List.getElem?_eq_getElem hj)
 rw [← e] at b
 omega
theorem at_app {P : Nat → Str → Prop} {xs : List Str} {y : Str} (h : ∀ j x, xs[j]? = some x → P j x) (hy : P xs.length y) : ∀ j x, (xs ++ [y])[j]? = some x → P j x := fun j x e => by
 rcases Nat.lt_trichotomy j xs.length with l | l | l
 · rw [List.getElem?_append_left l] at e
   exact h j x e
 · subst l
   rw [List.getElem?_append_right (Nat.le_refl _), Nat.sub_self] at e
   cases e
   exact hy
 · rw [List.getElem?_eq_none (by rw [List.length_append]; show xs.length + 1 ≤ j; omega)] at e
   cases e
def spN6 : Sp := fun vs H Q _ => ∃ (c : Int) (m : Nat), vs = [.int c, .int m] ∧ 1 ≤ m ∧ m ≤ 5 ∧ ∀ l (ts : List Str) H', Same H H' → H' l = some (.lst (ts.map V.str)) → ts.length = m → ts.Nodup → Q (.ref l) H'
def RwA (H : Hp) (q l : Addr) (v : Hv) : Prop := H q = some (.tup [.int v.lot, .str v.firm, .int v.a, .int v.b, .ref l]) ∧ H l = some (.lst (rfy v.L)) ∧ RY H v.L
theorem RwA.same {H H' : Hp} {q l : Addr} {v : Hv} (h : RwA H q l v) (e : Same H H') : RwA H' q l v := ⟨e _ _ h.1, e _ _ h.2.1, h.2.2.same e⟩
theorem RwA.kd {H H' : Hp} {q l d : Addr} {v : Hv} {kv : List (Key × V)} (h : RwA H q l v) (hd : H d = some (.dK kv)) (e : Kd d H H') : RwA H' q l v := ⟨e.tup hd h.1, e.lst hd h.2.1, e.ry hd h.2.2⟩
def InN (ts : List Str) (v : Hv) : Prop := v.firm ∈ ts ∧ ∀ z ∈ v.L, z.2.1 ∈ ts
theorem sc__law_cell : FnScope ["_law_script", "_law_k", "_law_number"] ["_law_script", "_law_k"] (defScope s__law_cell) := ⟨rfl, rfl, rfl, by decide +kernel, rfl, by decide +kernel, by decide +kernel⟩
theorem ok__law_cell (D : Def K mg "_law_cell" s__law_cell .none) (z_len : mg "len" = none) : Cal P w K mg base CX0 cm 1 "_law_cell" ["_law_script", "_law_k"] [] (spCe K) := by
 obtain ⟨f, fd, F, hm⟩ := D
 refine ⟨f, fd, _, F.ok sc__law_cell (fun vs H Q E h => ?_) (fun cdv A outer s H vs Q E hr h => ?_), hm, F.kp, (F.binds fun _ _ _ _ _ _ us hl => match us, hl with | [_, _], _ => rfl), .nil, F.binds fun _ _ _ _ _ _ us hl => match us, hl with | [_, _], _ => rfl⟩
 · obtain ⟨a, ns, k, rfl, hS, k0, k1, q⟩ := h
   rfl
 obtain ⟨a, ns, k, rfl, hS, k0, k1, q⟩ := h
 have nd := sc__law_cell.nd
 refine ⟨_, (pss_cons (ps_if (pt_cmpR op_lt (pv 1) (pe_callB call_len_seq rfl z_len bt_len (pa_cons (pv 0) pa_nil)) (nomark _)) (pss_one (ps_ret (pe_op op_mod (pe_ix ix_seq (pv 0) (pv 1) (fun _ _ => rfl)) (pe_op op_pow pe_int pe_int)))) pss_nil)
   (pss_cons (ps_set (i := 2) nd rfl (Or.inl rfl) (pe_op op_add (pe_op op_mulB (pv 1) pe_int) pe_int))
   (pss_cons (ps_if (pt_cmpR op_gt (pe_callB call_len_seq rfl z_len bt_len (pa_cons (pv 0) pa_nil)) pe_int (nomark _)) (pss_cons (ps_set (i := 2) nd rfl (Or.inl rfl) (pe_op op_mod (pe_ix ix_seq (pv 0) (pe_op op_mod (pe_op op_mulB (pv 1) pe_int) (pe_callB call_len_seq rfl z_len bt_len (pa_cons (pv 0) pa_nil))) (fun _ _ => rfl)) pe_int))
   (pss_one (ps_set (i := 2) nd rfl (Or.inl rfl) (pe_op op_mod (pe_op op_add (pe_op op_mulB (pv 2) pe_int) (pe_op op_mulB (pe_op op_mulB (pv 1) (pv 1)) pe_int)) pe_int)))) pss_nil)
   (pss_one (ps_ret (pe_op op_mod (pe_op op_mulB (pv 2) (pv 2)) pe_int)))))), ?_⟩
 refine ⟨_, rfl, _, rfl, a, _, rfl, .inl hS, _, _, rfl, rfl, _, rfl, ?_⟩
 rw [List.length_map]
 refine dec2 (fun h => ?_) (fun h => ?_)
 · have p : 0 ≤ ns.getD k.toNat 0 % (10 : Int) ^ (45 : Int).toNat ∧ ns.getD k.toNat 0 % (10 : Int) ^ (45 : Int).toNat < 10 ^ 45 := by
     show 0 ≤ ns.getD k.toNat 0 % (10 : Int) ^ 45 ∧ ns.getD k.toNat 0 % (10 : Int) ^ 45 < 10 ^ 45
     omega
   exact ⟨_, rfl, _, rfl, .inl ⟨a, _, k, _, rfl, rfl, hS, at_int k0 h, _, _, rfl, rfl, ⟨by decide, by decide, by decide⟩, _, _, rfl, rfl, (by show (0 : Int) < 10 ^ 45; decide), q _ p.1 p.2⟩⟩
 refine ⟨_, rfl, _, _, rfl, rfl, mul_of (by omega) (by omega) (by omega) (by omega), _, _, rfl, rfl, ?_⟩
 refine ⟨_, rfl, a, _, rfl, .inl hS, _, _, rfl, rfl, _, rfl, ?_⟩
 rw [List.length_map]
 refine dec2 (fun h1 => ?_) (fun h1 => ?_)
 · have m0 := Int.emod_nonneg (k * 7) (show (ns.length : Int) ≠ 0 by omega)
   have m1 := Int.emod_lt_of_pos (k * 7) (show 0 < (ns.length : Int) by omega)
   have kk := prod_in (x := k) (y := k) (m := 100) (n := 100) (by omega) (by omega)
   refine ⟨_, rfl, _, rfl, _, _, rfl, rfl, mul_of (by omega) (by omega) (by omega) (by omega), _, rfl, a, _, rfl, .inl hS, ?_⟩
   rw [List.length_map]
   refine ⟨_, _, rfl, rfl, (by show (0 : Int) < (ns.length : Int); omega), .inl ⟨a, _, k * 7 % (ns.length : Int), _, rfl, rfl, hS, at_int m0 m1, _, _, rfl, rfl, (by show (0 : Int) < 2147483647; decide), ?_⟩⟩
   refine ⟨_, rfl, _, _, rfl, rfl, mul_of (by omega) (by omega) (by omega) (by omega), _, rfl, _, rfl, _, _, rfl, rfl, mul_of (by omega) (by omega) (by omega) (by omega), _, _, rfl, rfl, mul_of (by omega) (by omega) (by omega) (by omega), _, _, rfl, rfl, _, _, rfl, rfl, (by show (0 : Int) < 2147483647; decide), ?_⟩
   exact ⟨_, rfl, _, rfl, _, _, rfl, rfl, mul_of (by omega) (by omega) (by omega) (by omega), _, _, rfl, rfl, (by show (0 : Int) < 2147483629; decide), q _ (by omega) (by omega)⟩
 · exact ⟨_, rfl, _, rfl, _, _, rfl, rfl, mul_of (by omega) (by omega) (by omega) (by omega), _, _, rfl, rfl, (by show (0 : Int) < 2147483629; decide), q _ (by omega) (by omega)⟩
def drF (c k : Int) : Int := match atI [V.int 100003, V.int 200003, V.int 300007, V.int 400009, V.int 500009, V.int 600011, V.int 700001, V.int 800011] (k % 8) with
 | some (.int p) => (c % 1000000007 + 7 * k + 1) * (c % 1000000007 + 7 * k + 1) * 48271 % p
 | _ => 0
def spDr6 : Sp := fun vs H Q _ => ∃ c k : Int, vs = [.int c, .int k] ∧ 0 ≤ k ∧ k ≤ 100 ∧ ∀ d H', Same H H' → 0 ≤ d → d < 1000000 → d = drF c k → Q (.int d) H'
theorem sc__law_draw : FnScope ["_law_cell_here", "_law_at", "_law_primes", "_law_number"] ["_law_cell_here", "_law_at"] (defScope s__law_draw) := ⟨rfl, rfl, rfl, by decide +kernel, rfl, by decide +kernel, by decide +kernel⟩
theorem ok__law_draw (D : Def K mg "_law_draw" s__law_draw .none) : Cal P w K mg base CX0 cm 1 "_law_draw" ["_law_cell_here", "_law_at"] [] spDr6 := by
 obtain ⟨f, fd, F, hm⟩ := D
 refine ⟨f, fd, _, F.ok sc__law_draw (fun vs H Q E h => ?_) (fun cdv A outer s H vs Q E hr h => ?_), hm, F.kp, (F.binds fun _ _ _ _ _ _ us hl => match us, hl with | [_, _], _ => rfl), .nil, F.binds fun _ _ _ _ _ _ us hl => match us, hl with | [_, _], _ => rfl⟩
 · obtain ⟨c, k, rfl, k0, k1, q⟩ := h
   rfl
 obtain ⟨c, k, rfl, k0, k1, q⟩ := h
 have nd := sc__law_draw.nd
 refine ⟨_, (pss_cons (ps_set (i := 2) nd rfl (Or.inl rfl) (pe_lst (pa_cons pe_int (pa_cons pe_int (pa_cons pe_int (pa_cons pe_int (pa_cons pe_int (pa_cons pe_int (pa_cons pe_int (pa_cons pe_int pa_nil))))))))))
   (pss_cons (ps_set (i := 3) nd rfl (Or.inl rfl) (pe_op op_add (pe_op op_add (pe_op op_mod (pv 0) pe_int) (pe_op op_mulB pe_int (pv 1))) pe_int))
   (pss_one (ps_ret (pe_op op_mod (pe_op op_mulB (pe_op op_mulB (pv 3) (pv 3)) pe_int) (pe_ix ix_seq (pv 2) (pe_op op_mod (pv 1) pe_int) (fun _ _ => rfl))))))), ?_⟩
 refine ⟨(by show 8 ≤ sizeLine; decide), fun l hl => ?_⟩
 refine ⟨_, rfl, _, _, rfl, rfl, (by show (0 : Int) < 1000000007; decide), _, rfl, _, _, rfl, rfl, mul_of (by omega) (by omega) (by omega) (by omega), _, _, rfl, rfl, _, _, rfl, rfl, ?_⟩
 have kk := prod_in (x := c % 1000000007 + 7 * k + 1) (y := c % 1000000007 + 7 * k + 1) (m := 2 ^ 32) (n := 2 ^ 32) (by omega) (by omega)
 obtain ⟨p, p0, p1, hp⟩ := pr_at (j := k % 8) (by omega) (by omega)
 refine ⟨_, rfl, _, rfl, _, _, rfl, rfl, mul_of (by omega) (by omega) (by omega) (by omega), _, _, rfl, rfl, mul_of (by omega) (by omega) (by omega) (by omega), _, rfl, _, rfl, _, _, rfl, rfl, (by show (0 : Int) < 8; decide), .inl ⟨l, _, k % 8, _, rfl, rfl, SqL.of upd_same, hp, _, _, rfl, rfl, p0, ?_⟩⟩
 have m0 := Int.emod_nonneg ((c % 1000000007 + 7 * k + 1) * (c % 1000000007 + 7 * k + 1) * 48271) (show p ≠ 0 by omega)
 have m1 := Int.emod_lt_of_pos ((c % 1000000007 + 7 * k + 1) * (c % 1000000007 + 7 * k + 1) * 48271) p0
 exact q _ _ (same_upd hl) m0 (by omega) (by unfold drF; rw [hp])
theorem sc__law_names : FnScope ["_law_cell_here", "_law_many_here", "_law_letters", "_law_size", "_law_at", "_law_names_here", "_law_j", "_law_name", "_law_k", "_law_start", "_law_place"] ["_law_cell_here", "_law_many_here"] (defScope s__law_names) := ⟨rfl, rfl, rfl, by decide +kernel, rfl, by decide +kernel, by decide +kernel⟩
theorem ok__law_names (D : Def K mg "_law_names" s__law_names .none) (z_range : mg "range" = none) : Cal P w K mg base CX0 true 1 "_law_names" ["_law_cell_here", "_law_many_here"] [] spN6 := by
 obtain ⟨f, fd, F, hm⟩ := D
 refine ⟨f, fd, _, F.ok sc__law_names (fun vs H Q E h => ?_) (fun cdv A outer s H vs Q E hr h => ?_), hm, F.kp, (F.binds fun _ _ _ _ _ _ us hl => match us, hl with | [_, _], _ => rfl), .nil, F.binds fun _ _ _ _ _ _ us hl => match us, hl with | [_, _], _ => rfl⟩
 · obtain ⟨c, m, rfl, hm1, hm2, q⟩ := h
   rfl
 obtain ⟨c, m, rfl, hm1, hm2, q⟩ := h
 have nd := sc__law_names.nd
 refine ⟨_, (pss_cons (ps_set (i := 2) nd rfl (Or.inr rfl) pe_str)
   (pss_cons (ps_set (i := 3) nd rfl (Or.inl rfl) (pe_op op_add pe_int (pe_op op_mod (pv 0) pe_int)))
   (pss_cons (ps_set (i := 4) nd rfl (Or.inl rfl) (pe_op op_mod (pe_op op_fdiv (pv 0) pe_int) (pv 3)))
   (pss_cons (ps_set (i := 5) nd rfl (Or.inl rfl) (pe_lst pa_nil))
   (pss_cons (ps_for PassesOwn.never rfl (pi_range1 rfl z_range (pa_cons (pv 1) pa_nil)) (pg_name (i := 6) nd rfl (Or.inl rfl)) (pss_cons (ps_set (i := 7) nd rfl (Or.inl rfl) pe_str)
   (pss_cons (ps_for PassesOwn.never rfl (pi_range1 rfl z_range (pa_cons (pv 3) pa_nil)) (pg_name (i := 8) nd rfl (Or.inl rfl)) (pss_cons (ps_set (i := 10) nd rfl (Or.inl rfl) (pe_op op_add (pe_op op_fdiv (pv 0) pe_int) (pe_op op_mulB (pv 8) (pe_op op_mod (pe_op op_fdiv (pv 0) pe_int) pe_int))))
   (pss_cons (ps_if (pt_cmpR op_eq (pv 8) (pv 4) (nomark _)) (pss_one (ps_set (i := 10) nd rfl (Or.inl rfl) (pe_op op_add (pv 10) (pv 6)))) pss_nil)
   (pss_one (ps_set (i := 7) nd rfl (Or.inl rfl) (pe_op op_add_str (pv 7) (pe_ix ix_seq (pv 2) (pe_op op_mod (pv 10) pe_int) (fun _ _ => rfl))))))))
   (pss_one (ps_expr (pe_bm PySem.F.plainAttrs_list PySem.F.slot_list_append PySem.F.type_list_append mt_append (pv 5) (pa_cons (pv 7) pa_nil)))))))
   (pss_cons (ps_if (pt_cmpR op_eq (pe_op op_mod (pe_op op_fdiv (pv 0) pe_int) pe_int) pe_int (nomark _)) (pss_cons (ps_set (i := 9) nd rfl (Or.inr rfl) (pe_op op_mod (pe_op op_fdiv (pv 0) pe_int) pe_int))
   (pss_one (ps_ret (pe_lc [2, 9] rfl (LcOk.free ["_law_start", "_law_letters"] rfl rfl (List.forall_mem_cons.mpr ⟨rfl, (List.forall_mem_cons.mpr ⟨rfl, (fun _ h => nomatch h)⟩)⟩) (by decide +kernel) rfl (by decide +kernel) rfl (by decide +kernel) (show (["_law_k", "_law_letters", "_law_start"] : List Str).Nodup from by decide +kernel) (List.forall_mem_cons.mpr ⟨⟨_, rfl, rfl, rfl, by decide +kernel⟩, (List.forall_mem_cons.mpr ⟨⟨_, rfl, rfl, rfl, by decide +kernel⟩, (fun _ h => nomatch h)⟩)⟩)) (pi_range1 rfl z_range (pa_cons (pv 1) pa_nil)) (fun C s2 H2 fp xe => (pe_slice sl_str (pv 1) (po_some (pv 2)) (po_some (pe_op op_add (pe_op op_add (pv 2) pe_int) (pv 0))))))))) pss_nil)
   (pss_one (ps_ret (pv 5))))))))), ?_⟩
 have hline : 600 ≤ sizeLine := by decide
 have hat0 := Int.emod_nonneg (c / 8) (show (1 + c % 8) ≠ 0 by omega)
 have hat1 := Int.emod_lt_of_pos (c / 8) (show 0 < (1 + c % 8) by omega)
 refine ⟨_, rfl, _, _, rfl, rfl, (by show (0 : Int) < 8; decide), _, _, rfl, rfl, ?_⟩
 refine ⟨_, rfl, _, _, rfl, rfl, ⟨by decide, by decide⟩, _, rfl, _, _, rfl, rfl, (by show (0 : Int) < (1 + c % 8); omega), ?_⟩
 refine ⟨(by show 0 ≤ sizeLine; decide), fun l hl => ?_⟩
 refine ⟨_, rfl, _, rfl, by omega, by omega, ?_⟩
 refine for_range (fun i σ H' => ∃ (ts : List Str) (o6 o7 o8 o10 : Option V), σ = [some (.int c), some (.int m), some (.str L26), some (.int (1 + c % 8)), some (.int (c / 8 % (1 + c % 8))), some (.ref l), o6, o7, o8, none, o10] ∧ Same H H' ∧ H' l = some (.lst (ts.map V.str)) ∧ ts.length = i ∧ ∀ j x, ts[j]? = some x → DnN c j x) ⟨[], _, _, _, _, rfl, same_upd hl, upd_same, rfl, (fun j x h => nomatch h)⟩ ?_ ?_
 · rintro i σ H1 hi ⟨ts, o6, o7, o8, o10, rfl, eH, hll, htl, htb⟩
   refine ⟨_, rfl, _, rfl, by omega, by omega, ?_⟩
   refine for_range (fun i2 σ H2 => ∃ (nm : Str) (o8 o10 : Option V), σ = [some (.int c), some (.int m), some (.str L26), some (.int (1 + c % 8)), some (.int (c / 8 % (1 + c % 8))), some (.ref l), some (.int (0 + (i : Int))), some (.str nm), o8, none, o10] ∧ nm.length = i2 ∧ (∀ k, k < i2 → nm.cps.toList[k]? = some (plN c i k)) ∧ H2 = H1) ⟨"", _, _, rfl, rfl, (fun k hk => nomatch hk), rfl⟩ ?_ ?_
   · rintro i2 σ H2 hi2 ⟨nm, o8', o10', rfl, hn, hv, rfl⟩
     have hi8 : i2 < 8 := by omega
     refine ⟨_, rfl, _, _, rfl, rfl, ⟨by decide, by decide⟩, _, rfl, _, rfl, _, _, rfl, rfl, ⟨by decide, by decide⟩, _, _, rfl, rfl, (by show (0 : Int) < 5; decide), _, _, rfl, rfl, mul_of (by omega) (by omega) (by omega) (by omega), _, _, rfl, rfl, ?_⟩
     refine ⟨_, rfl, _, rfl, rfl, _, rfl, ?_⟩
     refine dec2 (fun h => ?_) (fun h => ?_)
     · have h' := V.int.inj h
       refine ⟨_, rfl, _, rfl, _, _, rfl, rfl, ?_⟩
       have m0 := Int.emod_nonneg (c / 64 + (0 + (i2 : Int)) * (c / 7 % 5) + (0 + (i : Int))) (show (26 : Int) ≠ 0 by decide)
       have m1 := Int.emod_lt_of_pos (c / 64 + (0 + (i2 : Int)) * (c / 7 % 5) + (0 + (i : Int))) (show (0 : Int) < 26 by decide)
       refine ⟨_, rfl, _, rfl, _, rfl, _, _, rfl, rfl, (by show (0 : Int) < 26; decide), .inr (.inr ⟨L26, _, _, rfl, rfl, (by have := l26_len; omega), l26_at m0 m1, ?_⟩)⟩
       refine ⟨nm, _, rfl, rfl, (by show nm.length + 1 ≤ sizeLine; omega), ?_⟩
       refine ⟨_, _, _, rfl, by rw [str_len_app, hn]; rfl, pl_app hn hv ?_, rfl⟩
       unfold plN
       rw [if_pos h']
     have h' : ¬ (0 + (i2 : Int)) = c / 8 % (1 + c % 8) := fun z => h (congrArg V.int z)
     have m0 := Int.emod_nonneg (c / 64 + (0 + (i2 : Int)) * (c / 7 % 5)) (show (26 : Int) ≠ 0 by decide)
     have m1 := Int.emod_lt_of_pos (c / 64 + (0 + (i2 : Int)) * (c / 7 % 5)) (show (0 : Int) < 26 by decide)
     refine ⟨_, rfl, _, rfl, _, rfl, _, _, rfl, rfl, (by show (0 : Int) < 26; decide), .inr (.inr ⟨L26, _, _, rfl, rfl, (by have := l26_len; omega), l26_at m0 m1, ?_⟩)⟩
     refine ⟨nm, _, rfl, rfl, (by show nm.length + 1 ≤ sizeLine; omega), ?_⟩
     refine ⟨_, _, _, rfl, by rw [str_len_app, hn]; rfl, pl_app hn hv ?_, rfl⟩
     unfold plN
     rw [if_neg h', Int.add_zero]
   · rintro σ H2 ⟨nm, o8', o10', rfl, hn, hv, rfl⟩
     refine ⟨_, rfl, .inl ⟨rfl, _, SqL.of hll⟩, _, rfl, l, _, _, rfl, rfl, hll, (by rw [List.length_map]; omega), ?_⟩
     refine ⟨ts ++ [nm], _, _, _, _, rfl, same_set eH hl, (by rw [upd_same, List.map_append]; rfl), by rw [List.length_append, htl]; rfl, at_app htb ?_⟩
     rw [htl]
     exact hv _ (by omega)
 rintro σ H1 ⟨ts, o6, o7, o8, o10, rfl, eH, hll, htl, htb⟩
 refine ⟨_, rfl, _, _, rfl, rfl, ⟨by decide, by decide⟩, _, _, rfl, rfl, (by show (0 : Int) < 3; decide), rfl, _, rfl, ?_⟩
 refine dec2 (fun h => ?_) (fun h => ?_)
 · refine ⟨_, rfl, _, _, rfl, rfl, ⟨by decide, by decide⟩, _, _, rfl, rfl, (by show (0 : Int) < 19; decide), ?_⟩
   refine ⟨_, rfl, _, rfl, by omega, by omega, ?_⟩
   refine lc_range (fun j ys H2 => ∃ zs : List Str, ys = zs.map V.str ∧ zs.length = j ∧ (∀ k z, zs[k]? = some z → z.length = k + 1) ∧ H2 = H1) ⟨[], rfl, rfl, (fun k z hz => nomatch hz), rfl⟩ (by omega) ?_ ?_ ?_
   · rintro j ys H2 hj ⟨zs, rfl, hz, _, rfl⟩
     rw [List.length_map]
     exact hz
   · rintro j ys H2 hj ⟨zs, rfl, hz, h1, rfl⟩
     have l26 := l26_len
     refine ⟨_, rfl, _, rfl, _, rfl, _, rfl, _, _, rfl, rfl, _, rfl, _, _, rfl, rfl, _, rfl, L26, rfl, by omega, ?_⟩
     refine ⟨zs ++ [Txt.slice L26 (some (c / 3000 % 19)) (some (c / 3000 % 19 + 1 + (0 + (j : Int))))], by rw [List.map_append]; rfl, by rw [List.length_append, hz]; rfl, at_app h1 ?_, rfl⟩
     have w := pre_len (c / 3000 % 19).toNat (by omega) j (by omega)
     rw [show (((c / 3000 % 19).toNat : Nat) : Int) = c / 3000 % 19 by omega] at w
     rw [w, hz]
   · rintro ys H2 ⟨zs, rfl, hz, h1, rfl⟩ l3 hl3
     exact q l3 zs _ (eH.trans (same_upd hl3)) upd_same (by omega) (pre_nd h1)
 · exact ⟨_, rfl, q l ts _ eH hll (by omega) (dnN_nd (by omega) htb)⟩
theorem sc__law_whole : FnScope ["_law_found"] ["_law_found"] (defScope s__law_whole) := ⟨rfl, rfl, rfl, by decide +kernel, rfl, by decide +kernel, by decide +kernel⟩
theorem ok__law_whole (D : Def K mg "_law_whole" s__law_whole .none) (z_isinstance : mg "isinstance" = none) (z_int : mg "int" = none) (z_bool : mg "bool" = none) (q_ib : PySem.W.kitOne K (.type "int") (.type "bool") = some false) : Cal P w K mg base CX0 cm 1 "_law_whole" ["_law_found"] [] spWhole := by
 obtain ⟨f, fd, F, hm⟩ := D
 refine ⟨f, fd, _, F.ok sc__law_whole (fun vs H Q E h => ?_) (fun cdv A outer s H vs Q E hr h => ?_), hm, F.kp, (F.binds fun _ _ _ _ _ _ us hl => match us, hl with | [_], _ => rfl), .nil, F.binds fun _ _ _ _ _ _ us hl => match us, hl with | [_], _ => rfl⟩
 · obtain ⟨i, rfl, q⟩ := h
   rfl
 obtain ⟨i, rfl, q⟩ := h
 have nd := sc__law_whole.nd
 refine ⟨_, (pss_one (ps_ret (pe_and (pe_callB call_is rfl z_isinstance bt_isinstance (pa_cons (pv 0) (pa_cons (pe_bltn (v := .ty "int") rfl z_int bt_int rfl) pa_nil))) (pe_one (pe_not (pe_callB call_is rfl z_isinstance bt_isinstance (pa_cons (pv 0) (pa_cons (pe_bltn (v := .ty "bool") rfl z_bool bt_bool rfl) pa_nil)))))))), ?_⟩
 refine ⟨_, rfl, _, _, _, _, _, rfl, .of (.int i), rfl, rfl, true, rfl, iteT ?_⟩
 exact ⟨_, rfl, _, _, _, _, _, rfl, .of (.int i), rfl, q_ib, false, rfl, q⟩
structure Dd where
 way : Int
 n : Int
 f : Str
 k : Int
 s : Str
 c : Int
 new : Int
def ddT (D : Dd) : List V := [.int D.way, .int D.n, .str D.f, .int D.k, .str D.s, .int D.c, .int D.new]
def dueF (A : List Sh) (D : Dd) : Option Rf := if D.way = 0 then (if D.k < 1 then some (.bad D.k) else none) else rfT A D.n D.f D.k
def putW (W : List Vw) (n : Int) (u : Int × Str × Int × Int × List (Str × Int × Int × Int)) : List Vw := if (W.any fun w => decide (w.1 = n)) = true then W.map (fun w => if w.1 = n then (n, u) else w) else W ++ [(n, u)]
def dropW (W : List Vw) (n : Int) : List Vw := W.filter fun w => decide (w.1 ≠ n)
def soldW (W : List Vw) (n k : Int) (u : Int × Str × Int × Int × List (Str × Int × Int × Int)) : List Vw := if u.2.2.2.1 - (u.2.2.1 + k) = 0 then dropW W n else putW W n (u.1, u.2.1, u.2.2.1 + k, u.2.2.2.1, u.2.2.2.2)
def nwV (W : List Vw) (D : Dd) (o : Option (Int × Str × Int × Int × List (Str × Int × Int × Int))) : List Vw := if D.way = 0 then putW W D.new (D.new, D.f, 0, D.k, [(D.f, D.c, 0, D.k)]) else if D.way < 4 then W else match o with
 | none => W
 | some u => if D.way < 6 then soldW W D.n D.k u else putW (soldW W D.n D.k u) D.new (u.1, D.s, u.2.2.1, u.2.2.1 + D.k, u.2.2.2.2 ++ [(D.s, D.c, u.2.2.1, u.2.2.1 + D.k)])
theorem put_w (A : List Sh) (n : Int) (x : Addr × Addr × Hv) : (putA A n x).map vw = if ((A.map vw).any fun w => decide (w.1 = n)) = true then (A.map vw).map (fun w => if w.1 = n then vw (n, x) else w) else A.map vw ++ [vw (n, x)] := by
 unfold putA
 rw [List.any_map]
 show List.map vw (if (A.any fun y => decide (y.1 = n)) = true then _ else _) = if (A.any fun y => decide (y.1 = n)) = true then _ else _
 split
 · rw [List.map_map, List.map_map]
   refine List.map_congr_left fun y _ => ?_
   show vw (if y.1 = n then (y.1, x) else y) = if y.1 = n then vw (n, x) else vw y
   by_cases h : y.1 = n
   · rw [if_pos h, if_pos h, h]
   · rw [if_neg h, if_neg h]
 · rw [List.map_append]
   rfl
theorem put_W (A : List Sh) (n : Int) (x : Addr × Addr × Hv) : (putA A n x).map vw = putW (A.map vw) n (vv x.2.2) := put_w A n x
theorem drop_W (A : List Sh) (n : Int) : (dropA A n).map vw = dropW (A.map vw) n := by
 unfold dropA dropW
 rw [List.filter_map]
 rfl
theorem sold_W (A : List Sh) (n k : Int) (v : Hv) (q l : Addr) : (soldA A n k v q l).map vw = soldW (A.map vw) n k (vv v) := by
 unfold soldA soldW
 show List.map vw (if v.b - (v.a + k) = 0 then _ else _) = if v.b - (v.a + k) = 0 then _ else _
 split
 · exact drop_W ..
 · rw [put_W]
   rfl
theorem keys_vw {A B : List Sh} (h : A.map vw = B.map vw) : A.map (·.1) = B.map (·.1) := by
 have := congrArg (List.map (·.1)) h
 rw [List.map_map, List.map_map] at this
 exact this
theorem drop_put (B : List Sh) (n : Int) (x : Addr × Addr × Hv) : dropA (putA B n x) n = dropA B n := by
 unfold putA dropA
 split
 · rw [List.filter_map]
   have e : ((fun y : Sh => decide (y.1 ≠ n)) ∘ fun y : Sh => if y.1 = n then (y.1, x) else y) = fun y => decide (y.1 ≠ n) := funext fun y => by
     show decide ((if y.1 = n then (y.1, x) else y).1 ≠ n) = decide (y.1 ≠ n)
     split <;> rfl
   rw [e]
   refine (List.map_congr_left (g := id) fun y hy => ?_).trans (List.map_id _)
   exact if_neg (of_decide_eq_true (List.mem_filter.mp hy).2)
 · rw [List.filter_append, List.filter_cons_of_neg (by simp), List.filter_nil, List.append_nil]
theorem sold_mem {B : List Sh} {n k : Int} {v : Hv} {q l : Addr} {x : Sh} (h : x ∈ soldA B n k v q l) : x ∈ B ∨ (x = (n, q, l, { v with a := v.a + k }) ∧ ¬ v.b - (v.a + k) = 0) := by
 unfold soldA at h
 split at h
 · exact .inl (List.mem_filter.mp h).1
 · rename_i g
   rcases mem_putA h with w | w
   · exact .inr ⟨w, g⟩
   · exact .inl w
theorem sold_ln {B : List Sh} {n k : Int} {v : Hv} {q l : Addr} (h : n ∈ B.map (·.1)) : (soldA B n k v q l).length ≤ B.length := by
 unfold soldA
 split
 · exact len_dropA ..
 · unfold putA
   rw [if_pos]
   · rw [List.length_map]
     exact Nat.le_refl _
   · obtain ⟨y, hy, e⟩ := List.mem_map.mp h
     exact List.any_eq_true.mpr ⟨y, hy, decide_eq_true e⟩
theorem lf_am (k : Int) : (rF (.bad k)).lookup ("amount" : Str) = some (.int k) := by
 show (putF "amount" (.int k) []).lookup ("amount" : Str) = _
 rw [lookup_putF, if_pos rfl]
theorem lf_gd (k : Int) : (rF (.gds k)).lookup ("holding" : Str) = some (.int k) := by
 show (putF "holding" (.int k) []).lookup ("holding" : Str) = _
 rw [lookup_putF, if_pos rfl]
theorem lf_fh (n k : Int) : (rF (.few n k)).lookup ("holding" : Str) = some (.int n) := by
 show (putF "lack" (.int k) (putF "holding" (.int n) [])).lookup ("holding" : Str) = _
 rw [lookup_putF, if_neg (by decide +kernel), lookup_putF, if_pos rfl]
theorem lf_fl (n k : Int) : (rF (.few n k)).lookup ("lack" : Str) = some (.int k) := by
 show (putF "lack" (.int k) (putF "holding" (.int n) [])).lookup ("lack" : Str) = _
 rw [lookup_putF, if_pos rfl]
def spRefu (CB CG CT : Addr) : Sp := fun vs H Q _ => ∃ (a e : Addr) (r : Rf), vs = [.ref a] ∧ H a = some (excO a (.ref (rC CB CG CT r)) (some e)) ∧ H e = some (.xd (rF r)) ∧ ∀ t H', Same H H' → H' t = some (.tup (rU r)) → Q (.ref t) H'
def NoA (H : Hp) (r : Rf) (Q : VK) : Prop := ∀ t t2 H', Same H H' → H' t = some (.tup [.bl false, .ref t2]) → H' t2 = some (.tup (rU r)) → Q (.ref t) H'
def spAs (CS CH : Addr) : Sp := fun vs H Q _ => ∃ (p d dp : Addr) (A : List Sh) (D : Dd), vs = [.ref p, .ref dp] ∧ H dp = some (.tup (ddT D)) ∧ Stk CS CH H p d A ∧ A.length ≤ 1000 ∧ (∀ x ∈ A, x.2.2.2.L.length ≤ 1000) ∧ (∀ r, dueF A D = some r → NoA H r Q) ∧
 (dueF A D = none → D.way = 0 → 1 ≤ D.k → ∀ t A' H', Kd d H H' → H' t = some (.tup [.bl true, .non]) → Stk CS CH H' p d A' → A'.map vw = nwV (A.map vw) D (lkV A D.n) → (∀ x ∈ A', x ∈ A ∨ H x.2.2.1 = none) → Q (.ref t) H') ∧
 (dueF A D = none → D.way ≠ 0 → ∀ q l v, (D.n, q, l, v) ∈ A → v.firm = D.f → 1 ≤ D.k → D.k ≤ v.b - v.a → ∀ t t2 l' A' H', Kd d H H' → H l' = none → H' l' = some (.lst (rfy v.L)) → RY H' v.L → H' t2 = some (.tup [.int v.lot, .int v.a, .int (v.a + D.k), .ref l']) → H' t = some (.tup [.bl true, .ref t2]) → Stk CS CH H' p d A' → A'.map vw = nwV (A.map vw) D (lkV A D.n) → (∀ x ∈ A', x ∈ A ∨ H x.2.2.1 = none) → (∀ x ∈ A', x.2.2.1 ≠ l') → Q (.ref t) H')
def spDu : Sp := fun vs H Q _ => ∃ (rd dp : Addr) (B : List Sh) (D : Dd), vs = [.ref rd, .ref dp] ∧ H dp = some (.tup (ddT D)) ∧ H rd = some (.dK (kvA B)) ∧ (∀ x ∈ B, RwA H x.2.1 x.2.2.1 x.2.2.2) ∧ (B.map (·.1)).Nodup ∧ (∀ r, dueF B D = some r → NoA H r Q) ∧
 (dueF B D = none → D.way = 0 → 1 ≤ D.k → ∀ t H', Same H H' → H' t = some (.tup [.bl true, .non]) → Q (.ref t) H') ∧
 (dueF B D = none → D.way ≠ 0 → ∀ q l v, (D.n, q, l, v) ∈ B → v.firm = D.f → 1 ≤ D.k → D.k ≤ v.b - v.a → ∀ t t2 l' H', Same H H' → H l' = none → H' l' = some (.lst (rfy v.L)) → H' t2 = some (.tup [.int v.lot, .int v.a, .int (v.a + D.k), .ref l']) → H' t = some (.tup [.bl true, .ref t2]) → Q (.ref t) H')
theorem sc__law_refusal : FnScope ["_law_e", "_law_some"] ["_law_e"] (defScope s__law_refusal) := ⟨rfl, rfl, rfl, by decide +kernel, rfl, by decide +kernel, by decide +kernel⟩
theorem ok__law_refusal (D : Def K mg "_law_refusal" s__law_refusal .none) {C_BadAmount C_NoGoods C_NoNumber C_TooFew : Addr} (z_isinstance : mg "isinstance" = none) (z_ValueError : mg "ValueError" = none) (m_NoNumber : mg "NoNumber" = some (.ref C_NoNumber)) (m_BadAmount : mg "BadAmount" = some (.ref C_BadAmount)) (m_NoGoods : mg "NoGoods" = some (.ref C_NoGoods)) (m_TooFew : mg "TooFew" = some (.ref C_TooFew)) (X_BadAmount : XCls K C_BadAmount) (X_NoGoods : XCls K C_NoGoods) (X_TooFew : XCls K C_TooFew) (q_vBadAmount : PySem.W.kitOne K (.ref C_BadAmount) (.type "ValueError") = some true) (q_nBadAmount : PySem.W.kitOne K (.ref C_BadAmount) (.ref C_NoNumber) = some false) (q_kBadAmountBadAmount : PySem.W.kitOne K (.ref C_BadAmount) (.ref C_BadAmount) = some true) (q_kBadAmountNoGoods : PySem.W.kitOne K (.ref C_BadAmount) (.ref C_NoGoods) = some false) (q_kBadAmountTooFew : PySem.W.kitOne K (.ref C_BadAmount) (.ref C_TooFew) = some false) (n_BadAmountamount : NoAttr K C_BadAmount "amount") (q_vNoGoods : PySem.W.kitOne K (.ref C_NoGoods) (.type "ValueError") = some true) (q_nNoGoods : PySem.W.kitOne K (.ref C_NoGoods) (.ref C_NoNumber) = some false) (q_kNoGoodsBadAmount : PySem.W.kitOne K (.ref C_NoGoods) (.ref C_BadAmount) = some false) (q_kNoGoodsNoGoods : PySem.W.kitOne K (.ref C_NoGoods) (.ref C_NoGoods) = some true) (q_kNoGoodsTooFew : PySem.W.kitOne K (.ref C_NoGoods) (.ref C_TooFew) = some false) (n_NoGoodsholding : NoAttr K C_NoGoods "holding") (q_vTooFew : PySem.W.kitOne K (.ref C_TooFew) (.type "ValueError") = some true) (q_nTooFew : PySem.W.kitOne K (.ref C_TooFew) (.ref C_NoNumber) = some false) (q_kTooFewBadAmount : PySem.W.kitOne K (.ref C_TooFew) (.ref C_BadAmount) = some false) (q_kTooFewNoGoods : PySem.W.kitOne K (.ref C_TooFew) (.ref C_NoGoods) = some false) (q_kTooFewTooFew : PySem.W.kitOne K (.ref C_TooFew) (.ref C_TooFew) = some true) (n_TooFewholding : NoAttr K C_TooFew "holding") (n_TooFewlack : NoAttr K C_TooFew "lack") : Cal P w K mg base CX0 cm 1 "_law_refusal" ["_law_e"] [] (spRefu C_BadAmount C_NoGoods C_TooFew) := by
 obtain ⟨f, fd, F, hm⟩ := D
 refine ⟨f, fd, _, F.ok sc__law_refusal (fun vs H Q E h => ?_) (fun cdv A outer s H vs Q E hr h => ?_), hm, F.kp, (F.binds fun _ _ _ _ _ _ us hl => match us, hl with | [_], _ => rfl), .nil, F.binds fun _ _ _ _ _ _ us hl => match us, hl with | [_], _ => rfl⟩
 · obtain ⟨a, e, r, rfl, ha, he, q⟩ := h
   rfl
 obtain ⟨a, e, r, rfl, ha, he, q⟩ := h
 have nd := sc__law_refusal.nd
 refine ⟨_, (pss_cons (ps_if (PW.pt (pw_or (pt_not (pt_val (pe_callB call_is rfl z_isinstance bt_isinstance (pa_cons (pv 0) (pa_cons (pe_bltn (v := .ty "ValueError") rfl z_ValueError bt_ValueError rfl) pa_nil))))) (pw_or1 (pt_val (pe_callB call_is rfl z_isinstance bt_isinstance (pa_cons (pv 0) (pa_cons (pe_glob (v := .ref C_NoNumber) rfl m_NoNumber rfl) pa_nil))))))) (pss_one (ps_ret (pe_tup (pa_cons pe_str pa_nil)))) pss_nil)
   (pss_cons (ps_set (i := 1) nd rfl (Or.inl rfl) (pe_lst (pa_cons (pe_callB call_is rfl z_isinstance bt_isinstance (pa_cons (pv 0) (pa_cons (pe_glob (v := .ref C_BadAmount) rfl m_BadAmount rfl) pa_nil))) (pa_cons (pe_callB call_is rfl z_isinstance bt_isinstance (pa_cons (pv 0) (pa_cons (pe_glob (v := .ref C_NoGoods) rfl m_NoGoods rfl) pa_nil))) (pa_cons (pe_callB call_is rfl z_isinstance bt_isinstance (pa_cons (pv 0) (pa_cons (pe_glob (v := .ref C_TooFew) rfl m_TooFew rfl) pa_nil))) pa_nil)))))
   (pss_cons (ps_if (pt_cmpR (op_eqF hr) (pv 1) (pe_lst (pa_cons pe_bl (pa_cons pe_bl (pa_cons pe_bl pa_nil)))) (nomark _)) (pss_one (ps_ret (pe_tup (pa_cons pe_str (pa_cons (pe_fldX (pv 0) rfl) pa_nil))))) pss_nil)
   (pss_cons (ps_if (pt_cmpR (op_eqF hr) (pv 1) (pe_lst (pa_cons pe_bl (pa_cons pe_bl (pa_cons pe_bl pa_nil)))) (nomark _)) (pss_one (ps_ret (pe_tup (pa_cons pe_str (pa_cons (pe_fldX (pv 0) rfl) pa_nil))))) pss_nil)
   (pss_cons (ps_if (pt_cmpR (op_eqF hr) (pv 1) (pe_lst (pa_cons pe_bl (pa_cons pe_bl (pa_cons pe_bl pa_nil)))) (nomark _)) (pss_one (ps_ret (pe_tup (pa_cons pe_str (pa_cons (pe_fldX (pv 0) rfl) (pa_cons (pe_fldX (pv 0) rfl) pa_nil)))))) pss_nil)
   (pss_one (ps_ret (pe_tup (pa_cons pe_str pa_nil))))))))), ?_⟩
 cases r with
 | bad k =>
   refine ⟨_, rfl, _, _, _, _, _, rfl, .exc ha X_BadAmount, rfl, q_vBadAmount, true, rfl, iteF ?_⟩
   refine ⟨_, rfl, _, _, _, _, _, rfl, .exc ha X_BadAmount, rfl, q_nBadAmount, false, rfl, iteF ?_⟩
   refine ⟨_, rfl, _, _, _, _, _, rfl, .exc ha X_BadAmount, rfl, q_kBadAmountBadAmount, _, rfl, _, _, _, _, _, rfl, .exc ha X_BadAmount, rfl, q_kBadAmountNoGoods, _, rfl, _, _, _, _, _, rfl, .exc ha X_BadAmount, rfl, q_kBadAmountTooFew, (by show 3 ≤ sizeLine; decide), fun l hl => ?_⟩
   have f1 := same_upd (o := .lst [.bl true, .bl false, .bl false]) hl
   have hl1 : upd H l (.lst [.bl true, .bl false, .bl false]) l = some (.lst [.bl true, .bl false, .bl false]) := upd_same
   have ha := f1 _ _ ha
   have he := f1 _ _ he
   generalize upd H l (.lst [.bl true, .bl false, .bl false]) = H1 at f1 hl1 ha he ⊢
   refine ⟨_, rfl, (by show 3 ≤ sizeLine; decide), fun m0 hm0 => ?_⟩
   have g0 := same_upd (o := .lst [.bl true, .bl false, .bl false]) hm0
   refine ⟨l, m0, _, _, rfl, rfl, SqL.of (g0 _ _ hl1), SqL.of upd_same, rfl, rfl, rfl, true, rfl, iteT ?_⟩
   have ha := g0 _ _ ha
   have he := g0 _ _ he
   have hl1 := g0 _ _ hl1
   have f1 := f1.trans g0
   clear g0
   exact ⟨_, rfl, a, _, e, _, _, rfl, ha, he, X_BadAmount, n_BadAmountamount, lf_am _, (by show 2 ≤ sizeLine; decide), fun t ht => q t _ (f1.trans (same_upd ht)) upd_same⟩
 | gds k =>
   refine ⟨_, rfl, _, _, _, _, _, rfl, .exc ha X_NoGoods, rfl, q_vNoGoods, true, rfl, iteF ?_⟩
   refine ⟨_, rfl, _, _, _, _, _, rfl, .exc ha X_NoGoods, rfl, q_nNoGoods, false, rfl, iteF ?_⟩
   refine ⟨_, rfl, _, _, _, _, _, rfl, .exc ha X_NoGoods, rfl, q_kNoGoodsBadAmount, _, rfl, _, _, _, _, _, rfl, .exc ha X_NoGoods, rfl, q_kNoGoodsNoGoods, _, rfl, _, _, _, _, _, rfl, .exc ha X_NoGoods, rfl, q_kNoGoodsTooFew, (by show 3 ≤ sizeLine; decide), fun l hl => ?_⟩
   have f1 := same_upd (o := .lst [.bl false, .bl true, .bl false]) hl
   have hl1 : upd H l (.lst [.bl false, .bl true, .bl false]) l = some (.lst [.bl false, .bl true, .bl false]) := upd_same
   have ha := f1 _ _ ha
   have he := f1 _ _ he
   generalize upd H l (.lst [.bl false, .bl true, .bl false]) = H1 at f1 hl1 ha he ⊢
   refine ⟨_, rfl, (by show 3 ≤ sizeLine; decide), fun m0 hm0 => ?_⟩
   have g0 := same_upd (o := .lst [.bl true, .bl false, .bl false]) hm0
   refine ⟨l, m0, _, _, rfl, rfl, SqL.of (g0 _ _ hl1), SqL.of upd_same, rfl, rfl, rfl, false, rfl, iteF ?_⟩
   have ha := g0 _ _ ha
   have he := g0 _ _ he
   have hl1 := g0 _ _ hl1
   have f1 := f1.trans g0
   clear g0
   refine ⟨_, rfl, (by show 3 ≤ sizeLine; decide), fun m1 hm1 => ?_⟩
   have g1 := same_upd (o := .lst [.bl false, .bl true, .bl false]) hm1
   refine ⟨l, m1, _, _, rfl, rfl, SqL.of (g1 _ _ hl1), SqL.of upd_same, rfl, rfl, rfl, true, rfl, iteT ?_⟩
   have ha := g1 _ _ ha
   have he := g1 _ _ he
   have hl1 := g1 _ _ hl1
   have f1 := f1.trans g1
   clear g1
   exact ⟨_, rfl, a, _, e, _, _, rfl, ha, he, X_NoGoods, n_NoGoodsholding, lf_gd _, (by show 2 ≤ sizeLine; decide), fun t ht => q t _ (f1.trans (same_upd ht)) upd_same⟩
 | few k k2 =>
   refine ⟨_, rfl, _, _, _, _, _, rfl, .exc ha X_TooFew, rfl, q_vTooFew, true, rfl, iteF ?_⟩
   refine ⟨_, rfl, _, _, _, _, _, rfl, .exc ha X_TooFew, rfl, q_nTooFew, false, rfl, iteF ?_⟩
   refine ⟨_, rfl, _, _, _, _, _, rfl, .exc ha X_TooFew, rfl, q_kTooFewBadAmount, _, rfl, _, _, _, _, _, rfl, .exc ha X_TooFew, rfl, q_kTooFewNoGoods, _, rfl, _, _, _, _, _, rfl, .exc ha X_TooFew, rfl, q_kTooFewTooFew, (by show 3 ≤ sizeLine; decide), fun l hl => ?_⟩
   have f1 := same_upd (o := .lst [.bl false, .bl false, .bl true]) hl
   have hl1 : upd H l (.lst [.bl false, .bl false, .bl true]) l = some (.lst [.bl false, .bl false, .bl true]) := upd_same
   have ha := f1 _ _ ha
   have he := f1 _ _ he
   generalize upd H l (.lst [.bl false, .bl false, .bl true]) = H1 at f1 hl1 ha he ⊢
   refine ⟨_, rfl, (by show 3 ≤ sizeLine; decide), fun m0 hm0 => ?_⟩
   have g0 := same_upd (o := .lst [.bl true, .bl false, .bl false]) hm0
   refine ⟨l, m0, _, _, rfl, rfl, SqL.of (g0 _ _ hl1), SqL.of upd_same, rfl, rfl, rfl, false, rfl, iteF ?_⟩
   have ha := g0 _ _ ha
   have he := g0 _ _ he
   have hl1 := g0 _ _ hl1
   have f1 := f1.trans g0
   clear g0
   refine ⟨_, rfl, (by show 3 ≤ sizeLine; decide), fun m1 hm1 => ?_⟩
   have g1 := same_upd (o := .lst [.bl false, .bl true, .bl false]) hm1
   refine ⟨l, m1, _, _, rfl, rfl, SqL.of (g1 _ _ hl1), SqL.of upd_same, rfl, rfl, rfl, false, rfl, iteF ?_⟩
   have ha := g1 _ _ ha
   have he := g1 _ _ he
   have hl1 := g1 _ _ hl1
   have f1 := f1.trans g1
   clear g1
   refine ⟨_, rfl, (by show 3 ≤ sizeLine; decide), fun m2 hm2 => ?_⟩
   have g2 := same_upd (o := .lst [.bl false, .bl false, .bl true]) hm2
   refine ⟨l, m2, _, _, rfl, rfl, SqL.of (g2 _ _ hl1), SqL.of upd_same, rfl, rfl, rfl, true, rfl, iteT ?_⟩
   have ha := g2 _ _ ha
   have he := g2 _ _ he
   have hl1 := g2 _ _ hl1
   have f1 := f1.trans g2
   clear g2
   exact ⟨_, rfl, a, _, e, _, _, rfl, ha, he, X_TooFew, n_TooFewholding, lf_fh _ _, _, rfl, a, _, e, _, _, rfl, ha, he, X_TooFew, n_TooFewlack, lf_fl _ _, (by show 3 ≤ sizeLine; decide), fun t ht => q t _ (f1.trans (same_upd ht)) upd_same⟩
theorem sc__law_asked : FnScope ["_law_stock", "_law_deed_here", "_law_found", "_law_e", "_law_way", "_law_number", "_law_firm", "_law_many_here", "_law_sister", "_law_cost", "_law_new"] ["_law_stock", "_law_deed_here"] (defScope s__law_asked) := ⟨rfl, rfl, rfl, by decide +kernel, rfl, by decide +kernel, by decide +kernel⟩
theorem ok__law_asked (D : Def K mg "_law_asked" s__law_asked .none) {C_BadAmount C_BooksError C_Holding C_NoGoods C_Stock C_TooFew : Addr} (c_Stock_bring : CalM P w K mg base (CX1 P w) true 3 C_Stock "bring" ["self", "number", "firm", "cost", "many"] [] (spBrE C_Stock C_Holding C_BadAmount)) (c_Stock_taken : CalM P w K mg base (CX1 P w) true 3 C_Stock "taken" ["self", "number", "firm", "many"] [] (spTkE C_Stock C_Holding C_BadAmount C_NoGoods C_TooFew)) (c_Stock_sell : CalM P w K mg base (CX1 P w) true 4 C_Stock "sell" ["self", "number", "firm", "many"] [] (spSlE C_Stock C_Holding C_BadAmount C_NoGoods C_TooFew)) (c_Stock_hand : CalM P w K mg base (CX1 P w) true 5 C_Stock "hand" ["self", "number", "firm", "many", "sister", "cost", "new"] [] (spHdE C_Stock C_Holding C_BadAmount C_NoGoods C_TooFew)) (c__law_refusalF : Cal P w K mg base CX0 false 1 "_law_refusal" ["_law_e"] [] (spRefu C_BadAmount C_NoGoods C_TooFew)) (m_BooksError : mg "BooksError" = some (.ref C_BooksError)) (q_mBadAmount : PySem.W.exmOne K (.ref C_BadAmount) (.ref C_BooksError) = some true) (q_mNoGoods : PySem.W.exmOne K (.ref C_NoGoods) (.ref C_BooksError) = some true) (q_mTooFew : PySem.W.exmOne K (.ref C_TooFew) (.ref C_BooksError) = some true) (cl_Stock : Cls K C_Stock) : Cal P w K mg base CX0 true 6 "_law_asked" ["_law_stock", "_law_deed_here"] [] (spAs C_Stock C_Holding) := by
 obtain ⟨f, fd, F, hm⟩ := D
 obtain ⟨f_Stock_bring, fd_Stock_bring, d_Stock_bring, G_Stock_bring, m_Stock_bring, b_Stock_bring, v_Stock_bring, b_Stock_bring1⟩ := c_Stock_bring
 obtain ⟨f_Stock_taken, fd_Stock_taken, d_Stock_taken, G_Stock_taken, m_Stock_taken, b_Stock_taken, v_Stock_taken, b_Stock_taken1⟩ := c_Stock_taken
 obtain ⟨f_Stock_sell, fd_Stock_sell, d_Stock_sell, G_Stock_sell, m_Stock_sell, b_Stock_sell, v_Stock_sell, b_Stock_sell1⟩ := c_Stock_sell
 obtain ⟨f_Stock_hand, fd_Stock_hand, d_Stock_hand, G_Stock_hand, m_Stock_hand, b_Stock_hand, v_Stock_hand, b_Stock_hand1⟩ := c_Stock_hand
 obtain ⟨f__law_refusalF, fd__law_refusalF, d__law_refusalF, G__law_refusalF, m__law_refusalF, k__law_refusalF, b__law_refusalF, v__law_refusalF, b__law_refusalF1⟩ := c__law_refusalF
 refine ⟨f, fd, _, F.ok sc__law_asked (fun vs H Q E h => ?_) (fun cdv A outer s H vs Q E hr h => ?_), hm, F.kp, (F.binds fun _ _ _ _ _ _ us hl => match us, hl with | [_, _], _ => rfl), .nil, F.binds fun _ _ _ _ _ _ us hl => match us, hl with | [_, _], _ => rfl⟩
 · obtain ⟨p, d, dp, A, D, rfl, hd, S, hA, hLA, q1, q2, q3⟩ := h
   rfl
 obtain ⟨p, d, dp, A, D, rfl, hd, S, hA, hLA, q1, q2, q3⟩ := h
 have nd := sc__law_asked.nd
 refine ⟨_, (pss_cons (ps_asg (pv 1) (pg_tup rfl (pgs_cons (pg_name (i := 4) nd rfl (Or.inl rfl)) (pgs_cons (pg_name (i := 5) nd rfl (Or.inl rfl)) (pgs_cons (pg_name (i := 6) nd rfl (Or.inl rfl)) (pgs_cons (pg_name (i := 7) nd rfl (Or.inl rfl)) (pgs_cons (pg_name (i := 8) nd rfl (Or.inl rfl)) (pgs_cons (pg_name (i := 9) nd rfl (Or.inl rfl)) (pgs_cons (pg_name (i := 10) nd rfl (Or.inl rfl)) pgs_nil)))))))))
   (pss_cons (ps_set (i := 2) nd rfl (Or.inl rfl) pe_non)
   (pss_cons (ps_try (i := 3) nd rfl rfl rfl rfl rfl m_BooksError (fun pn E' R Ek hpo hxe => (pss_one (ps_if (pt_cmpR op_eq (pv 4) pe_int (nomark _)) (pss_one (ps_set (i := 2) nd rfl (Or.inl rfl) (pe_methR (pv 0) cl_Stock m_Stock_bring G_Stock_bring (hr.mono (by decide)) b_Stock_bring Paired.nil hxe (pa_cons (pv 10) (pa_cons (pv 6) (pa_cons (pv 9) (pa_cons (pv 7) pa_nil))))))) (pss_one (ps_if (pt_cmpR op_lt (pv 4) pe_int (nomark _)) (pss_one (ps_set (i := 2) nd rfl (Or.inl rfl) (pe_methR (pv 0) cl_Stock m_Stock_taken G_Stock_taken (hr.mono (by decide)) b_Stock_taken Paired.nil hxe (pa_cons (pv 5) (pa_cons (pv 6) (pa_cons (pv 7) pa_nil)))))) (pss_one (ps_if (pt_cmpR op_lt (pv 4) pe_int (nomark _)) (pss_one (ps_set (i := 2) nd rfl (Or.inl rfl) (pe_methR (pv 0) cl_Stock m_Stock_sell G_Stock_sell (hr.mono (by decide)) b_Stock_sell Paired.nil hxe (pa_cons (pv 5) (pa_cons (pv 6) (pa_cons (pv 7) pa_nil)))))) (pss_one (ps_set (i := 2) nd rfl (Or.inl rfl) (pe_methR (pv 0) cl_Stock m_Stock_hand G_Stock_hand (hr.mono (by decide)) b_Stock_hand Paired.nil hxe (pa_cons (pv 5) (pa_cons (pv 6) (pa_cons (pv 7) (pa_cons (pv 8) (pa_cons (pv 9) (pa_cons (pv 10) pa_nil)))))))))))))))) (fun _ => (pss_one (ps_ret (pe_tup (pa_cons pe_bl (pa_cons (pe_call G__law_refusalF (Room.sup (hr.mono (by decide)) _) rfl m__law_refusalF k__law_refusalF b__law_refusalF Paired.nil pass0 (pa_cons (pv 3) pa_nil)) pa_nil)))))))
   (pss_one (ps_ret (pe_tup (pa_cons pe_bl (pa_cons (pv 2) pa_nil)))))))), ?_⟩
 obtain ⟨dx, fs, hp, hly, hno⟩ := S.ob
 have hqm : ∀ r, PySem.W.exmOne K (.ref (rC C_BadAmount C_NoGoods C_TooFew r)) (.ref C_BooksError) = some true := fun r => by
   cases r
   · exact q_mBadAmount
   · exact q_mNoGoods
   · exact q_mTooFew
 have hd : H dp = some (.tup [.int D.way, .int D.n, .str D.f, .int D.k, .str D.s, .int D.c, .int D.new]) := hd
 refine ⟨_, rfl, dp, _, rfl, SqT.of hd, rfl, _, _, rfl, _, _, rfl, _, _, rfl, _, _, rfl, _, _, rfl, _, _, rfl, _, _, rfl, rfl, ?_⟩
 refine ⟨_, rfl, rfl, _, rfl, ?_⟩
 refine dec2 (fun h => ?_) (fun h => ?_)
 · have h0 : D.way = 0 := V.int.inj h
   have hdu : dueF A D = if D.k < 1 then some (.bad D.k) else none := if_pos h0
   refine ⟨_, rfl, p, dx, fs, rfl, hp, hno "bring" (by decide +kernel), _, rfl, _, rfl, _, rfl, _, rfl, rfl, p, d, A, D.new, D.c, D.k, D.f, rfl, S, hA, (fun hk e H1 e1 he => ⟨hqm (.bad D.k), fun x hx => by
     have nx : e ≠ x := ne_of_none he hx
     refine ⟨_, rfl, x, e, (.bad D.k), rfl, upd_same, (by rw [upd_ne nx]; exact he), fun t2 H2 e2 ht2 => ⟨(by show 2 ≤ sizeLine; decide), fun t ht => ?_⟩⟩
     have g := same_upd (o := .tup [.bl false, .ref t2]) ht
     exact q1 (.bad D.k) (hdu.trans (if_pos hk)) t t2 _ (((e1.trans (same_upd hx)).trans e2).trans g) upd_same (g _ _ ht2)⟩), fun hk q l y H1 K1 hl S1 => ?_⟩
   refine ⟨_, rfl, (by show 2 ≤ sizeLine; decide), fun t ht => ?_⟩
   have g := same_upd (o := .tup [.bl true, .non]) ht
   refine q2 (hdu.trans (if_neg (by omega))) h0 hk t _ _ (K1.trans (Kd.of g)) upd_same (S1.same g) ?_ fun x hx => ?_
   · rw [put_W]
     exact (if_pos h0).symm
   · rcases mem_putA hx with w | w
     · rw [w]
       exact .inr hl
     · exact .inl w
 have h0 : ¬ D.way = 0 := fun z => h (congrArg V.int z)
 have hdu : dueF A D = rfT A D.n D.f D.k := if_neg h0
 refine ⟨_, rfl, _, _, rfl, rfl, _, rfl, ?_⟩
 refine dec2 (fun h4 => ?_) (fun h4 => ?_)
 · refine ⟨_, rfl, p, dx, fs, rfl, hp, hno "taken" (by decide +kernel), _, rfl, _, rfl, _, rfl, rfl, p, d, A, D.n, D.k, D.f, rfl, S, (fun r hr e H1 e1 he => ⟨hqm r, fun x hx => by
     have nx : e ≠ x := ne_of_none he hx
     refine ⟨_, rfl, x, e, r, rfl, upd_same, (by rw [upd_ne nx]; exact he), fun t2 H2 e2 ht2 => ⟨(by show 2 ≤ sizeLine; decide), fun t ht => ?_⟩⟩
     have g := same_upd (o := .tup [.bl false, .ref t2]) ht
     exact q1 r (hdu.trans hr) t t2 _ (((e1.trans (same_upd hx)).trans e2).trans g) upd_same (g _ _ ht2)⟩), fun ho q l v hm hf hk1 hk2 l' t2 H1 e1 hl0 hl1 ht2 => ?_⟩
   have hL := (S.ho _ hm).2.2
   refine ⟨_, rfl, (by show 2 ≤ sizeLine; decide), fun t ht => ?_⟩
   have g := same_upd (o := .tup [.bl true, .ref t2]) ht
   have eg := e1.trans g
   exact q3 (hdu.trans ho) h0 q l v hm hf hk1 hk2 t t2 l' A _ (Kd.of eg) hl0 (g _ _ hl1) (hL.same eg) (g _ _ ht2) upd_same (S.same eg) (((if_neg h0).trans (if_pos h4)).symm) (fun x hx => .inl hx) (fun x hx w => by have h1 := (S.ho x hx).2.1; rw [w, hl0] at h1; cases h1)
 refine ⟨_, rfl, _, _, rfl, rfl, _, rfl, ?_⟩
 refine dec2 (fun h6 => ?_) (fun h6 => ?_)
 · refine ⟨_, rfl, p, dx, fs, rfl, hp, hno "sell" (by decide +kernel), _, rfl, _, rfl, _, rfl, rfl, p, d, A, D.n, D.k, D.f, rfl, S, hA, (fun r hr e H1 e1 he => ⟨hqm r, fun x hx => by
     have nx : e ≠ x := ne_of_none he hx
     refine ⟨_, rfl, x, e, r, rfl, upd_same, (by rw [upd_ne nx]; exact he), fun t2 H2 e2 ht2 => ⟨(by show 2 ≤ sizeLine; decide), fun t ht => ?_⟩⟩
     have g := same_upd (o := .tup [.bl false, .ref t2]) ht
     exact q1 r (hdu.trans hr) t t2 _ (((e1.trans (same_upd hx)).trans e2).trans g) upd_same (g _ _ ht2)⟩), fun ho q l v hm hf hk1 hk2 l' t2 q' l2 H1 K1 hl0 hl1 hL1 ht2 hl2 hl2l S1 => ?_⟩
   refine ⟨_, rfl, (by show 2 ≤ sizeLine; decide), fun t ht => ?_⟩
   have g := same_upd (o := .tup [.bl true, .ref t2]) ht
   refine q3 (hdu.trans ho) h0 q l v hm hf hk1 hk2 t t2 l' _ _ (K1.trans (Kd.of g)) hl0 (g _ _ hl1) (hL1.same g) (g _ _ ht2) upd_same (S1.same g) ?_ (fun x hx => ?_) (fun x hx => ?_)
   · rw [sold_W, lk_mem S.nd hm]
     exact (((if_neg h0).trans (if_neg h4)).trans (if_pos h6)).symm
   · rcases sold_mem hx with w | ⟨w, _⟩
     · exact .inl w
     · rw [w]
       exact .inr hl2
   · rcases sold_mem hx with w | ⟨w, _⟩
     · intro z
       have h1 := (S.ho x w).2.1
       rw [z, hl0] at h1
       cases h1
     · rw [w]
       exact hl2l
 · refine ⟨_, rfl, p, dx, fs, rfl, hp, hno "hand" (by decide +kernel), _, rfl, _, rfl, _, rfl, _, rfl, _, rfl, _, rfl, rfl, p, d, A, D.n, D.k, D.c, D.new, D.f, D.s, rfl, S, hA, hLA, (fun r hr e H1 e1 he => ⟨hqm r, fun x hx => by
     have nx : e ≠ x := ne_of_none he hx
     refine ⟨_, rfl, x, e, r, rfl, upd_same, (by rw [upd_ne nx]; exact he), fun t2 H2 e2 ht2 => ⟨(by show 2 ≤ sizeLine; decide), fun t ht => ?_⟩⟩
     have g := same_upd (o := .tup [.bl false, .ref t2]) ht
     exact q1 r (hdu.trans hr) t t2 _ (((e1.trans (same_upd hx)).trans e2).trans g) upd_same (g _ _ ht2)⟩), fun ho q l v hm hf hk1 hk2 l' t2 q' l2 q3' l3 y H1 K1 hl0 hl1 hL1 ht2 hl2 hl3 hl2l hl3l S1 => ?_⟩
   refine ⟨_, rfl, (by show 2 ≤ sizeLine; decide), fun t ht => ?_⟩
   have g := same_upd (o := .tup [.bl true, .ref t2]) ht
   refine q3 (hdu.trans ho) h0 q l v hm hf hk1 hk2 t t2 l' _ _ (K1.trans (Kd.of g)) hl0 (g _ _ hl1) (hL1.same g) (g _ _ ht2) upd_same (S1.same g) ?_ (fun x hx => ?_) (fun x hx => ?_)
   · rw [put_W, sold_W, lk_mem S.nd hm]
     have e1 : vv ⟨v.lot, D.s, v.a, v.a + D.k, v.L ++ [(y, D.s, D.c, v.a, v.a + D.k)]⟩ = (v.lot, D.s, v.a, v.a + D.k, v.L.map (·.2) ++ [(D.s, D.c, v.a, v.a + D.k)]) := by
       show (v.lot, D.s, v.a, v.a + D.k, (v.L ++ [(y, D.s, D.c, v.a, v.a + D.k)]).map (·.2)) = _
       rw [List.map_append]
       rfl
     rw [e1]
     exact (((if_neg h0).trans (if_neg h4)).trans (if_neg h6)).symm
   · rcases mem_putA hx with w | w
     · rw [w]
       exact .inr hl3
     · rcases sold_mem w with w | ⟨w, _⟩
       · exact .inl w
       · rw [w]
         exact .inr hl2
   · rcases mem_putA hx with w | w
     · rw [w]
       exact hl3l
     · rcases sold_mem w with w | ⟨w, _⟩
       · intro z
         have h1 := (S.ho x w).2.1
         rw [z, hl0] at h1
         cases h1
       · rw [w]
         exact hl2l
theorem sc__law_due : FnScope ["_law_rows", "_law_deed_here", "_law_way", "_law_number", "_law_firm", "_law_many_here", "_law_sister", "_law_cost", "_law_new", "_law_lot", "_law_holder", "_law_start", "_law_stop", "_law_layers"] ["_law_rows", "_law_deed_here"] (defScope s__law_due) := ⟨rfl, rfl, rfl, by decide +kernel, rfl, by decide +kernel, by decide +kernel⟩
theorem ok__law_due (D : Def K mg "_law_due" s__law_due .none) (z_list : mg "list" = none) : Cal P w K mg base CX0 true 1 "_law_due" ["_law_rows", "_law_deed_here"] [] spDu := by
 obtain ⟨f, fd, F, hm⟩ := D
 refine ⟨f, fd, _, F.ok sc__law_due (fun vs H Q E h => ?_) (fun cdv A outer s H vs Q E hr h => ?_), hm, F.kp, (F.binds fun _ _ _ _ _ _ us hl => match us, hl with | [_, _], _ => rfl), .nil, F.binds fun _ _ _ _ _ _ us hl => match us, hl with | [_, _], _ => rfl⟩
 · obtain ⟨rd, dp, B, D, rfl, hd, hrd, hB, hnd, q1, q2, q3⟩ := h
   rfl
 obtain ⟨rd, dp, B, D, rfl, hd, hrd, hB, hnd, q1, q2, q3⟩ := h
 have nd := sc__law_due.nd
 refine ⟨_, (pss_cons (ps_asg (pv 1) (pg_tup rfl (pgs_cons (pg_name (i := 2) nd rfl (Or.inl rfl)) (pgs_cons (pg_name (i := 3) nd rfl (Or.inl rfl)) (pgs_cons (pg_name (i := 4) nd rfl (Or.inl rfl)) (pgs_cons (pg_name (i := 5) nd rfl (Or.inl rfl)) (pgs_cons (pg_name (i := 6) nd rfl (Or.inl rfl)) (pgs_cons (pg_name (i := 7) nd rfl (Or.inl rfl)) (pgs_cons (pg_name (i := 8) nd rfl (Or.inl rfl)) pgs_nil)))))))))
   (pss_cons (ps_if (pt_cmpR op_lt (pv 5) pe_int (nomark _)) (pss_one (ps_ret (pe_tup (pa_cons pe_bl (pa_cons (pe_tup (pa_cons pe_str (pa_cons (pv 5) pa_nil))) pa_nil))))) pss_nil)
   (pss_cons (ps_if (pt_cmpR op_eq (pv 2) pe_int (nomark _)) (pss_one (ps_ret (pe_tup (pa_cons pe_bl (pa_cons pe_non pa_nil))))) pss_nil)
   (pss_cons (ps_if (PW.pt (pw_or (pt_cmp (pc_dnotin (hu_of hr) (pv 3) (pv 0))) (pw_or1 (pt_cmpR op_ne (pe_ix ix_seq (pe_dget (hu_of hr) (pv 0) (pv 3) (fun _ _ => rfl)) pe_int (fun _ _ => rfl)) (pv 4) (nomark _))))) (pss_one (ps_ret (pe_tup (pa_cons pe_bl (pa_cons (pe_tup (pa_cons pe_str (pa_cons (pv 3) pa_nil))) pa_nil))))) pss_nil)
   (pss_cons (ps_asg (pe_dget (hu_of hr) (pv 0) (pv 3) (fun _ _ => rfl)) (pg_tup rfl (pgs_cons (pg_name (i := 9) nd rfl (Or.inl rfl)) (pgs_cons (pg_name (i := 10) nd rfl (Or.inl rfl)) (pgs_cons (pg_name (i := 11) nd rfl (Or.inl rfl)) (pgs_cons (pg_name (i := 12) nd rfl (Or.inl rfl)) (pgs_cons (pg_name (i := 13) nd rfl (Or.inl rfl)) pgs_nil)))))))
   (pss_cons (ps_if (pt_cmpR op_lt (pe_op op_sub (pv 12) (pv 11)) (pv 5) (nomark _)) (pss_one (ps_ret (pe_tup (pa_cons pe_bl (pa_cons (pe_tup (pa_cons pe_str (pa_cons (pv 3) (pa_cons (pe_op op_add (pe_op op_sub (pv 5) (pv 12)) (pv 11)) pa_nil)))) pa_nil))))) pss_nil)
   (pss_one (ps_ret (pe_tup (pa_cons pe_bl (pa_cons (pe_tup (pa_cons (pv 9) (pa_cons (pv 11) (pa_cons (pe_op op_add (pv 11) (pv 5)) (pa_cons (pe_callTy call_list_of rfl z_list bt_list (pa_cons (pv 13) pa_nil)) pa_nil))))) pa_nil))))))))))), ?_⟩
 rw [show ∀ x0 x1 : V, L2.start ["_law_rows", "_law_deed_here", "_law_way", "_law_number", "_law_firm", "_law_many_here", "_law_sister", "_law_cost", "_law_new", "_law_lot", "_law_holder", "_law_start", "_law_stop", "_law_layers"] [x0, x1] = [some x0, some x1, none, none, none, none, none, none, none, none, none, none, none, none] from fun _ _ => rfl]
 have hd : H dp = some (.tup [.int D.way, .int D.n, .str D.f, .int D.k, .str D.s, .int D.c, .int D.new]) := hd
 refine ⟨_, rfl, dp, _, rfl, SqT.of hd, rfl, _, _, rfl, _, _, rfl, _, _, rfl, _, _, rfl, _, _, rfl, _, _, rfl, _, _, rfl, rfl, ?_⟩
 simp only [List.set_cons_zero, List.set_cons_succ]
 refine ⟨_, rfl, _, _, rfl, rfl, _, rfl, ?_⟩
 refine dec2 (fun hk => ?_) (fun hk => ?_)
 · have hdu : dueF B D = some (.bad D.k) := by
     unfold dueF
     by_cases h0 : D.way = 0
     · rw [if_pos h0, if_pos hk]
     · rw [if_neg h0]
       exact rf_bad hk
   refine ⟨_, rfl, (by show 2 ≤ sizeLine; decide), fun t2 ht2 => ⟨(by show 2 ≤ sizeLine; decide), fun t ht => ?_⟩⟩
   have g1 := same_upd (o := .tup [.str "amount", .int D.k]) ht2
   have g2 := same_upd (o := .tup [.bl false, .ref t2]) ht
   exact q1 _ hdu t t2 _ (g1.trans g2) upd_same (g2 _ _ upd_same)
 refine ⟨_, rfl, rfl, _, rfl, ?_⟩
 refine dec2 (fun h => ?_) (fun h => ?_)
 · have h0 : D.way = 0 := V.int.inj h
   exact ⟨(by show 2 ≤ sizeLine; decide), fun t ht => q2 ((if_pos h0).trans (if_neg hk)) h0 (by omega) t _ (same_upd ht) upd_same⟩
 have h0 : ¬ D.way = 0 := fun z => h (congrArg V.int z)
 have hdu : dueF B D = rfT B D.n D.f D.k := if_neg h0
 by_cases hm : ∃ x ∈ B, x.1 = D.n
 · obtain ⟨⟨n', q0, l, v⟩, hm, hn⟩ := hm
   obtain rfl : n' = D.n := hn
   have hlk := lk_mem hnd hm
   have R : RwA H q0 l v := hB _ hm
   have hG : DGet H rd (.int D.n) (some (.ref q0)) := kvA_val hnd hm ▸ DGet.k (k := Sum.inl D.n) hrd
   have hT := SqT.of (K := K) R.1
   refine ⟨_, rfl, _, rfl, rd, _, rfl, hG, false, rfl, iteF ?_⟩
   refine ⟨_, rfl, _, rfl, rd, _, rfl, hG, .inr (.inl ⟨q0, _, 1, _, rfl, rfl, hT, rfl, _, rfl, rfl, _, rfl, ?_⟩)⟩
   refine ndec2 (fun hf => ?_) (fun hf => ?_)
   · have hf : ¬ v.firm = D.f := fun z => hf (congrArg V.str z)
     refine ⟨_, rfl, (by show 2 ≤ sizeLine; decide), fun t2 ht2 => ⟨(by show 2 ≤ sizeLine; decide), fun t ht => ?_⟩⟩
     have g1 := same_upd (o := .tup [.str "goods", .int D.n]) ht2
     have g2 := same_upd (o := .tup [.bl false, .ref t2]) ht
     exact q1 _ (hdu.trans (rf_gds hk hlk hf)) t t2 _ (g1.trans g2) upd_same (g2 _ _ upd_same)
   have hf : v.firm = D.f := V.str.inj hf
   refine ⟨_, rfl, _, rfl, rd, _, rfl, hG, q0, _, rfl, hT, rfl, _, _, rfl, _, _, rfl, _, _, rfl, _, _, rfl, _, _, rfl, rfl, ?_⟩
   simp only [List.set_cons_zero, List.set_cons_succ]
   refine ⟨_, rfl, _, rfl, _, _, rfl, rfl, _, rfl, _, _, rfl, rfl, _, rfl, ?_⟩
   refine dec2 (fun h2 => ?_) (fun h2 => ?_)
   · have hq := q1 _ (hdu.trans (rf_few hk hlk hf h2))
     have hz : D.k - (v.b - v.a) = D.k - v.b + v.a := by omega
     rw [hz] at hq
     refine ⟨_, rfl, _, rfl, _, rfl, _, _, rfl, rfl, _, rfl, _, _, rfl, rfl, (by show 3 ≤ sizeLine; decide), fun t2 ht2 => ⟨(by show 2 ≤ sizeLine; decide), fun t ht => ?_⟩⟩
     have g1 := same_upd (o := .tup [.str "few", .int D.n, .int (D.k - v.b + v.a)]) ht2
     have g2 := same_upd (o := .tup [.bl false, .ref t2]) ht
     exact hq t t2 _ (g1.trans g2) upd_same (g2 _ _ upd_same)
   · refine ⟨_, rfl, _, rfl, _, rfl, _, rfl, _, _, rfl, rfl, _, rfl, l, _, rfl, .inl (SqL.of R.2.1), fun l' hl' => ?_⟩
     have g1 := same_upd (o := .lst (rfy v.L)) hl'
     refine ⟨(by show 4 ≤ sizeLine; decide), fun t2 ht2 => ?_⟩
     have g2 := same_upd (o := .tup [.int v.lot, .int v.a, .int (v.a + D.k), .ref l']) ht2
     refine ⟨(by show 2 ≤ sizeLine; decide), fun t ht => ?_⟩
     have g3 := same_upd (o := .tup [.bl true, .ref t2]) ht
     exact q3 (hdu.trans (rf_ok hk hlk hf h2)) h0 q0 l v hm hf (by omega) (by omega) t t2 l' _ ((g1.trans g2).trans g3) hl' (g3 _ _ (g2 _ _ upd_same)) (g3 _ _ upd_same) upd_same
 have hG : DGet H rd (.int D.n) none := kvA_no hm ▸ DGet.k (k := Sum.inl D.n) hrd
 refine ⟨_, rfl, _, rfl, rd, _, rfl, hG, true, rfl, iteT ?_⟩
 refine ⟨_, rfl, (by show 2 ≤ sizeLine; decide), fun t2 ht2 => ⟨(by show 2 ≤ sizeLine; decide), fun t ht => ?_⟩⟩
 have g1 := same_upd (o := .tup [.str "goods", .int D.n]) ht2
 have g2 := same_upd (o := .tup [.bl false, .ref t2]) ht
 exact q1 _ (hdu.trans (rf_no hk (lk_no hm))) t t2 _ (g1.trans g2) upd_same (g2 _ _ upd_same)
def pcV (a b : Int) (z : Str × Int × Int × Int) : Int := N15.portF z.2.1 (z.2.2.2 - z.2.2.1) (a - z.2.2.1) (b - z.2.2.1)
theorem vv_cst {v w : Hv} (h : vv v = vv w) : cst v = cst w := by
 have e : ∀ v : Hv, cst v = (v.L.map (·.2)).map (pcV v.a v.b) := fun v => by
   unfold cst cos
   rw [List.map_map]
   rfl
 have ha : v.a = w.a := congrArg (·.2.2.1) h
 have hb : v.b = w.b := congrArg (·.2.2.2.1) h
 have hL : v.L.map (·.2) = w.L.map (·.2) := congrArg (·.2.2.2.2) h
 rw [e, e, ha, hb, hL]
theorem vv_len {v w : Hv} (h : vv v = vv w) : v.L.length = w.L.length := by
 have hL : v.L.map (·.2) = w.L.map (·.2) := congrArg (·.2.2.2.2) h
 have := congrArg List.length hL
 rw [List.length_map, List.length_map] at this
 exact this
theorem vv_firm {v w : Hv} (h : vv v = vv w) : v.firm = w.firm := congrArg (·.2.1) h
theorem vv_hd {v w : Hv} (h : vv v = vv w) : hdC v = hdC w := by
 unfold hdC
 rw [vv_cst h]
theorem vv_ls {v w : Hv} (h : vv v = vv w) : lsC v = lsC w := by
 unfold lsC
 rw [vv_cst h, vv_len h]
theorem vv_at {v w : Hv} (h : vv v = vv w) (i : Nat) : (v.L.getD i (0, "", 0, 0, 0)).2.1 = (w.L.getD i (0, "", 0, 0, 0)).2.1 := by
 have hL : v.L.map (·.2) = w.L.map (·.2) := congrArg (·.2.2.2.2) h
 have e : ∀ L : List Ly, (L.getD i (0, "", 0, 0, 0)).2 = (L.map (·.2)).getD i ((("" : Str), 0, 0, 0) : Str × Int × Int × Int) := fun L => by
   rw [List.getD, List.getD, List.getElem?_map]
   cases L[i]? <;> rfl
 rw [e, e, hL]
theorem vv_gns {v w : Hv} (h : vv v = vv w) (n : Nat) : gns v.L v.a v.b n = gns w.L w.a w.b n := by
 unfold gns
 have hc := vv_cst h
 unfold cst at hc
 rw [hc]
 exact List.map_congr_left fun i _ => by rw [vv_at h]
theorem vv_gnF {v w : Hv} (h : vv v = vv w) (f : Str) : gnF v f = gnF w f := by
 unfold gnF
 rw [vv_gns h, vv_len h]
theorem vv_ok {v w : Hv} (h : vv v = vv w) (k : Hok v) : Hok w := by
 have hl := vv_len h
 have hL : v.L.map (·.2) = w.L.map (·.2) := congrArg (·.2.2.2.2) h
 have ha : v.a = w.a := congrArg (·.2.2.1) h
 have hb : v.b = w.b := congrArg (·.2.2.2.1) h
 obtain ⟨k1, k2, k3⟩ := k
 refine ⟨fun z hz => ?_, by omega, by omega⟩
 have hm : z.2 ∈ v.L.map (·.2) := by
   rw [hL]
   exact List.mem_map.mpr ⟨z, hz, rfl⟩
 obtain ⟨y, hy, e⟩ := List.mem_map.mp hm
 have := k1 y hy
 rw [e, ha, hb] at this
 exact this
theorem map_ind {P : List Sh → List Sh → Prop} (h0 : P [] []) (h1 : ∀ x y A B, vw x = vw y → P A B → P (x :: A) (y :: B)) : ∀ A B : List Sh, A.map vw = B.map vw → P A B
 | [], [], _ => h0
 | [], _ :: _, h => by cases h
 | _ :: _, [], h => by cases h
 | x :: A, y :: B, h => by
   rw [List.map_cons, List.map_cons] at h
   exact h1 x y A B (List.cons.inj h).1 (map_ind h0 h1 A B (List.cons.inj h).2)
theorem gd1_cons (x : Sh) (A : List Sh) (f : Str) : gd1 (x :: A) f = (if x.2.2.2.firm = f then hdC x.2.2.2 else 0) + gd1 A f := by
 unfold gd1 flF
 by_cases e : x.2.2.2.firm = f
 · rw [if_pos e, List.filter_cons_of_pos (by simpa using e)]
   rfl
 · rw [if_neg e, List.filter_cons_of_neg (by simpa using e), Int.zero_add]
theorem gd2_cons (x : Sh) (A : List Sh) (f : Str) : gd2 (x :: A) f = (if x.2.2.2.firm = f then lsC x.2.2.2 - hdC x.2.2.2 else 0) + gd2 A f := by
 unfold gd2 flF
 by_cases e : x.2.2.2.firm = f
 · rw [if_pos e, List.filter_cons_of_pos (by simpa using e)]
   rfl
 · rw [if_neg e, List.filter_cons_of_neg (by simpa using e), Int.zero_add]
theorem gd1_vw {A B : List Sh} (f : Str) (h : A.map vw = B.map vw) : gd1 A f = gd1 B f := map_ind (P := fun A B => gd1 A f = gd1 B f) rfl (fun x y A B e ih => by
 have e2 : vv x.2.2.2 = vv y.2.2.2 := congrArg (·.2) e
 rw [gd1_cons, gd1_cons, vv_firm e2, vv_hd e2, ih]) A B h
theorem gd2_vw {A B : List Sh} (f : Str) (h : A.map vw = B.map vw) : gd2 A f = gd2 B f := map_ind (P := fun A B => gd2 A f = gd2 B f) rfl (fun x y A B e ih => by
 have e2 : vv x.2.2.2 = vv y.2.2.2 := congrArg (·.2) e
 rw [gd2_cons, gd2_cons, vv_firm e2, vv_hd e2, vv_ls e2, ih]) A B h
theorem gnA_vw {A B : List Sh} (f : Str) (h : A.map vw = B.map vw) : gnA A f = gnA B f := map_ind (P := fun A B => gnA A f = gnA B f) rfl (fun x y A B e ih => by
 have e2 : vv x.2.2.2 = vv y.2.2.2 := congrArg (·.2) e
 show gnF x.2.2.2 f + gnA A f = gnF y.2.2.2 f + gnA B f
 rw [vv_gnF e2, ih]) A B h
theorem ok_vw {A B : List Sh} (h : A.map vw = B.map vw) (k : ∀ x ∈ B, Hok x.2.2.2) : ∀ x ∈ A, Hok x.2.2.2 := fun x hx => by
 have hm : vw x ∈ B.map vw := by
   rw [← h]
   exact List.mem_map.mpr ⟨x, hx, rfl⟩
 obtain ⟨y, hy, e⟩ := List.mem_map.mp hm
 exact vv_ok (congrArg (·.2) e) (k y hy)
structure Fit (CS CH : Addr) (H : Hp) (p d rd : Addr) (A B : List Sh) (ts : List Str) : Prop where
 st : Stk CS CH H p d A
 rc : H rd = some (.dK (kvA B))
 rw : ∀ x ∈ B, RwA H x.2.1 x.2.2.1 x.2.2.2
 ok : ∀ x ∈ B, Hok x.2.2.2 ∧ InN ts x.2.2.2
 eq : A.map vw = B.map vw
 ln : B.length ≤ 60
 ne : d ≠ rd
theorem Fit.la {CS CH : Addr} {H : Hp} {p d rd : Addr} {A B : List Sh} {ts : List Str} (F : Fit CS CH H p d rd A B ts) : A.length = B.length := by
 have := congrArg List.length F.eq
 rw [List.length_map, List.length_map] at this
 exact this
theorem Fit.same {CS CH : Addr} {H H' : Hp} {p d rd : Addr} {A B : List Sh} {ts : List Str} (F : Fit CS CH H p d rd A B ts) (e : Same H H') : Fit CS CH H' p d rd A B ts := ⟨F.st.same e, e _ _ F.rc, fun x hx => (F.rw x hx).same e, F.ok, F.eq, F.ln, F.ne⟩
theorem Fit.nd {CS CH : Addr} {H : Hp} {p d rd : Addr} {A B : List Sh} {ts : List Str} (F : Fit CS CH H p d rd A B ts) : (B.map (·.1)).Nodup := by
 rw [← keys_vw F.eq]
 exact F.st.nd
theorem le_uniq {xs ys : List Int} (pm : xs.Perm ys) (h1 : xs.Pairwise (· ≤ ·)) (h2 : ys.Pairwise (· ≤ ·)) : xs = ys := by
 induction xs generalizing ys with
 | nil => exact pm.nil_eq
 | cons x r ih =>
   cases ys with
   | nil => exact absurd pm.symm (by simp)
   | cons y t =>
     rw [List.pairwise_cons] at h1 h2
     have e : x = y := by
       have hx := pm.mem_iff.mp (List.mem_cons_self (a := x) (l := r))
       have hy := pm.mem_iff.mpr (List.mem_cons_self (a := y) (l := t))
       rcases List.mem_cons.mp hx with w | w
       · exact w
       · rcases List.mem_cons.mp hy with v | v
         · exact v.symm
         · have a := h2.1 x w
           have b := h1.1 y v
           omega
     subst e
     rw [ih ((List.perm_cons x).mp pm) h1.2 h2.2]
theorem eqRy {K : PySem.W.Frag} {H : Hp} {l l' : Addr} {L L' : List Ly} (h1 : H l = some (.lst (rfy L))) (r1 : RY H L) (h2 : H l' = some (.lst (rfy L'))) (r2 : RY H L') (e : L.map (·.2) = L'.map (·.2)) : eqLi K H (.ref l) (.ref l') := by
 refine ⟨l, l', _, _, rfl, rfl, SqL.of h1, SqL.of h2, ?_, fun j x y g1 g2 => ?_⟩
 · have := congrArg List.length e
   rw [List.length_map, List.length_map] at this
   rw [rfy_len, rfy_len]
   exact this
 · obtain ⟨y1, n1, rfl⟩ := rfy_at g1
   obtain ⟨y2, n2, rfl⟩ := rfy_at g2
   have he : y1.2 = y2.2 := by
     have h := congrArg (fun l => l[j]?) e
     simp only [List.getElem?_map, n1, n2] at h
     exact Option.some.inj h
   have t1 := r1 y1 (List.mem_of_getElem? n1)
   have t2 := r2 y2 (List.mem_of_getElem? n2)
   unfold tupY at t1 t2
   rw [← he] at t2
   refine .inr ⟨y1.1, y2.1, _, rfl, rfl, SqT.of t1, SqT.of t2, fun w hw => ?_⟩
   simp only [List.mem_cons, List.not_mem_nil, or_false] at hw
   rcases hw with rfl | rfl | rfl | rfl <;> rfl
theorem eqZ {K : PySem.W.Frag} {H : Hp} {Z Z' : List Hr} (h1 : HrL H Z) (h2 : HrL H Z') (hk : Z.map (·.2.2.1) = Z'.map (·.2.2.1)) (hv : ∀ z ∈ Z, ∀ z' ∈ Z', z.2.2.1 = z'.2.2.1 → vv z.2.2.2 = vv z'.2.2.2) : (rfH Z).length = (rfH Z').length ∧ ∀ (j : Nat) x y, (rfH Z)[j]? = some x → (rfH Z')[j]? = some y → eqTu K H x y := by
 refine ⟨by have := congrArg List.length hk; rw [List.length_map, List.length_map] at this; rw [rfH_len, rfH_len]; exact this, fun j x y e1 e2 => ?_⟩
 obtain ⟨z1, m1, rfl⟩ := rfH_at e1
 obtain ⟨z2, m2, rfl⟩ := rfH_at e2
 have hn : z1.2.2.1 = z2.2.2.1 := by
   have h := congrArg (fun l => l[j]?) hk
   simp only [List.getElem?_map, m1, m2] at h
   exact Option.some.inj h
 have hw := hv z1 (List.mem_of_getElem? m1) z2 (List.mem_of_getElem? m2) hn
 have f1 : z1.2.2.2.lot = z2.2.2.2.lot := congrArg (·.1) hw
 have f2 : z1.2.2.2.firm = z2.2.2.2.firm := congrArg (·.2.1) hw
 have f3 : z1.2.2.2.a = z2.2.2.2.a := congrArg (·.2.2.1) hw
 have f4 : z1.2.2.2.b = z2.2.2.2.b := congrArg (·.2.2.2.1) hw
 have f5 : z1.2.2.2.L.map (·.2) = z2.2.2.2.L.map (·.2) := congrArg (·.2.2.2.2) hw
 obtain ⟨a1, a2, a3⟩ := h1 z1 (List.mem_of_getElem? m1)
 obtain ⟨b1, b2, b3⟩ := h2 z2 (List.mem_of_getElem? m2)
 rw [hn, f1, f2, f3, f4] at a1
 refine ⟨z1.1, z2.1, _, _, rfl, rfl, SqT.of a1, SqT.of b1, rfl, fun i x y e1 e2 => ?_⟩
 match i with
 | 0 => cases e1; cases e2; exact .inl (.inl ⟨rfl, rfl⟩)
 | 1 => cases e1; cases e2; exact .inl (.inl ⟨rfl, rfl⟩)
 | 2 => cases e1; cases e2; exact .inl (.inl ⟨rfl, rfl⟩)
 | 3 => cases e1; cases e2; exact .inl (.inl ⟨rfl, rfl⟩)
 | 4 => cases e1; cases e2; exact .inl (.inl ⟨rfl, rfl⟩)
 | 5 =>
   cases e1
   cases e2
   exact .inr (eqRy a2 a3 b2 b3 f5)
 | i + 6 => cases e1
theorem Fit.alike {CS CH : Addr} {H : Hp} {p d rd : Addr} {A B : List Sh} {ts : List Str} (F : Fit CS CH H p d rd A B ts) {x y : Sh} (hx : x ∈ A) (hy : y ∈ B) (e : x.1 = y.1) : vv x.2.2.2 = vv y.2.2.2 := by
 have hm : vw x ∈ B.map vw := by
   rw [← F.eq]
   exact List.mem_map.mpr ⟨x, hx, rfl⟩
 obtain ⟨z, hz, ez⟩ := List.mem_map.mp hm
 have e1 : z.1 = x.1 := congrArg (·.1) ez
 have := nd_one F.nd hz hy (e1.trans e)
 rw [this] at ez
 exact (congrArg (·.2) ez).symm
theorem op_catTC {X : Cx} {scope : Scope} {cl : List (Str × Addr)} {C : Addr} {s2 : Shared} {H2 : Hp} {fp : List Addr} {N' : List Str} {xe : Value → Shared → Prop} : OpR (X.inC scope cl C s2 H2 fp N' xe) (binaryOp .Add) (rCatT X.K) := op_catT (X := X.inC scope cl C s2 H2 fp N' xe)
theorem two_at {a b : Int} {i : Int} (h0 : 0 ≤ i) (h1 : i < 2) : ∃ v, atI [V.int a, V.int b] i = some (.int v) ∧ (v = a ∨ v = b) := by
 have : i = 0 ∨ i = 1 := by omega
 rcases this with rfl | rfl
 · exact ⟨a, rfl, .inl rfl⟩
 · exact ⟨b, rfl, .inr rfl⟩
theorem Kd.free {d a : Addr} {H H' : Hp} {o : HO} (e : Kd d H H') (hd : H' d = some o) (h : H' a = none) : H a = none := by
 cases g : H a with
 | none => rfl
 | some u =>
   by_cases n : a = d
   · rw [n, hd] at h
     cases h
   · rw [e _ _ g n] at h
     cases h
theorem lk_some {B : List Sh} {n : Int} {u : Int × Str × Int × Int × List (Str × Int × Int × Int)} (h : lkV B n = some u) : ∃ q l v, (n, q, l, v) ∈ B ∧ vv v = u := by
 unfold lkV at h
 cases g : (B.map vw).find? fun w => decide (w.1 = n) with
 | none => rw [g] at h; cases h
 | some w =>
   rw [g] at h
   obtain ⟨x, hx, e⟩ := List.mem_map.mp (List.mem_of_find?_eq_some g)
   have e0 := List.find?_some (p := fun w : Vw => decide (w.1 = n)) g
   have e1 : w.1 = n := of_decide_eq_true e0
   obtain ⟨n', q, l, v⟩ := x
   rw [← e] at e1 h
   obtain rfl : n' = n := e1
   exact ⟨q, l, v, hx, Option.some.inj h⟩
theorem due_ok {B : List Sh} {D : Dd} (h : dueF B D = none) : 1 ≤ D.k ∧ (D.way ≠ 0 → ∃ q l v, (D.n, q, l, v) ∈ B ∧ v.firm = D.f ∧ D.k ≤ v.b - v.a) := by
 unfold dueF at h
 by_cases h0 : D.way = 0
 · rw [if_pos h0] at h
   by_cases hk : D.k < 1
   · rw [if_pos hk] at h
     cases h
   · exact ⟨by omega, fun z => absurd h0 z⟩
 · rw [if_neg h0] at h
   unfold rfT at h
   by_cases hk : D.k < 1
   · rw [if_pos hk] at h
     cases h
   · rw [if_neg hk] at h
     refine ⟨by omega, fun _ => ?_⟩
     cases g : lkV B D.n with
     | none => rw [g] at h; cases h
     | some u =>
       rw [g] at h
       obtain ⟨q, l, v, hm, rfl⟩ := lk_some g
       have h : (if v.firm = D.f then (if v.b - v.a < D.k then some (Rf.few D.n (D.k - (v.b - v.a))) else none) else some (Rf.gds D.n)) = none := h
       by_cases hf : v.firm = D.f
       · rw [if_pos hf] at h
         by_cases hb : v.b - v.a < D.k
         · rw [if_pos hb] at h
           cases h
         · exact ⟨q, l, v, hm, hf, by omega⟩
       · rw [if_neg hf] at h
         cases h
def RowsOk (H : Hp) (ts : List Str) (B : List Sh) : Prop := ∀ x ∈ B, RwA H x.2.1 x.2.2.1 x.2.2.2 ∧ Hok x.2.2.2 ∧ InN ts x.2.2.2
theorem RowsOk.put {H : Hp} {ts : List Str} {B : List Sh} {rd : Addr} {kv kv' : List (Key × V)} (h : RowsOk H ts B) (hrd : H rd = some (.dK kv)) {n : Int} {q l : Addr} {v : Hv} (hq : RwA H q l v) (hk : Hok v) (hi : InN ts v) : RowsOk (upd H rd (.dK kv')) ts (putA B n (q, l, v)) := fun x hx => by
 rcases mem_putA hx with w | w
 · rw [w]
   exact ⟨hq.kd hrd Kd.upd, hk, hi⟩
 · exact ⟨(h x w).1.kd hrd Kd.upd, (h x w).2⟩
theorem hok_one {n m c : Int} {f : Str} {y : Addr} (hm : 1 ≤ m) (hm2 : m ≤ 1000000) (hc : 0 ≤ c) (hc2 : c ≤ 10 ^ 40) : Hok ⟨n, f, 0, m, [(y, f, c, 0, m)]⟩ := ⟨fun z hz => by
 rw [List.mem_singleton.mp hz]
 exact ⟨hc, hc2, Int.le_refl _, Int.le_refl _, (by show 0 < m; omega), Int.le_refl _, hm2⟩, (by show 1 ≤ 1; decide), (by show 1 ≤ 60; decide)⟩
theorem inn_one {n m c : Int} {f : Str} {y : Addr} {ts : List Str} (h : f ∈ ts) : InN ts ⟨n, f, 0, m, [(y, f, c, 0, m)]⟩ := ⟨h, fun z hz => by
 rw [List.mem_singleton.mp hz]
 exact h⟩
def spDn : Sp := fun vs H Q _ => ∃ (rd dp : Addr) (B : List Sh) (D : Dd) (ts : List Str) (m0 : Nat), vs = [.ref rd, .ref dp] ∧ H dp = some (.tup (ddT D)) ∧ H rd = some (.dK (kvA B)) ∧ RowsOk H ts B ∧ (B.map (·.1)).Nodup ∧ B.length ≤ 59 ∧ m0 ≤ 59 ∧ 1 ≤ m0 ∧ (∀ x ∈ B, x.2.2.2.L.length ≤ m0) ∧ dueF B D = none ∧ D.k ≤ 1000000 ∧ 0 ≤ D.c ∧ D.c ≤ 10 ^ 40 ∧ D.f ∈ ts ∧ D.s ∈ ts ∧
 ∀ B' H', Kd rd H H' → H' rd = some (.dK (kvA B')) → RowsOk H' ts B' → B'.map vw = nwV (B.map vw) D (lkV B D.n) → B'.length ≤ B.length + 1 → (∀ x ∈ B', x.2.2.2.L.length ≤ m0 + 1) → (∀ x ∈ B', (∃ y ∈ B, y.2.2.1 = x.2.2.1) ∨ H x.2.2.1 = none) → Q .non H'
def spHe : Sp := fun vs H Q _ => ∃ (rd : Addr) (B : List Sh), vs = [.ref rd] ∧ H rd = some (.dK (kvA B)) ∧ (∀ x ∈ B, RwA H x.2.1 x.2.2.1 x.2.2.2) ∧ (B.map (·.1)).Nodup ∧ B.length ≤ 60 ∧
 ∀ r (Z : List Hr) H', Same H H' → H r = none → H' r = some (.lst (rfH Z)) → HrL H' Z → (∀ z ∈ Z, H z.2.1 = none) → (∀ z ∈ Z, ∃ q l, (z.2.2.1, q, l, z.2.2.2) ∈ B) → (Z.map (·.2.2.1)).Perm (B.map (·.1)) → (Z.map (·.2.2.1)).Pairwise (· ≤ ·) → Q (.ref r) H'
def spRc : Sp := fun vs H Q _ => ∃ (q l : Addr) (v : Hv), vs = [.ref q] ∧ RwA H q l v ∧ Hok v ∧ ∀ c H', Same H H' → H c = none → H' c = some (.lst ((cst v).map V.int)) → Q (.ref c) H'
def spS3 : Sp := fun vs H Q _ => ∃ (rd : Addr) (B : List Sh) (f : Str), vs = [.ref rd, .str f] ∧ H rd = some (.dK (kvA B)) ∧ (∀ x ∈ B, RwA H x.2.1 x.2.2.1 x.2.2.2 ∧ Hok x.2.2.2) ∧ B.length ≤ 200 ∧ ∀ t t2 H', Same H H' → H' t = some (.tup [.ref t2, .int (gnA B f)]) → H' t2 = some (.tup [.int (gd1 B f), .int (gd2 B f)]) → Q (.ref t) H'
def spSd (CS CH : Addr) : Sp := fun vs H Q _ => ∃ (p d rd : Addr) (A B : List Sh) (ts : List Str) (f : Str) (ce : Int), vs = [.ref p, .ref rd, .str f, .int ce] ∧ Fit CS CH H p d rd A B ts ∧ ∀ H', Same H H' → Q (.bl true) H'
theorem sc__law_done : FnScope ["_law_rows", "_law_deed_here", "_law_way", "_law_number", "_law_firm", "_law_many_here", "_law_sister", "_law_cost", "_law_new", "_law_lot", "_law_holder", "_law_start", "_law_stop", "_law_layers"] ["_law_rows", "_law_deed_here"] (defScope s__law_done) := ⟨rfl, rfl, rfl, by decide +kernel, rfl, by decide +kernel, by decide +kernel⟩
theorem ok__law_done (D : Def K mg "_law_done" s__law_done .none) : Cal P w K mg base CX0 true 1 "_law_done" ["_law_rows", "_law_deed_here"] [] spDn := by
 obtain ⟨f, fd, F, hm⟩ := D
 refine ⟨f, fd, _, F.ok sc__law_done (fun vs H Q E h => ?_) (fun cdv A outer s H vs Q E hr h => ?_), hm, F.kp, (F.binds fun _ _ _ _ _ _ us hl => match us, hl with | [_, _], _ => rfl), .nil, F.binds fun _ _ _ _ _ _ us hl => match us, hl with | [_, _], _ => rfl⟩
 · obtain ⟨rd, dp, B, D, ts, m0, rfl, hd, hrd, hB, hnd, hBl, hm59, hm1, hmB, hdu, hk6, hc0, hc9, hft, hs, q⟩ := h
   rfl
 obtain ⟨rd, dp, B, D, ts, m0, rfl, hd, hrd, hB, hnd, hBl, hm59, hm1, hmB, hdu, hk6, hc0, hc9, hft, hs, q⟩ := h
 have nd := sc__law_done.nd
 refine ⟨_, (pss_cons (ps_asg (pv 1) (pg_tup rfl (pgs_cons (pg_name (i := 2) nd rfl (Or.inl rfl)) (pgs_cons (pg_name (i := 3) nd rfl (Or.inl rfl)) (pgs_cons (pg_name (i := 4) nd rfl (Or.inl rfl)) (pgs_cons (pg_name (i := 5) nd rfl (Or.inl rfl)) (pgs_cons (pg_name (i := 6) nd rfl (Or.inl rfl)) (pgs_cons (pg_name (i := 7) nd rfl (Or.inl rfl)) (pgs_cons (pg_name (i := 8) nd rfl (Or.inl rfl)) pgs_nil)))))))))
   (pss_cons (ps_if (pt_cmpR op_eq (pv 2) pe_int (nomark _)) (pss_one (ps_dput (hu_of hr) (pv 0) (pv 8) (pe_tup (pa_cons (pv 8) (pa_cons (pv 4) (pa_cons pe_int (pa_cons (pv 5) (pa_cons (pe_lst (pa_cons (pe_tup (pa_cons (pv 4) (pa_cons (pv 7) (pa_cons pe_int (pa_cons (pv 5) pa_nil))))) pa_nil)) pa_nil)))))) rfl)) pss_nil)
   (pss_one (ps_if (pt_cmpR op_gt (pv 2) pe_int (nomark _)) (pss_cons (ps_asg (pe_dget (hu_of hr) (pv 0) (pv 3) (fun _ _ => rfl)) (pg_tup rfl (pgs_cons (pg_name (i := 9) nd rfl (Or.inl rfl)) (pgs_cons (pg_name (i := 10) nd rfl (Or.inl rfl)) (pgs_cons (pg_name (i := 11) nd rfl (Or.inl rfl)) (pgs_cons (pg_name (i := 12) nd rfl (Or.inl rfl)) (pgs_cons (pg_name (i := 13) nd rfl (Or.inl rfl)) pgs_nil)))))))
   (pss_cons (ps_dput (hu_of hr) (pv 0) (pv 3) (pe_tup (pa_cons (pv 9) (pa_cons (pv 10) (pa_cons (pe_op op_add (pv 11) (pv 5)) (pa_cons (pv 12) (pa_cons (pv 13) pa_nil)))))) rfl)
   (pss_cons (ps_if (pt_cmpR op_eq (pe_op op_add (pv 11) (pv 5)) (pv 12) (nomark _)) (pss_one (ps_expr (pe_dpop1 (pv 0) (pv 3) ⟨rfl, rfl, rfl, rfl⟩))) pss_nil)
   (pss_one (ps_if (pt_cmpR op_gt (pv 2) pe_int (nomark _)) (pss_one (ps_dput (hu_of hr) (pv 0) (pv 8) (pe_tup (pa_cons (pv 9) (pa_cons (pv 6) (pa_cons (pv 11) (pa_cons (pe_op op_add (pv 11) (pv 5)) (pa_cons (pe_op op_cat (pv 13) (pe_lst (pa_cons (pe_tup (pa_cons (pv 6) (pa_cons (pv 7) (pa_cons (pv 11) (pa_cons (pe_op op_add (pv 11) (pv 5)) pa_nil))))) pa_nil))) pa_nil)))))) rfl)) pss_nil))))) pss_nil)))), ?_⟩
 rw [show ∀ x0 x1 : V, L2.start ["_law_rows", "_law_deed_here", "_law_way", "_law_number", "_law_firm", "_law_many_here", "_law_sister", "_law_cost", "_law_new", "_law_lot", "_law_holder", "_law_start", "_law_stop", "_law_layers"] [x0, x1] = [some x0, some x1, none, none, none, none, none, none, none, none, none, none, none, none] from fun _ _ => rfl]
 have hline : 600 ≤ sizeLine := by decide
 have hd : H dp = some (.tup [.int D.way, .int D.n, .str D.f, .int D.k, .str D.s, .int D.c, .int D.new]) := hd
 have kvl := kvA_len B
 obtain ⟨hk1, hdo⟩ := due_ok hdu
 refine ⟨_, rfl, dp, _, rfl, SqT.of hd, rfl, _, _, rfl, _, _, rfl, _, _, rfl, _, _, rfl, _, _, rfl, _, _, rfl, _, _, rfl, rfl, ?_⟩
 simp only [List.set_cons_zero, List.set_cons_succ]
 refine ⟨_, rfl, rfl, _, rfl, ?_⟩
 refine dec2 (fun h => ?_) (fun h => ?_)
 · have h0 : D.way = 0 := V.int.inj h
   refine ⟨_, rfl, _, rfl, _, rfl, _, rfl, _, rfl, _, rfl, (by show 4 ≤ sizeLine; decide), fun y2 hy2 => ?_⟩
   have g7 := same_upd (o := .tup [.str D.f, .int D.c, .int 0, .int D.k]) hy2
   refine ⟨(by show 1 ≤ sizeLine; decide), fun rl hrl => ?_⟩
   have g8 := same_upd (o := .lst [.ref y2]) hrl
   refine ⟨(by show 5 ≤ sizeLine; decide), fun q2 hq2 => ?_⟩
   have g9 := same_upd (o := .tup [.int D.new, .str D.f, .int 0, .int D.k, .ref rl]) hq2
   have gg := (g7.trans g8).trans g9
   have hrow : RwA (upd (upd (upd H y2 (.tup [.str D.f, .int D.c, .int 0, .int D.k])) rl (.lst [.ref y2])) q2 (.tup [.int D.new, .str D.f, .int 0, .int D.k, .ref rl])) q2 rl ⟨D.new, D.f, 0, D.k, [(y2, D.f, D.c, 0, D.k)]⟩ := ⟨upd_same, g9 _ _ upd_same, fun z hz => by
     rw [List.mem_singleton.mp hz]
     exact g9 _ _ (g8 _ _ upd_same)⟩
   generalize upd (upd (upd H y2 (.tup [.str D.f, .int D.c, .int 0, .int D.k])) rl (.lst [.ref y2])) q2 (.tup [.int D.new, .str D.f, .int 0, .int D.k, .ref rl]) = H9 at gg hrow ⊢
   clear g7 g8 g9
   have hrl0 : H rl = none := (same_upd hy2).free hrl
   have hrd9 := gg _ _ hrd
   have hB9 : RowsOk H9 ts B := fun x hx => ⟨(hB x hx).1.same gg, (hB x hx).2⟩
   refine ⟨_, rfl, _, rfl, rd, _, rfl, DPut.k (k := Sum.inl D.new) hrd9 (by omega), ?_⟩
   refine ⟨_, rfl, _, _, rfl, rfl, _, rfl, decF (by omega) ?_⟩
   refine q (putA B D.new (q2, rl, ⟨D.new, D.f, 0, D.k, [(y2, D.f, D.c, 0, D.k)]⟩)) _ (fun b o hb nb => by rw [upd_ne nb]; exact gg _ _ hb) ?_ (hB9.put hrd9 hrow (hok_one hk1 hk6 hc0 hc9) (inn_one hft)) ?_ (len_putA ..) (fun x hx => (mem_putA hx).elim (fun w => by rw [w]; exact Nat.le_add_left 1 m0) fun w => Nat.le_succ_of_le (hmB x w)) fun x hx => ?_
   · rw [upd_same, ← kvA_put]
   · rw [put_W]
     exact (if_pos h0).symm
   · rcases mem_putA hx with w | w
     · rw [w]
       exact .inr hrl0
     · exact .inl ⟨x, w, rfl⟩
 have h0 : ¬ D.way = 0 := fun z => h (congrArg V.int z)
 refine ⟨_, rfl, _, _, rfl, rfl, _, rfl, ?_⟩
 refine dec2 (fun h3 => ?_) (fun h3 => ?_)
 rotate_left
 · exact q B H (Kd.of (Same.refl _)) hrd hB (((if_neg h0).trans (if_pos (by omega))).symm) (by omega) (fun x hx => Nat.le_succ_of_le (hmB x hx)) fun x hx => .inl ⟨x, hx, rfl⟩
 obtain ⟨qx, lx, w, hxB, hwf, hkb⟩ := hdo h0
 have R : RwA H qx lx w := (hB _ hxB).1
 have hok : Hok w := (hB _ hxB).2.1
 have hin : InN ts w := (hB _ hxB).2.2
 have hll : w.L.length ≤ m0 := hmB _ hxB
 obtain ⟨o1, o2, o3⟩ := hok
 obtain ⟨z0, hz0⟩ : ∃ z, w.L[0]? = some z := ⟨_, List.getElem?_eq_getElem (by omega)⟩
 have hab := o1 z0 (List.mem_of_getElem? hz0)
 have hG : DGet H rd (.int D.n) (some (.ref qx)) := kvA_val hnd hxB ▸ DGet.k (k := Sum.inl D.n) hrd
 refine ⟨_, rfl, _, rfl, rd, _, rfl, hG, qx, _, rfl, SqT.of R.1, rfl, _, _, rfl, _, _, rfl, _, _, rfl, _, _, rfl, _, _, rfl, rfl, ?_⟩
 simp only [List.set_cons_zero, List.set_cons_succ]
 refine ⟨_, rfl, _, rfl, _, rfl, _, rfl, _, _, rfl, rfl, _, rfl, _, rfl, (by show 5 ≤ sizeLine; decide), fun t ht => ?_⟩
 have g6 := same_upd (o := .tup [.int w.lot, .str w.firm, .int (w.a + D.k), .int w.b, .ref lx]) ht
 refine ⟨_, rfl, _, rfl, rd, _, rfl, DPut.k (k := Sum.inl D.n) (g6 _ _ hrd) (by omega), ?_⟩
 have kr : Kd rd H (upd (upd H t (.tup [.int w.lot, .str w.firm, .int (w.a + D.k), .int w.b, .ref lx])) rd (.dK (putK (kvA B) (Sum.inl D.n) (.ref t)))) := fun b o hb nb => by
   rw [upd_ne nb]
   exact g6 _ _ hb
 have hrd6 : upd (upd H t (.tup [.int w.lot, .str w.firm, .int (w.a + D.k), .int w.b, .ref lx])) rd (.dK (putK (kvA B) (Sum.inl D.n) (.ref t))) rd = some (.dK (kvA (putA B D.n (t, lx, { w with a := w.a + D.k })))) := by
   rw [upd_same, ← kvA_put]
 have ht6 : upd (upd H t (.tup [.int w.lot, .str w.firm, .int (w.a + D.k), .int w.b, .ref lx])) rd (.dK (putK (kvA B) (Sum.inl D.n) (.ref t))) t = some (.tup [.int w.lot, .str w.firm, .int (w.a + D.k), .int w.b, .ref lx]) := by
   rw [upd_ne (fun z => by rw [z, hrd] at ht; cases ht)]
   exact upd_same
 generalize upd (upd H t (.tup [.int w.lot, .str w.firm, .int (w.a + D.k), .int w.b, .ref lx])) rd (.dK (putK (kvA B) (Sum.inl D.n) (.ref t))) = H6 at kr hrd6 ht6 ⊢
 have ndp : ((putA B D.n (t, lx, { w with a := w.a + D.k })).map (·.1)).Nodup := nd_putA hnd
 have hnB : D.n ∈ B.map (·.1) := List.mem_map.mpr ⟨_, hxB, rfl⟩
 have hin6 : (D.n, t, lx, { w with a := w.a + D.k }) ∈ putA B D.n (t, lx, { w with a := w.a + D.k }) := by
   unfold putA
   rw [if_pos (List.any_eq_true.mpr ⟨_, hxB, decide_eq_true rfl⟩)]
   exact List.mem_map.mpr ⟨_, hxB, if_pos rfl⟩
 apply join1 (fun (H7 : Hp) => Kd rd H6 H7 ∧ H7 rd = some (.dK (kvA (soldA B D.n D.k w t lx))))
 · intro kk
   refine ⟨_, rfl, _, rfl, _, _, rfl, rfl, _, rfl, rfl, _, rfl, ?_⟩
   refine dec2 (fun h => ?a) (fun h => ?b)
   case b =>
     have h0 : ¬ w.a + D.k = w.b := fun z => h (congrArg V.int z)
     obtain ⟨H7, eH⟩ : ∃ H7, H7 = H6 := ⟨_, rfl⟩
     rw [← eH]
     refine kk H7 ⟨by rw [eH]; exact Kd.of (Same.refl _), ?_⟩
     rw [eH, hrd6]
     unfold soldA
     rw [if_neg (by omega)]
   case a =>
     have h0 : w.a + D.k = w.b := V.int.inj h
     refine ⟨_, rfl, rd, rfl, .inl ⟨_, .inl hrd6⟩, _, rfl, _, Sum.inl D.n, _, hrd6, rfl, kvA_val ndp hin6, ?_⟩
     refine kk _ ⟨Kd.upd, ?_⟩
     rw [upd_same, kvA_drop, drop_put]
     unfold soldA
     rw [if_pos (by omega)]
 rintro H7 ⟨K7, hrd7⟩
 have k57 : Kd rd H H7 := kr.trans K7
 have ht7 := K7.tup hrd6 ht6
 -- the rows now
 have rows7 : ∀ x ∈ soldA B D.n D.k w t lx, RwA H7 x.2.1 x.2.2.1 x.2.2.2 := fun x hx => by
   rcases sold_mem hx with u | ⟨u, _⟩
   · exact (hB x u).1.kd hrd k57
   · rw [u]
     have R7 := R.kd hrd k57
     exact ⟨ht7, R7.2.1, R7.2.2⟩
 have oks7 : ∀ x ∈ soldA B D.n D.k w t lx, Hok x.2.2.2 ∧ InN ts x.2.2.2 := fun x hx => by
   rcases sold_mem hx with u | ⟨u, g⟩
   · exact (hB x u).2
   · rw [u]
     refine ⟨⟨fun z hz => ?_, o2, o3⟩, hin⟩
     have := o1 z hz
     show 0 ≤ z.2.2.1 ∧ z.2.2.1 ≤ 10 ^ 40 ∧ 0 ≤ z.2.2.2.1 ∧ z.2.2.2.1 ≤ w.a + D.k ∧ w.a + D.k < w.b ∧ w.b ≤ z.2.2.2.2 ∧ z.2.2.2.2 ≤ 1000000
     omega
 have lay7 : ∀ x ∈ soldA B D.n D.k w t lx, x.2.2.2.L.length ≤ m0 + 1 := fun x hx => by
   rcases sold_mem hx with u | ⟨u, _⟩
   · exact Nat.le_succ_of_le (hmB x u)
   · rw [u]
     exact Nat.le_succ_of_le hll
 have len7 := sold_ln (k := D.k) (v := w) (q := t) (l := lx) hnB
 clear kr hrd6 ht6 K7 ndp hin6 g6
 have lists7 : ∀ x ∈ soldA B D.n D.k w t lx, (∃ y ∈ B, y.2.2.1 = x.2.2.1) ∨ H x.2.2.1 = none := fun x hx => by
   rcases sold_mem hx with u | ⟨u, _⟩
   · exact .inl ⟨x, u, rfl⟩
   · rw [u]
     exact .inl ⟨_, hxB, rfl⟩
 refine ⟨_, rfl, _, _, rfl, rfl, _, rfl, ?_⟩
 have R9 := R.kd hrd k57
 refine dec2 (fun h5 => ?_) (fun h5 => ?_)
 rotate_left
 · refine q (soldA B D.n D.k w t lx) H7 k57 hrd7 (fun x hx => ⟨rows7 x hx, oks7 x hx⟩) ?_ (by omega) lay7 lists7
   rw [sold_W, lk_mem hnd hxB]
   exact (((if_neg h0).trans (if_neg (by omega))).trans (if_pos (by omega))).symm
 refine ⟨_, rfl, _, rfl, _, rfl, _, rfl, _, rfl, _, _, rfl, rfl, _, rfl, _, rfl, _, rfl, _, rfl, _, rfl, _, rfl, _, _, rfl, rfl, (by show 4 ≤ sizeLine; decide), fun y4 hy4 => ?_⟩
 have g1 := same_upd (o := .tup [.str D.s, .int D.c, .int w.a, .int (w.a + D.k)]) hy4
 refine ⟨(by show 1 ≤ sizeLine; decide), fun l5 hl5 => ?_⟩
 have g2 := same_upd (o := .lst [.ref y4]) hl5
 refine ⟨lx, l5, _, _, rfl, rfl, g2 _ _ (g1 _ _ R9.2.1), upd_same, (by rw [rfy_len]; show w.L.length + 1 ≤ sizeLine; omega), fun l6 hl6 => ?_⟩
 have g3 := same_upd (o := .lst (rfy w.L ++ [.ref y4])) hl6
 refine ⟨(by show 5 ≤ sizeLine; decide), fun t6 ht6 => ?_⟩
 have g4 := same_upd (o := .tup [.int w.lot, .str D.s, .int w.a, .int (w.a + D.k), .ref l6]) ht6
 have gg := ((g1.trans g2).trans g3).trans g4
 have hrow : RwA (upd (upd (upd (upd H7 y4 (.tup [.str D.s, .int D.c, .int w.a, .int (w.a + D.k)])) l5 (.lst [.ref y4])) l6 (.lst (rfy w.L ++ [.ref y4]))) t6 (.tup [.int w.lot, .str D.s, .int w.a, .int (w.a + D.k), .ref l6])) t6 l6 ⟨w.lot, D.s, w.a, w.a + D.k, w.L ++ [(y4, D.s, D.c, w.a, w.a + D.k)]⟩ := by
   refine ⟨upd_same, ?_, fun z hz => ?_⟩
   · rw [rfy_app]
     exact g4 _ _ upd_same
   · rcases List.mem_append.mp hz with u | u
     · exact gg _ _ (R9.2.2 z u)
     · rw [List.mem_singleton.mp u]
       exact g4 _ _ (g3 _ _ (g2 _ _ upd_same))
 generalize upd (upd (upd (upd H7 y4 (.tup [.str D.s, .int D.c, .int w.a, .int (w.a + D.k)])) l5 (.lst [.ref y4])) l6 (.lst (rfy w.L ++ [.ref y4]))) t6 (.tup [.int w.lot, .str D.s, .int w.a, .int (w.a + D.k), .ref l6]) = HX at gg hrow ⊢
 clear g1 g2 g3 g4
 have hrdX : HX rd = some (.dK (kvA (soldA B D.n D.k w t lx))) := gg _ _ hrd7
 have hkl := kvA_len (soldA B D.n D.k w t lx)
 refine ⟨_, rfl, _, rfl, rd, _, rfl, DPut.k (k := Sum.inl D.new) hrdX (by omega), ?_⟩
 have hkn : Hok ⟨w.lot, D.s, w.a, w.a + D.k, w.L ++ [(y4, D.s, D.c, w.a, w.a + D.k)]⟩ := by
   refine ⟨fun z hz => ?_, (by show 1 ≤ (w.L ++ [(y4, D.s, D.c, w.a, w.a + D.k)]).length; rw [List.length_append]; omega), (by show (w.L ++ [(y4, D.s, D.c, w.a, w.a + D.k)]).length ≤ 60; rw [List.length_append]; show w.L.length + 1 ≤ 60; omega)⟩
   rcases List.mem_append.mp hz with u | u
   · have := o1 z u
     show 0 ≤ z.2.2.1 ∧ z.2.2.1 ≤ 10 ^ 40 ∧ 0 ≤ z.2.2.2.1 ∧ z.2.2.2.1 ≤ w.a ∧ w.a < w.a + D.k ∧ w.a + D.k ≤ z.2.2.2.2 ∧ z.2.2.2.2 ≤ 1000000
     omega
   · rw [List.mem_singleton.mp u]
     show 0 ≤ D.c ∧ D.c ≤ 10 ^ 40 ∧ 0 ≤ w.a ∧ w.a ≤ w.a ∧ w.a < w.a + D.k ∧ w.a + D.k ≤ w.a + D.k ∧ w.a + D.k ≤ 1000000
     omega
 have hinn : InN ts ⟨w.lot, D.s, w.a, w.a + D.k, w.L ++ [(y4, D.s, D.c, w.a, w.a + D.k)]⟩ := ⟨hs, fun z hz => by
   rcases List.mem_append.mp hz with u | u
   · exact hin.2 z u
   · rw [List.mem_singleton.mp u]
     exact hs⟩
 have hl60 : H l6 = none := k57.free hrd7 (((same_upd hy4).trans (same_upd hl5)).free hl6)
 have hrd8 : upd HX rd (.dK (putK (kvA (soldA B D.n D.k w t lx)) (Sum.inl D.new) (.ref t6))) rd = some (.dK (kvA (putA (soldA B D.n D.k w t lx) D.new (t6, l6, ⟨w.lot, D.s, w.a, w.a + D.k, w.L ++ [(y4, D.s, D.c, w.a, w.a + D.k)]⟩)))) := by
   rw [upd_same, ← kvA_put]
 have hBX : RowsOk HX ts (soldA B D.n D.k w t lx) := fun x hx => ⟨(rows7 x hx).same gg, oks7 x hx⟩
 have hlp := len_putA (soldA B D.n D.k w t lx) D.new (t6, l6, ⟨w.lot, D.s, w.a, w.a + D.k, w.L ++ [(y4, D.s, D.c, w.a, w.a + D.k)]⟩)
 refine q _ _ (fun b o hb nb => by rw [upd_ne nb]; exact gg _ _ (k57 _ _ hb nb)) hrd8 (hBX.put hrdX hrow hkn hinn) ?_ (by omega) (fun x hx => (mem_putA hx).elim (fun u => by rw [u]; show (w.L ++ [(y4, D.s, D.c, w.a, w.a + D.k)]).length ≤ m0 + 1; rw [List.length_append]; exact Nat.succ_le_succ hll) (lay7 x)) fun x hx => ?_
 · rw [put_W, sold_W, lk_mem hnd hxB]
   have e1 : vv ⟨w.lot, D.s, w.a, w.a + D.k, w.L ++ [(y4, D.s, D.c, w.a, w.a + D.k)]⟩ = (w.lot, D.s, w.a, w.a + D.k, w.L.map (·.2) ++ [(D.s, D.c, w.a, w.a + D.k)]) := by
     show (w.lot, D.s, w.a, w.a + D.k, (w.L ++ [(y4, D.s, D.c, w.a, w.a + D.k)]).map (·.2)) = _
     rw [List.map_append]
     rfl
   rw [e1]
   exact (((if_neg h0).trans (if_neg (by omega))).trans (if_neg (by omega))).symm
 · rcases mem_putA hx with u | u
   · rw [u]
     exact .inr hl60
   · exact lists7 x u
theorem sc__law_held : FnScope ["_law_rows"] ["_law_rows"] (defScope s__law_held) := ⟨rfl, rfl, rfl, by decide +kernel, rfl, by decide +kernel, by decide +kernel⟩
theorem ok__law_held (D : Def K mg "_law_held" s__law_held .none) (z_sorted : mg "sorted" = none) (z_list : mg "list" = none) : Cal P w K mg base CX0 true 1 "_law_held" ["_law_rows"] [] spHe := by
 obtain ⟨f, fd, F, hm⟩ := D
 refine ⟨f, fd, _, F.ok sc__law_held (fun vs H Q E h => ?_) (fun cdv A outer s H vs Q E hr h => ?_), hm, F.kp, (F.binds fun _ _ _ _ _ _ us hl => match us, hl with | [_], _ => rfl), .nil, F.binds fun _ _ _ _ _ _ us hl => match us, hl with | [_], _ => rfl⟩
 · obtain ⟨rd, B, rfl, hrd, hB, hnd, hln, q⟩ := h
   rfl
 obtain ⟨rd, B, rfl, hrd, hB, hnd, hln, q⟩ := h
 have nd := sc__law_held.nd
 refine ⟨_, (pss_one (ps_ret (pe_lc [0] rfl (LcOk.free ["_law_rows"] rfl rfl (List.forall_mem_cons.mpr ⟨rfl, (fun _ h => nomatch h)⟩) (by decide +kernel) rfl (by decide +kernel) rfl (by decide +kernel) (show (["_law_number", "_law_rows"] : List Str).Nodup from by decide +kernel) (List.forall_mem_cons.mpr ⟨⟨_, rfl, rfl, rfl, by decide +kernel⟩, (fun _ h => nomatch h)⟩)) (pi_list (pe_callB (call_sortedI rfl) rfl z_sorted bt_sorted (pa_cons (pv 0) pa_nil))) (fun C s2 H2 fp xe => (pe_op op_catTC (pe_op op_catTC (pe_tup (pa_cons (pv 0) pa_nil)) (pe_slice sl_tupC (pe_dget (hu_of hr) (pv 1) (pv 0) (fun _ _ => rfl)) po_none (po_some pe_int))) (pe_tup (pa_cons (pe_callTy call_list_ofC rfl z_list bt_list (pa_cons (pe_ix ix_seqC (pe_dget (hu_of hr) (pv 1) (pv 0) (fun _ _ => rfl)) pe_int (fun _ _ => rfl)) pa_nil)) pa_nil))))))), ?_⟩
 have hline : 600 ≤ sizeLine := by decide
 have kvl := kvA_len B
 refine ⟨_, rfl, rd, kvA B, B.map (·.1), rfl, hrd, kvA_keys B, (by rw [List.length_map]; omega), fun sl ms hsl hpm hpw => ⟨sl, rfl, ⟨_, SqL.of upd_same⟩, ?_⟩⟩
 have e1 := same_upd (o := .lst (ms.map V.int)) hsl
 have hsl1 : upd H sl (.lst (ms.map V.int)) sl = some (.lst (ms.map V.int)) := upd_same
 generalize upd H sl (.lst (ms.map V.int)) = H1 at e1 hsl1 ⊢
 have hml : ms.length = B.length := by rw [hpm.length_eq, List.length_map]
 have lmm : (ms.map V.int).length = ms.length := List.length_map ..
 refine lc_list (xs := ms.map V.int) (fun i ys H' => ∃ Z : List Hr, ys = rfH Z ∧ Z.map (·.2.2.1) = ms.take i ∧ HrL H' Z ∧ (∀ z ∈ Z, H z.2.1 = none) ∧ (∀ z ∈ Z, ∃ q l, (z.2.2.1, q, l, z.2.2.2) ∈ B) ∧ Same H1 H') ⟨[], rfl, rfl, (fun z hz => nomatch hz), (fun z hz => nomatch hz), (fun z hz => nomatch hz), Same.refl _⟩ (by omega) ?_ ?_ ?_
 · rintro i ys H2 hi ⟨Z, rfl, hZ, _, _, _, e2⟩
   have := congrArg List.length hZ
   rw [List.length_map, List.length_take] at this
   exact ⟨SqL.of (e2 _ _ hsl1), by rw [rfH_len]; omega⟩
 · rintro i w ys H2 hw ⟨Z, rfl, hZ, hZt, hZf, hZb, e2⟩
   obtain ⟨n, hn, rfl⟩ : ∃ n, ms[i]? = some n ∧ w = .int n := by
     rw [List.getElem?_map] at hw
     cases h : ms[i]? with
     | none => rw [h] at hw; cases hw
     | some n => rw [h] at hw; exact ⟨n, rfl, (Option.some.inj hw).symm⟩
   obtain ⟨x0, hxB0, hx1⟩ := List.mem_map.mp (hpm.mem_iff.mp (List.mem_of_getElem? hn))
   obtain ⟨n', qx, lx, v⟩ := x0
   obtain rfl : n' = n := hx1
   have hxB : (n', qx, lx, v) ∈ B := hxB0
   have hG : ∀ {H3 : Hp}, Same H2 H3 → DGet H3 rd (.int n') (some (.ref qx)) := fun e => kvA_val hnd hxB ▸ DGet.k (k := Sum.inl n') (e _ _ (e2 _ _ (e1 _ _ hrd)))
   have R2 : RwA H2 qx lx v := (hB _ hxB).same (e1.trans e2)
   refine ⟨_, rfl, (by show 1 ≤ sizeLine; decide), fun t0 ht0 => ?_⟩
   have g0 := same_upd (o := .tup [.int n']) ht0
   refine ⟨_, rfl, _, rfl, rd, _, rfl, hG g0, _, rfl, qx, _, rfl, SqT.of (g0 _ _ R2.1), (fun h => absurd h.2 (by show ¬ (HT.sIx 5 5 (some 4) = 5); decide)), fun t1 ht1 => ?_⟩
   rw [show cutV [V.int v.lot, V.str v.firm, V.int v.a, V.int v.b, V.ref lx] none (some 4) = [V.int v.lot, V.str v.firm, V.int v.a, V.int v.b] from rfl]
   have g1 := same_upd (o := .tup [V.int v.lot, V.str v.firm, V.int v.a, V.int v.b]) ht1
   refine ⟨t0, t1, _, _, rfl, rfl, SqT.of (g1 _ _ upd_same), SqT.of upd_same, (fun h => nomatch h), (by show 5 ≤ sizeLine; decide), (fun h => nomatch h), fun _ t2 ht2 => ?_⟩
   have g2 := same_upd (o := .tup [V.int n', V.int v.lot, V.str v.firm, V.int v.a, V.int v.b]) ht2
   have g02 := (g0.trans g1).trans g2
   refine ⟨_, rfl, _, rfl, rd, _, rfl, hG g02, .inr (.inl ⟨qx, _, 4, _, rfl, rfl, SqT.of (g02 _ _ R2.1), rfl, lx, _, rfl, .inl (SqL.of (g02 _ _ R2.2.1)), fun l3 hl3 => ?_⟩)⟩
   have g3 := same_upd (o := .lst (rfy v.L)) hl3
   refine ⟨(by show 1 ≤ sizeLine; decide), fun t4 ht4 => ?_⟩
   have g4 := same_upd (o := .tup [.ref l3]) ht4
   refine ⟨t2, t4, _, _, rfl, rfl, SqT.of (g4 _ _ (g3 _ _ upd_same)), SqT.of upd_same, (fun h => nomatch h), (by show 6 ≤ sizeLine; decide), (fun h => nomatch h), fun _ t5 ht5 => ?_⟩
   have g5 := same_upd (o := .tup [V.int n', V.int v.lot, V.str v.firm, V.int v.a, V.int v.b, V.ref l3]) ht5
   have g := ((g02.trans g3).trans g4).trans g5
   refine ⟨Z ++ [(t5, l3, n', v)], by rw [rfH_app]; rfl, ?_, fun y hy => ?_, fun y hy => (List.mem_append.mp hy).elim (hZf y) fun w => by rw [List.mem_singleton.mp w]; exact ((e1.trans e2).trans g02).free hl3, fun y hy => ?_, e2.trans g⟩
   · rw [List.map_append, hZ, take_ny hn]
     rfl
   · rcases List.mem_append.mp hy with u | u
     · exact hZt.same g y u
     · rw [List.mem_singleton.mp u]
       exact ⟨upd_same, g5 _ _ (g4 _ _ upd_same), R2.2.2.same g⟩
   · rcases List.mem_append.mp hy with u | u
     · exact hZb y u
     · rw [List.mem_singleton.mp u]
       exact ⟨qx, lx, hxB⟩
 rintro ys H2 ⟨Z, rfl, hZ, hZt, hZf, hZb, e2⟩ due hdue
 rw [lmm, List.take_length] at hZ
 have e3 := same_upd (o := .lst (rfH Z)) hdue
 exact q due Z _ ((e1.trans e2).trans e3) ((e1.trans e2).free hdue) upd_same (hZt.same e3) hZf hZb (by rw [hZ]; exact hpm) (by rw [hZ]; exact hpw)
theorem sc__law_costs : FnScope ["_law_row", "_law_costs_here", "_law_lot", "_law_holder", "_law_start", "_law_stop", "_law_layers", "_law_firm", "_law_cost", "_law_begin", "_law_end", "_law_many_here", "_law_ahead"] ["_law_row"] (defScope s__law_costs) := ⟨rfl, rfl, rfl, by decide +kernel, rfl, by decide +kernel, by decide +kernel⟩
theorem ok__law_costs (D : Def K mg "_law_costs" s__law_costs .none) : Cal P w K mg base CX0 true 1 "_law_costs" ["_law_row"] [] spRc := by
 obtain ⟨f, fd, F, hm⟩ := D
 refine ⟨f, fd, _, F.ok sc__law_costs (fun vs H Q E h => ?_) (fun cdv A outer s H vs Q E hr h => ?_), hm, F.kp, (F.binds fun _ _ _ _ _ _ us hl => match us, hl with | [_], _ => rfl), .nil, F.binds fun _ _ _ _ _ _ us hl => match us, hl with | [_], _ => rfl⟩
 · obtain ⟨q0, l, v, rfl, R, hk, q⟩ := h
   rfl
 obtain ⟨q0, l, v, rfl, R, hk, q⟩ := h
 have nd := sc__law_costs.nd
 refine ⟨_, (pss_cons (ps_asg (pv 0) (pg_tup rfl (pgs_cons (pg_name (i := 2) nd rfl (Or.inl rfl)) (pgs_cons (pg_name (i := 3) nd rfl (Or.inl rfl)) (pgs_cons (pg_name (i := 4) nd rfl (Or.inl rfl)) (pgs_cons (pg_name (i := 5) nd rfl (Or.inl rfl)) (pgs_cons (pg_name (i := 6) nd rfl (Or.inl rfl)) pgs_nil)))))))
   (pss_cons (ps_set (i := 1) nd rfl (Or.inl rfl) (pe_lst pa_nil))
   (pss_cons (ps_for PassesOwn.never rfl (pi_list (pv 6)) (pg_tup rfl (pgs_cons (pg_name (i := 7) nd rfl (Or.inl rfl)) (pgs_cons (pg_name (i := 8) nd rfl (Or.inl rfl)) (pgs_cons (pg_name (i := 9) nd rfl (Or.inl rfl)) (pgs_cons (pg_name (i := 10) nd rfl (Or.inl rfl)) pgs_nil))))) (pss_cons (ps_set (i := 11) nd rfl (Or.inl rfl) (pe_op op_sub (pv 10) (pv 9)))
   (pss_cons (ps_set (i := 12) nd rfl (Or.inl rfl) (pe_op op_fdivB (pe_op op_mulB (pv 8) (pe_op op_sub (pv 4) (pv 9))) (pv 11)))
   (pss_one (ps_expr (pe_bm PySem.F.plainAttrs_list PySem.F.slot_list_append PySem.F.type_list_append mt_append (pv 1) (pa_cons (pe_op op_sub (pe_op op_fdivB (pe_op op_mulB (pv 8) (pe_op op_sub (pv 5) (pv 9))) (pv 11)) (pv 12)) pa_nil)))))))
   (pss_one (ps_ret (pv 1)))))), ?_⟩
 have hline : 600 ≤ sizeLine := by decide
 have hT := SqT.of (K := K) R.1
 refine ⟨_, rfl, q0, _, rfl, hT, rfl, _, _, rfl, _, _, rfl, _, _, rfl, _, _, rfl, _, _, rfl, rfl, ?_⟩
 refine ⟨(by show 0 ≤ sizeLine; decide), fun c hc => ?_⟩
 have e1 := same_upd (o := .lst []) hc
 refine ⟨_, rfl, l, rfl, ⟨_, SqL.of (e1 _ _ R.2.1)⟩, ?_⟩
 have hk3 := hk.2.2
 refine for_list (xs := rfy v.L) (fun i σ H' => ∃ (o1 o2 o3 o4 o5 o6 : Option V), σ = [some (.ref q0), some (.ref c), some (.int v.lot), some (.str v.firm), some (.int v.a), some (.int v.b), some (.ref l), o1, o2, o3, o4, o5, o6] ∧ Same H H' ∧ H' c = some (.lst ((cos (v.L.take i) v.a v.b).map V.int))) ⟨_, _, _, _, _, _, rfl, e1, upd_same⟩ ?_ ?_ ?_
 · rintro i σ H1 hi ⟨o1, o2, o3, o4, o5, o6, rfl, e, _⟩
   exact SqL.of (e _ _ R.2.1)
 · rintro i x σ H1 hx ⟨o1, o2, o3, o4, o5, o6, rfl, e, hcc⟩
   obtain ⟨z, hz, rfl⟩ := rfy_at hx
   have hzm := List.mem_of_getElem? hz
   have oz := hk.1 z hzm
   have hzz := e _ _ (R.2.2 z hzm)
   unfold tupY at hzz
   have hil : i < v.L.length := (List.getElem?_eq_some_iff.mp hz).1
   refine ⟨z.1, _, rfl, SqT.of hzz, rfl, _, _, rfl, _, _, rfl, _, _, rfl, _, _, rfl, rfl, ?_⟩
   refine ⟨_, rfl, _, rfl, _, _, rfl, rfl, ?_⟩
   refine ⟨_, rfl, _, rfl, _, rfl, _, _, rfl, rfl, _, _, rfl, rfl, mul_of (by omega) (by omega) (by omega) (by omega), _, rfl, _, _, rfl, rfl, log_of (by omega) (by omega) (by omega), ?_⟩
   refine ⟨_, rfl, .inl ⟨rfl, _, SqL.of hcc⟩, _, rfl, _, rfl, _, rfl, _, _, rfl, rfl, _, _, rfl, rfl, mul_of (by omega) (by omega) (by omega) (by omega), _, rfl, _, _, rfl, rfl, log_of (by omega) (by omega) (by omega), _, rfl, _, _, rfl, rfl, c, _, _, rfl, rfl, hcc, (by rw [List.length_map, cos_len, List.length_take]; omega), ?_⟩
   refine ⟨_, _, _, _, _, _, rfl, same_set e hc, ?_⟩
   rw [upd_same, take_ny hz]
   unfold cos
   rw [List.map_append, List.map_append]
   rfl
 rintro σ H1 ⟨o1, o2, o3, o4, o5, o6, rfl, e, hcc⟩
 rw [rfy_len, List.take_length] at hcc
 exact ⟨_, rfl, q c H1 e hc hcc⟩
theorem gd1_nx {A : List Sh} {i : Nat} {x : Sh} {f : Str} (h : A[i]? = some x) : gd1 (A.take (i + 1)) f = gd1 (A.take i) f + (if x.2.2.2.firm = f then hdC x.2.2.2 else 0) := by
 unfold gd1
 rw [flF_nx h]
 by_cases e : x.2.2.2.firm = f
 · rw [if_pos e, if_pos e, List.map_append]
   exact sumI_snoc ..
 · rw [if_neg e, if_neg e, List.append_nil, Int.add_zero]
theorem gd2_nx {A : List Sh} {i : Nat} {x : Sh} {f : Str} (h : A[i]? = some x) : gd2 (A.take (i + 1)) f = gd2 (A.take i) f + (if x.2.2.2.firm = f then lsC x.2.2.2 - hdC x.2.2.2 else 0) := by
 unfold gd2
 rw [flF_nx h]
 by_cases e : x.2.2.2.firm = f
 · rw [if_pos e, if_pos e, List.map_append]
   exact sumI_snoc ..
 · rw [if_neg e, if_neg e, List.append_nil, Int.add_zero]
theorem gnA_nx {A : List Sh} {i : Nat} {x : Sh} {f : Str} (h : A[i]? = some x) : gnA (A.take (i + 1)) f = gnA (A.take i) f + gnF x.2.2.2 f := by
 unfold gnA
 rw [take_ny h, List.map_append]
 exact sumI_snoc ..
def gnJ (v : Hv) (j : Nat) (f : Str) : Int := sumI (((gns v.L v.a v.b j).filter fun g => decide (g.1 = f)).map (·.2))
theorem gnJ_nx {v : Hv} {j : Nat} {f : Str} {z : Ly} (h : v.L[j]? = some z) : gnJ v (j + 1) f = gnJ v j f + (if f = z.2.1 then (cst v).getD (j + 1) 0 - (cst v).getD j 0 else 0) := by
 unfold gnJ
 have hg : (v.L.getD j (0, "", 0, 0, 0)).2.1 = z.2.1 := by
   rw [List.getD, h]
   rfl
 rw [gns_nx, List.filter_append, hg]
 by_cases e : f = z.2.1
 · rw [if_pos e, List.filter_cons_of_pos (by simpa using e.symm), List.map_append]
   exact sumI_snoc ..
 · rw [if_neg e, List.filter_cons_of_neg (by simpa using fun w => e w.symm), List.filter_nil, List.append_nil, Int.add_zero]
theorem el_two {K : PySem.W.Frag} {H : Hp} {a b : Int} : ∀ (j : Nat) x y, ([V.int a, V.int b] : List V)[j]? = some x → ([V.int a, V.int b] : List V)[j]? = some y → eqT K H x y ∨ eqLi K H x y := fun j x y e1 e2 => by
 have e3 := e1.symm.trans e2
 refine .inl (.inl ⟨Option.some.inj e3, ?_⟩)
 match j with
 | 0 => cases e1; rfl
 | 1 => cases e1; rfl
 | j + 2 => cases e1
theorem bt_min : bootBuiltins "min" = some (.builtin "min") := by decide +kernel
def spMy : Sp := fun vs H Q _ => ∃ (ce n : Int) (rd : Addr) (B : List Sh), vs = [.int ce, .ref rd, .int n] ∧ H rd = some (.dK (kvA B)) ∧ (∀ x ∈ B, RwA H x.2.1 x.2.2.1 x.2.2.2 ∧ Hok x.2.2.2) ∧ (B.map (·.1)).Nodup ∧ ∀ (m : Int) H', Same H H' → m ≤ 1000000 → Q (.int m) H'
def spDd : Sp := fun vs H Q _ => ∃ (ce new : Int) (rd tl nl : Addr) (B : List Sh) (Tl : List Int) (ts : List Str), vs = [.int ce, .ref rd, .ref tl, .ref nl, .int new] ∧ H rd = some (.dK (kvA B)) ∧ RowsOk H ts B ∧ (B.map (·.1)).Nodup ∧ H tl = some (.lst (Tl.map V.int)) ∧ Tl.length ≤ 60 ∧ H nl = some (.lst (ts.map V.str)) ∧ ts.length = 3 ∧
 ∀ dp (D : Dd) H', Same H H' → H' dp = some (.tup (ddT D)) → D.new = new → D.f ∈ ts → D.s ∈ ts → 0 ≤ D.c → D.c ≤ 10 ^ 40 → D.k ≤ 1000000 → 0 ≤ D.way → D.way ≤ 7 → Q (.ref dp) H'
def AlR (H : Hp) (t u : Addr) (ls : List (Addr × Addr)) : Prop :=
 (ls = [] ∧ ∃ r t2 u2, H t = some (.tup [.bl false, .ref t2]) ∧ H t2 = some (.tup (rU r)) ∧ H u = some (.tup [.bl false, .ref u2]) ∧ H u2 = some (.tup (rU r))) ∨
 (ls = [] ∧ H t = some (.tup [.bl true, .non]) ∧ H u = some (.tup [.bl true, .non])) ∨
 (∃ l l2, ls = [(l, l2)] ∧ ∃ (t2 u2 : Addr) (lo a b : Int) (L L' : List Ly), H t = some (.tup [.bl true, .ref t2]) ∧ H u = some (.tup [.bl true, .ref u2]) ∧ H t2 = some (.tup [.int lo, .int a, .int b, .ref l]) ∧ H u2 = some (.tup [.int lo, .int a, .int b, .ref l2]) ∧ H l = some (.lst (rfy L)) ∧ RY H L ∧ H l2 = some (.lst (rfy L')) ∧ RY H L' ∧ L.map (·.2) = L'.map (·.2))
theorem rU_pl (r : Rf) : ∀ z ∈ rU r, eqPl z = true := fun z hz => by
 cases r <;> (unfold rU at hz; simp only [List.mem_cons, List.not_mem_nil, or_false] at hz)
 · rcases hz with rfl | rfl <;> rfl
 · rcases hz with rfl | rfl <;> rfl
 · rcases hz with rfl | rfl | rfl <;> rfl
theorem rU_si (r : Rf) : ∀ z ∈ rU r, (∃ s, z = .str s) ∨ ∃ i, z = .int i := fun z hz => by
 cases r <;> (unfold rU at hz; simp only [List.mem_cons, List.not_mem_nil, or_false] at hz)
 · rcases hz with rfl | rfl
   · exact .inl ⟨_, rfl⟩
   · exact .inr ⟨_, rfl⟩
 · rcases hz with rfl | rfl
   · exact .inl ⟨_, rfl⟩
   · exact .inr ⟨_, rfl⟩
 · rcases hz with rfl | rfl | rfl
   · exact .inl ⟨_, rfl⟩
   · exact .inr ⟨_, rfl⟩
   · exact .inr ⟨_, rfl⟩
theorem rU_len (r : Rf) : HT.sIx (rU r).length 0 none = 0 ∧ HT.sIx (rU r).length (rU r).length (some 3) = (rU r).length := by
 cases r
 · exact ⟨(by show HT.sIx 2 0 none = 0; decide), (by show HT.sIx 2 2 (some 3) = 2; decide)⟩
 · exact ⟨(by show HT.sIx 2 0 none = 0; decide), (by show HT.sIx 2 2 (some 3) = 2; decide)⟩
 · exact ⟨(by show HT.sIx 3 0 none = 0; decide), (by show HT.sIx 3 3 (some 3) = 3; decide)⟩
theorem AlR.eqW {K : PySem.W.Frag} {H : Hp} {t u : Addr} {ls : List (Addr × Addr)} (h : AlR H t u ls) : ∃ xs ys, SqT K H t xs ∧ SqT K H u ys ∧ xs.length = ys.length ∧ ∀ (j : Nat) x y, xs[j]? = some x → ys[j]? = some y → L2.eqW K H x y := by
 rcases h with ⟨_, r, t2, u2, h1, h2, h3, h4⟩ | ⟨_, h1, h3⟩ | ⟨l, l2, _, t2, u2, lo, a, b, L, L', h1, h3, h2, h4, h5, r5, h6, r6, e⟩
 · refine ⟨_, _, SqT.of h1, SqT.of h3, rfl, fun j x y e1 e2 => ?_⟩
   match j with
   | 0 => cases e1; cases e2; exact .inl (.inl ⟨rfl, rfl⟩)
   | 1 => cases e1; cases e2; exact .inl (.inr ⟨t2, u2, _, rfl, rfl, SqT.of h2, SqT.of h4, rU_pl r⟩)
   | j + 2 => cases e1
 · refine ⟨_, _, SqT.of h1, SqT.of h3, rfl, fun j x y e1 e2 => ?_⟩
   match j with
   | 0 => cases e1; cases e2; exact .inl (.inl ⟨rfl, rfl⟩)
   | 1 => cases e1; cases e2; exact .inl (.inl ⟨rfl, rfl⟩)
   | j + 2 => cases e1
 · refine ⟨_, _, SqT.of h1, SqT.of h3, rfl, fun j x y e1 e2 => ?_⟩
   match j with
   | 0 => cases e1; cases e2; exact .inl (.inl ⟨rfl, rfl⟩)
   | 1 =>
     cases e1
     cases e2
     refine .inr (.inr ⟨t2, u2, _, _, rfl, rfl, SqT.of h2, SqT.of h4, rfl, fun i x y e1 e2 => ?_⟩)
     match i with
     | 0 => cases e1; cases e2; exact .inl (.inl ⟨rfl, rfl⟩)
     | 1 => cases e1; cases e2; exact .inl (.inl ⟨rfl, rfl⟩)
     | 2 => cases e1; cases e2; exact .inl (.inl ⟨rfl, rfl⟩)
     | 3 => cases e1; cases e2; exact .inr (eqRy h5 r5 h6 r6 e)
     | i + 4 => cases e1
   | j + 2 => cases e1
def spAl : Sp := fun vs H Q _ => ∃ (t u : Addr) (ls : List (Addr × Addr)), vs = [.ref t, .ref u] ∧ AlR H t u ls ∧ ∀ H', Same H H' → Q (.bl true) H'
theorem sc__law_sums : FnScope ["_law_rows", "_law_name", "_law_first", "_law_above", "_law_gain", "_law_row", "_law_costs_here", "_law_k"] ["_law_rows", "_law_name"] (defScope s__law_sums) := ⟨rfl, rfl, rfl, by decide +kernel, rfl, by decide +kernel, by decide +kernel⟩
theorem ok__law_sums (D : Def K mg "_law_sums" s__law_sums .none) (c__law_costs : Cal P w K mg base CX0 true 1 "_law_costs" ["_law_row"] [] spRc) (z_range : mg "range" = none) (z_len : mg "len" = none) : Cal P w K mg base CX0 true 2 "_law_sums" ["_law_rows", "_law_name"] [] spS3 := by
 obtain ⟨f, fd, F, hm⟩ := D
 obtain ⟨f__law_costs, fd__law_costs, d__law_costs, G__law_costs, m__law_costs, k__law_costs, b__law_costs, v__law_costs, b__law_costs1⟩ := c__law_costs
 refine ⟨f, fd, _, F.ok sc__law_sums (fun vs H Q E h => ?_) (fun cdv A outer s H vs Q E hr h => ?_), hm, F.kp, (F.binds fun _ _ _ _ _ _ us hl => match us, hl with | [_, _], _ => rfl), .nil, F.binds fun _ _ _ _ _ _ us hl => match us, hl with | [_, _], _ => rfl⟩
 · obtain ⟨rd, B, f, rfl, hrd, hB, hBl, q⟩ := h
   rfl
 obtain ⟨rd, B, f, rfl, hrd, hB, hBl, q⟩ := h
 have nd := sc__law_sums.nd
 refine ⟨_, (pss_cons (ps_set (i := 2) nd rfl (Or.inl rfl) pe_int)
   (pss_cons (ps_set (i := 3) nd rfl (Or.inl rfl) pe_int)
   (pss_cons (ps_set (i := 4) nd rfl (Or.inl rfl) pe_int)
   (pss_cons (ps_for PassesOwn.never rfl (pi_vals (pe_bm0 PySem.F.plainAttrs_dict PySem.F.slot_dict_values PySem.F.type_dict_values mt_values (pv 0))) (pg_name (i := 5) nd rfl (Or.inl rfl)) (pss_cons (ps_set (i := 6) nd rfl (Or.inl rfl) (pe_call G__law_costs (hr.mono (by decide)) rfl m__law_costs k__law_costs b__law_costs Paired.nil pass0 (pa_cons (pv 5) pa_nil)))
   (pss_cons (ps_if (pt_cmpR op_eq (pe_ix ix_seq (pv 5) pe_int (fun _ _ => rfl)) (pv 1) (nomark _)) (pss_cons (ps_set (i := 2) nd rfl (Or.inl rfl) (pe_op op_add (pv 2) (pe_ix ix_seq (pv 6) pe_int (fun _ _ => rfl))))
   (pss_one (ps_set (i := 3) nd rfl (Or.inl rfl) (pe_op op_sub (pe_op op_add (pv 3) (pe_ix ix_seq (pv 6) (pe_un un_neg pe_int) (fun _ _ => rfl))) (pe_ix ix_seq (pv 6) pe_int (fun _ _ => rfl)))))) pss_nil)
   (pss_one (ps_for PassesOwn.never rfl (pi_range1 rfl z_range (pa_cons (pe_op op_sub (pe_callB call_len_seq rfl z_len bt_len (pa_cons (pv 6) pa_nil)) pe_int) pa_nil)) (pg_name (i := 7) nd rfl (Or.inl rfl)) (pss_one (ps_if (pt_cmpR op_eq (pe_ix ix_seq (pe_ix ix_seq (pe_ix ix_seq (pv 5) pe_int (fun _ _ => rfl)) (pv 7) (fun _ _ => rfl)) pe_int (fun _ _ => rfl)) (pv 1) (nomark _)) (pss_one (ps_set (i := 4) nd rfl (Or.inl rfl) (pe_op op_sub (pe_op op_add (pv 4) (pe_ix ix_seq (pv 6) (pe_op op_add (pv 7) pe_int) (fun _ _ => rfl))) (pe_ix ix_seq (pv 6) (pv 7) (fun _ _ => rfl))))) pss_nil)))))))
   (pss_one (ps_thaw (ps_ret (pe_tup (pa_cons (pe_tup (pa_cons (pv 2) (pa_cons (pv 3) pa_nil))) (pa_cons (pv 4) pa_nil)))))))))), ?_⟩
 have hline : 600 ≤ sizeLine := by decide
 refine ⟨_, rfl, .inr (.inr (.inl ⟨rfl, .inl ⟨_, hrd⟩⟩)), rd, _, rfl, rfl, hrd, fun v hv => ?_⟩
 have f1 := same_upd (o := vvw v rd) hv
 refine ⟨v, rd, _, rfl, upd_same, f1 _ _ hrd, fun ob => ?_⟩
 have kvl := kvA_len B
 refine for_vals (d := rd) (o := ob) (kvs := kvA B) (fun i σ H' => ∃ (o5 o6 o7 : Option V), σ = [some (.ref rd), some (.str f), some (.int (gd1 (B.take i) f)), some (.int (gd2 (B.take i) f)), some (.int (gnA (B.take i) f)), o5, o6, o7] ∧ H' rd = some (.frz ob (.dK (kvA B))) ∧ Kd rd H H') ⟨_, _, _, rfl, upd_same, fun b o hb nb => by rw [upd_ne nb]; exact f1 _ _ hb⟩ ?_ ?_ ?_
 · rintro i σ H' hi ⟨o5, o6, o7, rfl, hf, _⟩
   exact hf
 · rintro i kv σ H2 hkv ⟨o5, o6, o7, rfl, hf, kp⟩
   obtain ⟨x, hx, rfl⟩ : ∃ x, B[i]? = some x ∧ kv = ((Sum.inl x.1 : Key), V.ref x.2.1) := by
     unfold kvA at hkv
     rw [List.getElem?_map] at hkv
     cases h : B[i]? with
     | none => rw [h] at hkv; cases hkv
     | some x => rw [h] at hkv; exact ⟨x, rfl, (Option.some.inj hkv).symm⟩
   have hxB := List.mem_of_getElem? hx
   obtain ⟨R, hk⟩ := hB x hxB
   have R2 := R.kd hrd kp
   have hk1 := hk.2.1
   have hk2 := hk.2.2
   have cl0 : (cst x.2.2.2).length = x.2.2.2.L.length := cos_len ..
   have lmC : ((cst x.2.2.2).map V.int).length = x.2.2.2.L.length := by rw [List.length_map]; exact cl0
   refine ⟨_, rfl, x.2.1, x.2.2.1, x.2.2.2, rfl, R2, hk, fun c H3 e3 hc0 hc => ?_⟩
   have R3 := R2.same e3
   have hf3 := e3 _ _ hf
   have hsq := SqL.of (K := K) hc
   have g1x := gd1_nx (f := f) hx
   have g2x := gd2_nx (f := f) hx
   apply join2 (fun (a1 a2 : Int) => a1 = gd1 (B.take (i + 1)) f ∧ a2 = gd2 (B.take (i + 1)) f)
   · intro kk
     refine ⟨_, rfl, .inr (.inl ⟨x.2.1, _, 1, _, rfl, rfl, SqT.of R3.1, rfl, _, rfl, rfl, _, rfl, ?_⟩)⟩
     refine dec2 (fun h => ?a) (fun h => ?b)
     case b =>
       have hff : ¬ x.2.2.2.firm = f := fun z => h (congrArg V.str z)
       rw [if_neg hff, Int.add_zero] at g1x g2x
       obtain ⟨b1, e1⟩ : ∃ b, b = gd1 (B.take i) f := ⟨_, rfl⟩
       obtain ⟨b2, e2⟩ : ∃ b, b = gd2 (B.take i) f := ⟨_, rfl⟩
       rw [← e1, ← e2]
       exact kk b1 b2 ⟨e1.trans g1x.symm, e2.trans g2x.symm⟩
     case a =>
       have hff : x.2.2.2.firm = f := V.str.inj h
       rw [if_pos hff] at g1x g2x
       refine ⟨_, rfl, _, rfl, .inl ⟨c, _, _, _, rfl, rfl, hsq, at_int (ws := cst x.2.2.2) (f := 0) (by omega) (by omega), _, _, rfl, rfl, ?_⟩⟩
       refine ⟨_, rfl, _, rfl, _, rfl, .inl ⟨c, _, _, _, rfl, rfl, hsq, at_last (cst_last hk1), _, _, rfl, rfl, _, rfl, .inl ⟨c, _, _, _, rfl, rfl, hsq, at_int (ws := cst x.2.2.2) (f := 0) (by omega) (by omega), _, _, rfl, rfl, ?_⟩⟩⟩
       exact kk (gd1 (B.take i) f + hdC x.2.2.2) (gd2 (B.take i) f + lsC x.2.2.2 - hdC x.2.2.2) ⟨g1x.symm, by omega⟩
   rintro a1 a2 ⟨ea1, ea2⟩
   refine ⟨_, rfl, c, _, rfl, .inl hsq, _, _, rfl, rfl, _, rfl, by omega, by omega, ?_⟩
   refine for_range (fun j σ H' => ∃ o7 : Option V, σ = [some (.ref rd), some (.str f), some (.int a1), some (.int a2), some (.int (gnA (B.take i) f + gnJ x.2.2.2 j f)), some (.ref x.2.1), some (.ref c), o7] ∧ H' = H3) ⟨o7, (by
     have z : gnA (B.take i) f + gnJ x.2.2.2 0 f = gnA (B.take i) f := Int.add_zero _
     rw [z] <;> rfl), rfl⟩ ?_ ?_
   · rintro j σ H6 hj ⟨o7, rfl, rfl⟩
     have hjl : j + 1 < x.2.2.2.L.length := by omega
     obtain ⟨z, hz⟩ : ∃ z, x.2.2.2.L[j]? = some z := ⟨_, List.getElem?_eq_getElem (by omega)⟩
     have hzm := List.mem_of_getElem? hz
     have hzt := R3.2.2 z hzm
     unfold tupY at hzt
     have a1' : atI ((cst x.2.2.2).map V.int) (0 + (j : Int) + 1) = some (.int ((cst x.2.2.2).getD (j + 1) 0)) := by
       have w := at_int (ws := cst x.2.2.2) (f := 0 + (j : Int) + 1) (by omega) (by omega)
       rw [show (0 + (j : Int) + 1).toNat = j + 1 by omega] at w
       exact w
     have a0' : atI ((cst x.2.2.2).map V.int) (0 + (j : Int)) = some (.int ((cst x.2.2.2).getD j 0)) := by
       have w := at_int (ws := cst x.2.2.2) (f := 0 + (j : Int)) (by omega) (by omega)
       rw [show (0 + (j : Int)).toNat = j by omega] at w
       exact w
     have al : atI (rfy x.2.2.2.L) (0 + (j : Int)) = some (.ref z.1) := by
       rw [Int.zero_add]
       exact atI_nat (at_rfy hz)
     have gx := gnJ_nx (f := f) hz
     refine ⟨_, rfl, .inr (.inl ⟨x.2.1, _, 4, _, rfl, rfl, SqT.of R3.1, rfl, _, rfl, .inl ⟨x.2.2.1, _, _, _, rfl, rfl, SqL.of R3.2.1, al, .inr (.inl ⟨z.1, _, 0, _, rfl, rfl, SqT.of hzt, rfl, _, rfl, rfl, _, rfl, ?_⟩)⟩⟩)⟩
     refine dec2 (fun h => ?_) (fun h => ?_)
     · have hzf : f = z.2.1 := (V.str.inj h).symm
       rw [if_pos hzf] at gx
       refine ⟨_, rfl, _, rfl, _, rfl, _, _, rfl, rfl, .inl ⟨c, _, _, _, rfl, rfl, hsq, a1', _, _, rfl, rfl, _, rfl, _, rfl, .inl ⟨c, _, _, _, rfl, rfl, hsq, a0', _, _, rfl, rfl, ?_⟩⟩⟩
       refine ⟨some (.int (0 + (j : Int))), ?_, rfl⟩
       rw [gx, show gnA (B.take i) f + (gnJ x.2.2.2 j f + ((cst x.2.2.2).getD (j + 1) 0 - (cst x.2.2.2).getD j 0)) = gnA (B.take i) f + gnJ x.2.2.2 j f + (cst x.2.2.2).getD (j + 1) 0 - (cst x.2.2.2).getD j 0 by omega]
       rfl
     · have hzf : ¬ f = z.2.1 := fun z => h (congrArg V.str z.symm)
       rw [if_neg hzf, Int.add_zero] at gx
       refine ⟨some (.int (0 + (j : Int))), ?_, rfl⟩
       rw [gx]
       rfl
   · rintro σ H6 ⟨o7, rfl, rfl⟩
     refine ⟨some (.ref x.2.1), some (.ref c), o7, ?_, hf3, fun b o hb nb => e3 _ _ (kp b o hb nb)⟩
     have z4 : ((((cst x.2.2.2).map V.int).length : Int) - 1).toNat = x.2.2.2.L.length - 1 := by omega
     have z5 : gnA (B.take i) f + gnJ x.2.2.2 (x.2.2.2.L.length - 1) f = gnA (B.take (i + 1)) f := (gnA_nx hx).symm
     rw [← ea1, ← ea2, ← z5]
     rw [← z4]
 rintro σ H2 ⟨o5, o6, o7, rfl, hf, kp⟩
 rw [kvl, List.take_length]
 refine ⟨rd, ob, _, hf, (fun o' u z => by
   have z : H rd = some (.frz o' u) := z
   rw [hrd] at z
   cases z), ?_⟩
 have e3 : Same H (upd H2 rd (.dK (kvA B))) := fun b o hb => by
   by_cases nb : b = rd
   · subst nb
     rw [upd_same, ← hrd]
     exact hb
   · rw [upd_ne nb]
     exact kp b o hb nb
 refine ⟨_, rfl, _, rfl, (by show 2 ≤ sizeLine; decide), fun t2 ht2 => ?_⟩
 have g5 := same_upd (o := .tup [.int (gd1 B f), .int (gd2 B f)]) ht2
 refine ⟨_, rfl, (by show 2 ≤ sizeLine; decide), fun t ht => ?_⟩
 have g6 := same_upd (o := .tup [.ref t2, .int (gnA B f)]) ht
 exact q t t2 _ ((e3.trans g5).trans g6) upd_same (g6 _ _ upd_same)
theorem sc__law_summed : FnScope ["_law_stock", "_law_rows", "_law_name", "_law_cell_here", "_law_due_here"] ["_law_stock", "_law_rows", "_law_name", "_law_cell_here"] (defScope s__law_summed) := ⟨rfl, rfl, rfl, by decide +kernel, rfl, by decide +kernel, by decide +kernel⟩
theorem ok__law_summed (D : Def K mg "_law_summed" s__law_summed .none) {C_Holding C_Stock : Addr} (c__law_sums : Cal P w K mg base CX0 true 2 "_law_sums" ["_law_rows", "_law_name"] [] spS3) (c__law_draw : Cal P w K mg base CX0 true 1 "_law_draw" ["_law_cell_here", "_law_at"] [] spDr6) (c_Stock_unmade : CalM P w K mg base CX0 true 6 C_Stock "unmade" ["self", "firm"] [] (spUn C_Stock C_Holding)) (c_Stock_goods_of : CalM P w K mg base CX0 true 5 C_Stock "goods_of" ["self", "firm"] [] (spGd C_Stock C_Holding)) (cl_Stock : Cls K C_Stock) : Cal P w K mg base CX0 true 7 "_law_summed" ["_law_stock", "_law_rows", "_law_name", "_law_cell_here"] [] (spSd C_Stock C_Holding) := by
 obtain ⟨f, fd, F, hm⟩ := D
 obtain ⟨f__law_sums, fd__law_sums, d__law_sums, G__law_sums, m__law_sums, k__law_sums, b__law_sums, v__law_sums, b__law_sums1⟩ := c__law_sums
 obtain ⟨f__law_draw, fd__law_draw, d__law_draw, G__law_draw, m__law_draw, k__law_draw, b__law_draw, v__law_draw, b__law_draw1⟩ := c__law_draw
 obtain ⟨f_Stock_unmade, fd_Stock_unmade, d_Stock_unmade, G_Stock_unmade, m_Stock_unmade, b_Stock_unmade, v_Stock_unmade, b_Stock_unmade1⟩ := c_Stock_unmade
 obtain ⟨f_Stock_goods_of, fd_Stock_goods_of, d_Stock_goods_of, G_Stock_goods_of, m_Stock_goods_of, b_Stock_goods_of, v_Stock_goods_of, b_Stock_goods_of1⟩ := c_Stock_goods_of
 refine ⟨f, fd, _, F.ok sc__law_summed (fun vs H Q E h => ?_) (fun cdv A outer s H vs Q E hr h => ?_), hm, F.kp, (F.binds fun _ _ _ _ _ _ us hl => match us, hl with | [_, _, _, _], _ => rfl), .nil, F.binds fun _ _ _ _ _ _ us hl => match us, hl with | [_, _, _, _], _ => rfl⟩
 · obtain ⟨p, d, rd, A, B, ts, f, ce, rfl, F, q⟩ := h
   rfl
 obtain ⟨p, d, rd, A, B, ts, f, ce, rfl, F, q⟩ := h
 have nd := sc__law_summed.nd
 refine ⟨_, (pss_cons (ps_set (i := 4) nd rfl (Or.inl rfl) (pe_call G__law_sums (hr.mono (by decide)) rfl m__law_sums k__law_sums b__law_sums Paired.nil pass0 (pa_cons (pv 1) (pa_cons (pv 2) pa_nil))))
   (pss_cons (ps_if (PW.pt (pw_and (pt_cmpR op_eq (pe_op op_mod (pe_call G__law_draw (hr.mono (by decide)) rfl m__law_draw k__law_draw b__law_draw Paired.nil pass0 (pa_cons (pv 3) (pa_cons pe_int pa_nil))) pe_int) pe_int (nomark _)) (pw_and1 (pt_cmpR op_ne (pe_meth (pv 0) cl_Stock m_Stock_unmade G_Stock_unmade (hr.mono (by decide)) b_Stock_unmade Paired.nil pass0 (pa_cons (pv 2) pa_nil)) (pe_ix ix_seq (pv 4) pe_int (fun _ _ => rfl)) (nomark _))))) (pss_one (ps_ret pe_bl)) pss_nil)
   (pss_one (ps_ret (pe_and (pe_cmpR (op_eqU hr) (pe_meth (pv 0) cl_Stock m_Stock_goods_of G_Stock_goods_of (hr.mono (by decide)) b_Stock_goods_of Paired.nil pass0 (pa_cons (pv 2) pa_nil)) (pe_ix ix_seq (pv 4) pe_int (fun _ _ => rfl)) (nomark _)) (pe_one (pe_cmpR op_eq (pe_meth (pv 0) cl_Stock m_Stock_unmade G_Stock_unmade (hr.mono (by decide)) b_Stock_unmade Paired.nil pass0 (pa_cons (pv 2) pa_nil)) (pe_ix ix_seq (pv 4) pe_int (fun _ _ => rfl)) (nomark _)))))))), ?_⟩
 have hline : 600 ≤ sizeLine := by decide
 obtain ⟨dx, fs, hp, hly, hno⟩ := F.st.ob
 have hB : ∀ x ∈ B, RwA H x.2.1 x.2.2.1 x.2.2.2 ∧ Hok x.2.2.2 := fun x hx => ⟨F.rw x hx, (F.ok x hx).1⟩
 have hokA := ok_vw F.eq fun x hx => (F.ok x hx).1
 have hln := F.ln
 have hla := F.la
 refine ⟨_, rfl, _, rfl, rd, B, f, rfl, F.rc, hB, by omega, fun t t2 H1 e1 ht ht2 => ?_⟩
 apply join1 (fun (H4 : Hp) => Same H1 H4)
 · intro kk
   refine ⟨_, rfl, ce, 6, rfl, by decide, by decide, fun w2 H3 e3 w20 w29 w2d => ⟨_, _, rfl, rfl, (by show (0 : Int) < 2; decide), rfl, _, rfl, ?_⟩⟩
   refine dec2 (fun h => ?a) (fun h => ?b)
   case b => exact kk H3 e3
   case a =>
     have e13 := e1.trans e3
     refine ⟨_, rfl, p, dx, fs, rfl, e13 _ _ hp, hno "unmade" (by decide +kernel), _, rfl, p, d, A, f, rfl, F.st.same e13, hokA, by omega, fun H4 e4 => ?_⟩
     rw [gnA_vw f F.eq]
     exact ⟨_, rfl, .inr (.inl ⟨t, _, 1, _, rfl, rfl, SqT.of (e4 _ _ (e3 _ _ ht)), rfl, rfl, _, rfl, ndecF rfl (kk H4 (e3.trans e4))⟩)⟩
 rintro H4 e4
 have e14 := e1.trans e4
 refine ⟨_, rfl, p, dx, fs, rfl, e14 _ _ hp, hno "goods_of" (by decide +kernel), _, rfl, p, d, A, f, rfl, F.st.same e14, hokA, by omega, fun t3 H5 e5 ht3 => ?_⟩
 rw [gd1_vw f F.eq, gd2_vw f F.eq] at ht3
 have e45 := e4.trans e5
 refine ⟨_, rfl, .inr (.inl ⟨t, _, 0, _, rfl, rfl, SqT.of (e45 _ _ ht), rfl, t3, t2, _, _, rfl, rfl, SqT.of ht3, SqT.of (e45 _ _ ht2), rfl, el_two, true, rfl, iteT ?_⟩)⟩
 have e15 := e14.trans e5
 refine ⟨_, rfl, p, dx, fs, rfl, e15 _ _ hp, hno "unmade" (by decide +kernel), _, rfl, p, d, A, f, rfl, F.st.same e15, hokA, by omega, fun H6 e6 => ?_⟩
 rw [gnA_vw f F.eq]
 refine ⟨_, rfl, .inr (.inl ⟨t, _, 1, _, rfl, rfl, SqT.of (e6 _ _ (e45 _ _ ht)), rfl, rfl, ?_⟩)⟩
 have hd : decide (V.int (gnA B f) = V.int (gnA B f)) = true := decide_eq_true rfl
 rw [hd]
 exact q _ (e15.trans e6)
theorem sc__law_many : FnScope ["_law_cell_here", "_law_rows", "_law_number", "_law_left", "_law_some"] ["_law_cell_here", "_law_rows", "_law_number"] (defScope s__law_many) := ⟨rfl, rfl, rfl, by decide +kernel, rfl, by decide +kernel, by decide +kernel⟩
theorem ok__law_many (D : Def K mg "_law_many" s__law_many .none) (c__law_draw : Cal P w K mg base CX0 true 1 "_law_draw" ["_law_cell_here", "_law_at"] [] spDr6) (z_min : mg "min" = none) : Cal P w K mg base CX0 true 2 "_law_many" ["_law_cell_here", "_law_rows", "_law_number"] [] spMy := by
 obtain ⟨f, fd, F, hm⟩ := D
 obtain ⟨f__law_draw, fd__law_draw, d__law_draw, G__law_draw, m__law_draw, k__law_draw, b__law_draw, v__law_draw, b__law_draw1⟩ := c__law_draw
 refine ⟨f, fd, _, F.ok sc__law_many (fun vs H Q E h => ?_) (fun cdv A outer s H vs Q E hr h => ?_), hm, F.kp, (F.binds fun _ _ _ _ _ _ us hl => match us, hl with | [_, _, _], _ => rfl), .nil, F.binds fun _ _ _ _ _ _ us hl => match us, hl with | [_, _, _], _ => rfl⟩
 · obtain ⟨ce, n, rd, B, rfl, hrd, hB, hnd, q⟩ := h
   rfl
 obtain ⟨ce, n, rd, B, rfl, hrd, hB, hnd, q⟩ := h
 have nd := sc__law_many.nd
 refine ⟨_, (pss_cons (ps_set (i := 3) nd rfl (Or.inl rfl) pe_int)
   (pss_cons (ps_if (pt_cmp (pc_din (hu_of hr) (pv 2) (pv 1))) (pss_one (ps_set (i := 3) nd rfl (Or.inl rfl) (pe_op op_sub (pe_ix ix_seq (pe_dget (hu_of hr) (pv 1) (pv 2) (fun _ _ => rfl)) pe_int (fun _ _ => rfl)) (pe_ix ix_seq (pe_dget (hu_of hr) (pv 1) (pv 2) (fun _ _ => rfl)) pe_int (fun _ _ => rfl))))) pss_nil)
   (pss_cons (ps_set (i := 4) nd rfl (Or.inl rfl) (pe_lst (pa_cons (pv 3) (pa_cons (pv 3) (pa_cons (pe_op op_add (pv 3) pe_int) (pa_cons pe_int (pa_cons (pe_op op_add pe_int (pe_op op_mod (pe_call G__law_draw (hr.mono (by decide)) rfl m__law_draw k__law_draw b__law_draw Paired.nil pass0 (pa_cons (pv 0) (pa_cons pe_int pa_nil))) (pv 3))) (pa_cons (pe_op op_add pe_int (pe_op op_mod (pe_call G__law_draw (hr.mono (by decide)) rfl m__law_draw k__law_draw b__law_draw Paired.nil pass0 (pa_cons (pv 0) (pa_cons pe_int pa_nil))) (pv 3))) (pa_cons pe_int pa_nil)))))))))
   (pss_cons (ps_set (i := 4) nd rfl (Or.inl rfl) (pe_op op_cat (pv 4) (pe_lst (pa_cons (pe_op op_sub (pe_un un_neg pe_int) (pe_op op_mod (pv 0) (pe_op op_pow pe_int pe_int))) (pa_cons (pe_op op_add (pe_op op_add (pv 3) pe_int) (pe_op op_mod (pv 0) (pe_op op_pow pe_int pe_int))) (pa_cons (pe_op op_add pe_int (pe_op op_fdiv (pv 3) pe_int)) pa_nil))))))
   (pss_one (ps_ret (pe_callB (call_min2 rfl) rfl z_min bt_min (pa_cons (pe_ix ix_seq (pv 4) (pe_op op_mod (pe_call G__law_draw (hr.mono (by decide)) rfl m__law_draw k__law_draw b__law_draw Paired.nil pass0 (pa_cons (pv 0) (pa_cons pe_int pa_nil))) pe_int) (fun _ _ => rfl)) (pa_cons (pe_op op_pow pe_int pe_int) pa_nil))))))))), ?_⟩
 have hline : 600 ≤ sizeLine := by decide
 apply join1 (fun (lf : Int) => 1 ≤ lf)
 · intro kk
   by_cases hm : ∃ x ∈ B, x.1 = n
   · obtain ⟨⟨n', q0, l, v⟩, hm, hn⟩ := hm
     obtain rfl : n' = n := hn
     have R : RwA H q0 l v := (hB _ hm).1
     have hok : Hok v := (hB _ hm).2
     obtain ⟨o1, o2, o3⟩ := hok
     obtain ⟨z0, hz0⟩ : ∃ z, v.L[0]? = some z := ⟨_, List.getElem?_eq_getElem (by omega)⟩
     have hab := o1 z0 (List.mem_of_getElem? hz0)
     have hG : DGet H rd (.int n') (some (.ref q0)) := kvA_val hnd hm ▸ DGet.k (k := Sum.inl n') hrd
     have hT := SqT.of (K := K) R.1
     refine ⟨_, rfl, _, rfl, rd, _, rfl, hG, true, rfl, iteT ?_⟩
     refine ⟨_, rfl, _, rfl, rd, _, rfl, hG, .inr (.inl ⟨q0, _, 3, _, rfl, rfl, hT, rfl, _, rfl, _, rfl, rd, _, rfl, hG, .inr (.inl ⟨q0, _, 2, _, rfl, rfl, hT, rfl, _, _, rfl, rfl, ?_⟩)⟩)⟩
     obtain ⟨lf, el⟩ : ∃ x : Int, x = v.b - v.a := ⟨_, rfl⟩
     rw [show (fun i j => V.int (i - j)) v.b v.a = V.int lf from congrArg V.int el.symm]
     exact kk lf (by omega)
   · have hG : DGet H rd (.int n) none := kvA_no hm ▸ DGet.k (k := Sum.inl n) hrd
     refine ⟨_, rfl, _, rfl, rd, _, rfl, hG, false, rfl, iteF ?_⟩
     exact kk 3 (by decide)
 rintro lf hlf
 refine ⟨_, rfl, _, rfl, _, rfl, _, _, rfl, rfl, _, rfl, ce, 3, rfl, by decide, by decide, fun w1 H1 e1 w10 w19 w1d => ⟨_, rfl, _, _, rfl, rfl, (by show (0 : Int) < lf; omega), _, _, rfl, rfl, _, rfl, ce, 3, rfl, by decide, by decide, fun w2 H2 e2 w20 w29 w2d => ⟨_, rfl, _, _, rfl, rfl, (by show (0 : Int) < lf; omega), _, _, rfl, rfl, (by show 7 ≤ sizeLine; decide), fun l hl => ?_⟩⟩⟩
 have g1 := same_upd (o := .lst [V.int lf, V.int lf, V.int (lf + 1), V.int 1, V.int (1 + w1 % lf), V.int (1 + w2 % lf), V.int 0]) hl
 refine ⟨_, rfl, _, rfl, _, rfl, _, _, rfl, rfl, ⟨by decide, by decide, by decide⟩, _, _, rfl, rfl, (by show (0 : Int) < 10 ^ 6; decide), _, _, rfl, rfl, _, rfl, _, _, rfl, rfl, _, rfl, _, _, rfl, rfl, ⟨by decide, by decide, by decide⟩, _, _, rfl, rfl, (by show (0 : Int) < 10 ^ 6; decide), _, _, rfl, rfl, _, rfl, _, _, rfl, rfl, ⟨by decide, by decide⟩, _, _, rfl, rfl, (by show 3 ≤ sizeLine; decide), fun l2 hl2 => ?_⟩
 have g2 := same_upd (o := .lst [V.int (-1 - ce % (10 : Int) ^ (6 : Int).toNat), V.int (lf + 1 + ce % (10 : Int) ^ (6 : Int).toNat), V.int (1 + lf / 2)]) hl2
 refine ⟨l, l2, _, _, rfl, rfl, g2 _ _ upd_same, upd_same, (by show 10 ≤ sizeLine; decide), fun l3 hl3 => ?_⟩
 have g3 := same_upd (o := .lst ([V.int lf, V.int lf, V.int (lf + 1), V.int 1, V.int (1 + w1 % lf), V.int (1 + w2 % lf), V.int 0] ++ [V.int (-1 - ce % (10 : Int) ^ (6 : Int).toNat), V.int (lf + 1 + ce % (10 : Int) ^ (6 : Int).toNat), V.int (1 + lf / 2)])) hl3
 refine ⟨_, rfl, _, rfl, ce, 4, rfl, by decide, by decide, fun w3 H3 e3 w30 w39 w3d => ?_⟩
 obtain ⟨m, hm⟩ : ∃ m : Int, atI ([V.int lf, V.int lf, V.int (lf + 1), V.int 1, V.int (1 + w1 % lf), V.int (1 + w2 % lf), V.int 0] ++ [V.int (-1 - ce % (10 : Int) ^ (6 : Int).toNat), V.int (lf + 1 + ce % (10 : Int) ^ (6 : Int).toNat), V.int (1 + lf / 2)]) (w3 % 10) = some (.int m) := ⟨_, at_int (ws := [lf, lf, lf + 1, 1, 1 + w1 % lf, 1 + w2 % lf, 0, -1 - ce % (10 : Int) ^ (6 : Int).toNat, lf + 1 + ce % (10 : Int) ^ (6 : Int).toNat, 1 + lf / 2]) (f := w3 % 10) (by omega) (by show w3 % 10 < 10; omega)⟩
 refine ⟨_, _, rfl, rfl, (by show (0 : Int) < 10; decide), .inl ⟨l3, _, _, _, rfl, rfl, SqL.of (e3 _ _ upd_same), hm, _, _, rfl, rfl, ⟨by decide, by decide, by decide⟩, _, _, rfl, ?_⟩⟩
 refine q _ H3 (((((e1.trans e2).trans g1).trans g2).trans g3).trans e3) ?_
 show (if (1000000 : Int) < m then (1000000 : Int) else m) ≤ 1000000
 split <;> omega
theorem sc__law_deed : FnScope ["_law_cell_here", "_law_rows", "_law_told", "_law_names_here", "_law_new", "_law_way", "_law_numbers", "_law_number", "_law_firm", "_law_many_here", "_law_cost"] ["_law_cell_here", "_law_rows", "_law_told", "_law_names_here", "_law_new"] (defScope s__law_deed) := ⟨rfl, rfl, rfl, by decide +kernel, rfl, by decide +kernel, by decide +kernel⟩
theorem ok__law_deed (D : Def K mg "_law_deed" s__law_deed .none) (c__law_draw : Cal P w K mg base CX0 true 1 "_law_draw" ["_law_cell_here", "_law_at"] [] spDr6) (c__law_many : Cal P w K mg base CX0 true 2 "_law_many" ["_law_cell_here", "_law_rows", "_law_number"] [] spMy) (z_len : mg "len" = none) : Cal P w K mg base CX0 true 3 "_law_deed" ["_law_cell_here", "_law_rows", "_law_told", "_law_names_here", "_law_new"] [] spDd := by
 obtain ⟨f, fd, F, hm⟩ := D
 obtain ⟨f__law_draw, fd__law_draw, d__law_draw, G__law_draw, m__law_draw, k__law_draw, b__law_draw, v__law_draw, b__law_draw1⟩ := c__law_draw
 obtain ⟨f__law_many, fd__law_many, d__law_many, G__law_many, m__law_many, k__law_many, b__law_many, v__law_many, b__law_many1⟩ := c__law_many
 refine ⟨f, fd, _, F.ok sc__law_deed (fun vs H Q E h => ?_) (fun cdv A outer s H vs Q E hr h => ?_), hm, F.kp, (F.binds fun _ _ _ _ _ _ us hl => match us, hl with | [_, _, _, _, _], _ => rfl), .nil, F.binds fun _ _ _ _ _ _ us hl => match us, hl with | [_, _, _, _, _], _ => rfl⟩
 · obtain ⟨ce, new, rd, tl, nl, B, Tl, ts, rfl, hrd, hB, hnd, htl, hTl, hnl, hts, q⟩ := h
   rfl
 obtain ⟨ce, new, rd, tl, nl, B, Tl, ts, rfl, hrd, hB, hnd, htl, hTl, hnl, hts, q⟩ := h
 have nd := sc__law_deed.nd
 refine ⟨_, (pss_cons (ps_set (i := 5) nd rfl (Or.inl rfl) (pe_op op_mod (pe_call G__law_draw (hr.mono (by decide)) rfl m__law_draw k__law_draw b__law_draw Paired.nil pass0 (pa_cons (pv 0) (pa_cons pe_int pa_nil))) pe_int))
   (pss_cons (ps_if (PW.pt (pw_and (pt_cmpR op_eq (pe_callB call_len_seq rfl z_len bt_len (pa_cons (pv 2) pa_nil)) pe_int (nomark _)) (pw_and1 (pt_cmpR op_gt (pe_op op_mod (pe_call G__law_draw (hr.mono (by decide)) rfl m__law_draw k__law_draw b__law_draw Paired.nil pass0 (pa_cons (pv 0) (pa_cons pe_int pa_nil))) pe_int) pe_int (nomark _))))) (pss_one (ps_set (i := 5) nd rfl (Or.inl rfl) pe_int)) pss_nil)
   (pss_cons (ps_set (i := 6) nd rfl (Or.inl rfl) (pe_op op_cat (pv 2) (pe_lst (pa_cons (pv 4) pa_nil))))
   (pss_cons (ps_set (i := 7) nd rfl (Or.inl rfl) (pe_ix ix_seq (pv 6) (pe_op op_mod (pe_call G__law_draw (hr.mono (by decide)) rfl m__law_draw k__law_draw b__law_draw Paired.nil pass0 (pa_cons (pv 0) (pa_cons pe_int pa_nil))) (pe_callB call_len_seq rfl z_len bt_len (pa_cons (pv 6) pa_nil))) (fun _ _ => rfl)))
   (pss_cons (ps_set (i := 8) nd rfl (Or.inl rfl) (pe_ix ix_seq (pv 3) (pe_op op_mod (pe_call G__law_draw (hr.mono (by decide)) rfl m__law_draw k__law_draw b__law_draw Paired.nil pass0 (pa_cons (pv 0) (pa_cons pe_int pa_nil))) pe_int) (fun _ _ => rfl)))
   (pss_cons (ps_if (PW.pt (pw_and (pt_cmp (pc_din (hu_of hr) (pv 7) (pv 1))) (pw_and (pt_cmpR op_gt (pe_op op_mod (pe_call G__law_draw (hr.mono (by decide)) rfl m__law_draw k__law_draw b__law_draw Paired.nil pass0 (pa_cons (pv 0) (pa_cons pe_int pa_nil))) pe_int) pe_int (nomark _)) (pw_and1 (pt_cmpR op_gt (pv 5) pe_int (nomark _)))))) (pss_one (ps_set (i := 8) nd rfl (Or.inl rfl) (pe_ix ix_seq (pe_dget (hu_of hr) (pv 1) (pv 7) (fun _ _ => rfl)) pe_int (fun _ _ => rfl)))) pss_nil)
   (pss_cons (ps_set (i := 9) nd rfl (Or.inl rfl) (pe_call G__law_many (hr.mono (by decide)) rfl m__law_many k__law_many b__law_many Paired.nil pass0 (pa_cons (pv 0) (pa_cons (pv 1) (pa_cons (pv 7) pa_nil)))))
   (pss_cons (ps_if (PW.pt (pw_and (pt_cmpR op_eq (pv 5) pe_int (nomark _)) (pw_and1 (pt_cmpR op_gt (pe_op op_mod (pe_call G__law_draw (hr.mono (by decide)) rfl m__law_draw k__law_draw b__law_draw Paired.nil pass0 (pa_cons (pv 0) (pa_cons pe_int pa_nil))) pe_int) pe_int (nomark _))))) (pss_one (ps_set (i := 9) nd rfl (Or.inl rfl) (pe_op op_add pe_int (pe_ix ix_seq (pe_lst (pa_cons (pe_op op_mod (pe_call G__law_draw (hr.mono (by decide)) rfl m__law_draw k__law_draw b__law_draw Paired.nil pass0 (pa_cons (pv 0) (pa_cons pe_int pa_nil))) pe_int) (pa_cons (pe_op op_mod (pv 0) (pe_op op_pow pe_int pe_int)) pa_nil))) (pe_op op_mod (pe_call G__law_draw (hr.mono (by decide)) rfl m__law_draw k__law_draw b__law_draw Paired.nil pass0 (pa_cons (pv 0) (pa_cons pe_int pa_nil))) pe_int) (fun _ _ => rfl))))) pss_nil)
   (pss_cons (ps_set (i := 10) nd rfl (Or.inl rfl) (pe_ix ix_seq (pe_lst (pa_cons (pe_op op_mod (pv 0) (pe_op op_add (pe_op op_pow pe_int pe_int) pe_int)) (pa_cons (pe_op op_mod (pe_call G__law_draw (hr.mono (by decide)) rfl m__law_draw k__law_draw b__law_draw Paired.nil pass0 (pa_cons (pv 0) (pa_cons pe_int pa_nil))) pe_int) pa_nil))) (pe_op op_mod (pe_call G__law_draw (hr.mono (by decide)) rfl m__law_draw k__law_draw b__law_draw Paired.nil pass0 (pa_cons (pv 0) (pa_cons pe_int pa_nil))) pe_int) (fun _ _ => rfl)))
   (pss_one (ps_ret (pe_tup (pa_cons (pv 5) (pa_cons (pv 7) (pa_cons (pv 8) (pa_cons (pv 9) (pa_cons (pe_ix ix_seq (pv 3) (pe_op op_mod (pe_op op_fdiv (pe_call G__law_draw (hr.mono (by decide)) rfl m__law_draw k__law_draw b__law_draw Paired.nil pass0 (pa_cons (pv 0) (pa_cons pe_int pa_nil))) pe_int) pe_int) (fun _ _ => rfl)) (pa_cons (pv 10) (pa_cons (pv 4) pa_nil))))))))))))))))))), ?_⟩
 have hline : 600 ≤ sizeLine := by decide
 have lmt : (ts.map V.str).length = 3 := by rw [List.length_map]; exact hts
 have hB2 : ∀ x ∈ B, RwA H x.2.1 x.2.2.1 x.2.2.2 ∧ Hok x.2.2.2 := fun x hx => ⟨(hB x hx).1, (hB x hx).2.1⟩
 refine ⟨_, rfl, ce, 0, rfl, by decide, by decide, fun w1 H1 e1 w10 w19 w1d => ⟨_, _, rfl, rfl, (by show (0 : Int) < 8; decide), ?_⟩⟩
 obtain ⟨wy0, hwy⟩ : ∃ x : Int, x = w1 % 8 := ⟨_, rfl⟩
 rw [show (fun i j => V.int (i % j)) w1 8 = V.int wy0 from congrArg V.int hwy.symm]
 apply join2 (fun (wy : Int) (H2 : Hp) => 0 ≤ wy ∧ wy ≤ 7 ∧ Same H1 H2)
 · intro kk
   refine ⟨_, rfl, tl, _, rfl, .inl (SqL.of (e1 _ _ htl)), rfl, _, rfl, ?_⟩
   refine dec2 (fun h => ?a) (fun h => ?b)
   case b =>
     obtain ⟨wy, ew⟩ : ∃ x, x = wy0 := ⟨_, rfl⟩
     obtain ⟨H2, eH⟩ : ∃ x, x = H1 := ⟨_, rfl⟩
     rw [← eH, ← ew]
     exact kk wy H2 ⟨by omega, by omega, by rw [eH]; exact Same.refl _⟩
   case a =>
     refine ⟨_, rfl, ce, 1, rfl, by decide, by decide, fun w2 H2 e2 w20 w29 w2d => ⟨_, _, rfl, rfl, (by show (0 : Int) < 4; decide), _, _, rfl, rfl, _, rfl, ?_⟩⟩
     refine dec2 (fun h2 => ?_) (fun h2 => ?_)
     · exact kk 0 H2 ⟨by decide, by decide, e2⟩
     · exact kk wy0 H2 ⟨by omega, by omega, e2⟩
 rintro wy H2 ⟨hw0, hw7, e2⟩
 clear hwy
 have e12 := e1.trans e2
 have htl2 := e12 _ _ htl
 refine ⟨_, rfl, _, rfl, (by show 1 ≤ sizeLine; decide), fun l1 hl1 => ?_⟩
 have g1 := same_upd (o := .lst [.int new]) hl1
 refine ⟨tl, l1, _, _, rfl, rfl, g1 _ _ htl2, upd_same, (by rw [List.length_map]; show Tl.length + 1 ≤ sizeLine; omega), fun l2 hl2 => ?_⟩
 have g2 := same_upd (o := .lst (Tl.map V.int ++ [.int new])) hl2
 have hl22 : upd (upd H2 l1 (.lst [.int new])) l2 (.lst (Tl.map V.int ++ [.int new])) l2 = some (.lst ((Tl ++ [new]).map V.int)) := by
   rw [upd_same, List.map_append]
   rfl
 have e13 := e12.trans (g1.trans g2)
 generalize upd (upd H2 l1 (.lst [.int new])) l2 (.lst (Tl.map V.int ++ [.int new])) = H3 at e13 hl22 ⊢
 clear g1 g2
 have lnn : ((Tl ++ [new]).map V.int).length = Tl.length + 1 := by
   rw [List.length_map, List.length_append]
   rfl
 refine ⟨_, rfl, _, rfl, ce, 2, rfl, by decide, by decide, fun w3 H4 e4 w30 w39 w3d => ?_⟩
 have m0 := Int.emod_nonneg w3 (show (((Tl ++ [new]).map V.int).length : Int) ≠ 0 by omega)
 have m1 := Int.emod_lt_of_pos w3 (show (0 : Int) < (((Tl ++ [new]).map V.int).length : Int) by omega)
 obtain ⟨n, hn⟩ : ∃ n : Int, atI ((Tl ++ [new]).map V.int) (w3 % (((Tl ++ [new]).map V.int).length : Int)) = some (.int n) := ⟨_, at_int m0 (by rw [show (Tl ++ [new]).length = ((Tl ++ [new]).map V.int).length from (List.length_map ..).symm]; exact m1)⟩
 refine ⟨_, rfl, l2, _, rfl, .inl (SqL.of (e4 _ _ hl22)), _, _, rfl, rfl, (by show (0 : Int) < (((Tl ++ [new]).map V.int).length : Int); omega), .inl ⟨l2, _, _, _, rfl, rfl, SqL.of (e4 _ _ hl22), hn, ?_⟩⟩
 clear m0 m1 hn
 have e14 := e13.trans e4
 refine ⟨_, rfl, _, rfl, ce, 5, rfl, by decide, by decide, fun w4 H5 e5 w40 w49 w4d => ?_⟩
 obtain ⟨f0, hf0, hfa⟩ := at_str (ws := ts) (i := w4 % 3) (by omega) (by omega)
 have e15 := e14.trans e5
 refine ⟨_, _, rfl, rfl, (by show (0 : Int) < 3; decide), .inl ⟨nl, _, _, _, rfl, rfl, SqL.of (e15 _ _ hnl), hfa, ?_⟩⟩
 clear hfa
 apply join2 (fun (f : Str) (H6 : Hp) => f ∈ ts ∧ Same H5 H6)
 · intro kk
   obtain ⟨f1, ef⟩ : ∃ x, x = f0 := ⟨_, rfl⟩
   rw [← ef] at hf0 ⊢
   clear ef
   by_cases hm : ∃ x ∈ B, x.1 = n
   · obtain ⟨⟨n', q0, l, v⟩, hm, hn⟩ := hm
     obtain rfl : n' = n := hn
     have R : RwA H q0 l v := (hB _ hm).1
     have hin : InN ts v := (hB _ hm).2.2
     have hG : ∀ {H9 : Hp}, Same H H9 → DGet H9 rd (.int n') (some (.ref q0)) := fun e => kvA_val hnd hm ▸ DGet.k (k := Sum.inl n') (e _ _ hrd)
     refine ⟨_, rfl, _, rfl, rd, _, rfl, hG e15, true, rfl, iteT ?_⟩
     refine ⟨_, rfl, ce, 6, rfl, by decide, by decide, fun w5 H6 e6 w50 w59 w5d => ⟨_, _, rfl, rfl, (by show (0 : Int) < 4; decide), _, _, rfl, rfl, _, rfl, ?_⟩⟩
     have e16 := e15.trans e6
     refine dec2 (fun h => ?a) (fun h => ?b)
     case b => exact kk f1 H6 ⟨hf0, e6⟩
     case a =>
       refine ⟨_, rfl, _, _, rfl, rfl, _, rfl, ?_⟩
       refine dec2 (fun h => ?_) (fun h => ?_)
       · exact ⟨_, rfl, _, rfl, rd, _, rfl, hG e16, .inr (.inl ⟨q0, _, 1, _, rfl, rfl, SqT.of (e16 _ _ R.1), rfl, kk v.firm H6 ⟨hin.1, e6⟩⟩)⟩
       · exact kk f1 H6 ⟨hf0, e6⟩
   · have hG : DGet H5 rd (.int n) none := kvA_no hm ▸ DGet.k (k := Sum.inl n) (e15 _ _ hrd)
     exact ⟨_, rfl, _, rfl, rd, _, rfl, hG, false, rfl, iteF (iteF (kk f1 H5 ⟨hf0, Same.refl _⟩))⟩
 rintro f H6 ⟨hf, e6⟩
 have e16 := e15.trans e6
 refine ⟨_, rfl, _, rfl, _, rfl, ce, n, rd, B, rfl, e16 _ _ hrd, (fun x hx => ⟨(hB2 x hx).1.same e16, (hB2 x hx).2⟩), hnd, fun k0 H7 e7 hk6 => ?_⟩
 have e17 := e16.trans e7
 apply join2 (fun (k : Int) (H8 : Hp) => k ≤ 1000000 ∧ Same H7 H8)
 · intro kk
   refine ⟨_, rfl, rfl, _, rfl, ?_⟩
   refine dec2 (fun h => ?a) (fun h => ?b)
   case b =>
     obtain ⟨k1, ek⟩ : ∃ x, x = k0 := ⟨_, rfl⟩
     obtain ⟨H8, eH⟩ : ∃ x, x = H7 := ⟨_, rfl⟩
     rw [← eH, ← ek]
     exact kk k1 H8 ⟨by omega, by rw [eH]; exact Same.refl _⟩
   case a =>
     refine ⟨_, rfl, ce, 3, rfl, by decide, by decide, fun w6 H8 e8 w60 w69 w6d => ⟨_, _, rfl, rfl, (by show (0 : Int) < 5; decide), _, _, rfl, rfl, _, rfl, ?_⟩⟩
     refine dec2 (fun h => ?_) (fun h => kk k0 H8 ⟨hk6, e8⟩)
     refine ⟨_, rfl, ce, 1, rfl, by decide, by decide, fun w7 H9 e9 w70 w79 w7d => ⟨_, _, rfl, rfl, (by show (0 : Int) < 9; decide), _, rfl, _, _, rfl, rfl, ⟨by decide, by decide, by decide⟩, _, _, rfl, rfl, (by show (0 : Int) < 10 ^ 6; decide), (by show 2 ≤ sizeLine; decide), fun l hl => ?_⟩⟩
     have g1 := same_upd (o := .lst [.int (w7 % 9), .int (ce % (10 : Int) ^ (6 : Int).toNat)]) hl
     refine ⟨_, rfl, ce, 2, rfl, by decide, by decide, fun w8 HA eA w80 w89 w8d => ?_⟩
     obtain ⟨k, hk, hw⟩ := two_at (a := w7 % 9) (b := ce % (10 : Int) ^ (6 : Int).toNat) (i := w8 % 2) (by omega) (by omega)
     have hk1 : k ≤ 999999 := by
       have z : ce % (10 : Int) ^ (6 : Int).toNat = ce % 1000000 := rfl
       rw [z] at hw
       rcases hw with rfl | rfl <;> omega
     exact ⟨_, _, rfl, rfl, (by show (0 : Int) < 2; decide), .inl ⟨l, _, _, _, rfl, rfl, SqL.of (eA _ _ upd_same), hk, _, _, rfl, rfl, kk (1 + k) HA ⟨by omega, ((e8.trans e9).trans g1).trans eA⟩⟩⟩
 rintro k H8 ⟨hk, e8⟩
 have e18 := e17.trans e8
 clear e1 e2 e4 e5 e6 e7 e8
 refine ⟨_, rfl, _, _, rfl, rfl, ⟨by decide, by decide, by decide⟩, _, _, rfl, rfl, _, _, rfl, rfl, (by show (0 : Int) < 10 ^ 39 + 1; decide), _, rfl, ce, 1, rfl, by decide, by decide, fun w7 H9 e9 w70 w79 w7d => ⟨_, _, rfl, rfl, (by show (0 : Int) < 90; decide), (by show 2 ≤ sizeLine; decide), fun l hl => ?_⟩⟩
 have g1 := same_upd (o := .lst [.int (ce % ((10 : Int) ^ (39 : Int).toNat + 1)), .int (w7 % 90)]) hl
 refine ⟨_, rfl, ce, 7, rfl, by decide, by decide, fun w8 HA eA w80 w89 w8d => ?_⟩
 obtain ⟨c, hc, hw⟩ := two_at (a := ce % ((10 : Int) ^ (39 : Int).toNat + 1)) (b := w7 % 90) (i := w8 % 2) (by omega) (by omega)
 have hc1 : 0 ≤ c ∧ c ≤ 10 ^ 40 := by
   have z : ce % ((10 : Int) ^ (39 : Int).toNat + 1) = ce % (10 ^ 39 + 1) := rfl
   rw [z] at hw
   rcases hw with rfl | rfl <;> omega
 refine ⟨_, _, rfl, rfl, (by show (0 : Int) < 2; decide), .inl ⟨l, _, _, _, rfl, rfl, SqL.of (eA _ _ upd_same), hc, ?_⟩⟩
 have e1A := ((e18.trans e9).trans g1).trans eA
 refine ⟨_, rfl, _, rfl, _, rfl, _, rfl, _, rfl, _, rfl, ce, 7, rfl, by decide, by decide, fun w9 HB eB w90 w99 w9d => ?_⟩
 obtain ⟨s, hs, hsa⟩ := at_str (ws := ts) (i := w9 / 2 % 3) (by omega) (by omega)
 refine ⟨_, _, rfl, rfl, ⟨by decide, by decide⟩, _, _, rfl, rfl, (by show (0 : Int) < 3; decide), .inl ⟨nl, _, _, _, rfl, rfl, SqL.of (eB _ _ (e1A _ _ hnl)), hsa, _, rfl, _, rfl, (by show 7 ≤ sizeLine; decide), fun dp hdp => ?_⟩⟩
 exact q dp ⟨wy, n, f, k, s, c, new⟩ _ ((e1A.trans eB).trans (same_upd hdp)) upd_same rfl hf hs hc1.1 hc1.2 hk hw0 hw7
theorem sc__law_alike : FnScope ["_law_found", "_law_due_here", "_law_part"] ["_law_found", "_law_due_here"] (defScope s__law_alike) := ⟨rfl, rfl, rfl, by decide +kernel, rfl, by decide +kernel, by decide +kernel⟩
theorem ok__law_alike (D : Def K mg "_law_alike" s__law_alike .none) (c__law_whole : Cal P w K mg base CX0 true 1 "_law_whole" ["_law_found"] [] spWhole) (z_isinstance : mg "isinstance" = none) (z_tuple : mg "tuple" = none) (z_str : mg "str" = none) (z_list : mg "list" = none) (q_is : PySem.W.kitOne K (.type "int") (.type "str") = some false) (q_nt : PySem.W.kitOne K (.type "NoneType") (.type "tuple") = some false) : Cal P w K mg base CX0 true 2 "_law_alike" ["_law_found", "_law_due_here"] [] spAl := by
 obtain ⟨f, fd, F, hm⟩ := D
 obtain ⟨f__law_whole, fd__law_whole, d__law_whole, G__law_whole, m__law_whole, k__law_whole, b__law_whole, v__law_whole, b__law_whole1⟩ := c__law_whole
 refine ⟨f, fd, _, F.ok sc__law_alike (fun vs H Q E h => ?_) (fun cdv A outer s H vs Q E hr h => ?_), hm, F.kp, (F.binds fun _ _ _ _ _ _ us hl => match us, hl with | [_, _], _ => rfl), .nil, F.binds fun _ _ _ _ _ _ us hl => match us, hl with | [_, _], _ => rfl⟩
 · obtain ⟨t, u, ls, rfl, hA, q⟩ := h
   rfl
 obtain ⟨t, u, ls, rfl, hA, q⟩ := h
 have nd := sc__law_alike.nd
 refine ⟨_, (pss_cons (ps_if (PW.pt (pw_or (pt_cmpR (op_neW hr) (pv 0) (pv 1) (nomark _)) (pw_or1 (pt_not (pt_val (pe_callB call_is rfl z_isinstance bt_isinstance (pa_cons (pe_ix ix_seq (pv 0) pe_int (fun _ _ => rfl)) (pa_cons (pe_bltn (v := .ty "tuple") rfl z_tuple bt_tuple rfl) pa_nil)))))))) (pss_one (ps_ret (pe_and (pe_cmpR (op_eqU hr) (pv 0) (pv 1) (nomark _)) (pe_one (pe_cmpR op_isN (pe_ix ix_seq (pv 0) pe_int (fun _ _ => rfl)) pe_non (nomark _)))))) pss_nil)
   (pss_cons (ps_for PassesOwn.never rfl (pi_tup (pe_slice sl_tupW (pe_ix ix_seq (pv 0) pe_int (fun _ _ => rfl)) po_none (po_some pe_int))) (pg_name (i := 2) nd rfl (Or.inl rfl)) (pss_one (ps_if (PW.pt (pw_and (pt_not (pt_val (pe_callB call_is rfl z_isinstance bt_isinstance (pa_cons (pv 2) (pa_cons (pe_bltn (v := .ty "str") rfl z_str bt_str rfl) pa_nil))))) (pw_and1 (pt_not (pt_val (pe_call G__law_whole (hr.mono (by decide)) rfl m__law_whole k__law_whole b__law_whole Paired.nil pass0 (pa_cons (pv 2) pa_nil))))))) (pss_one (ps_ret pe_bl)) pss_nil)))
   (pss_one (ps_ret (pe_or (pe_cmpR op_isF (pe_ix ix_seq (pv 0) pe_int (fun _ _ => rfl)) pe_bl (nomark _)) (pe_one (pe_callB call_is rfl z_isinstance bt_isinstance (pa_cons (pe_ix ix_seq (pe_ix ix_seq (pv 0) pe_int (fun _ _ => rfl)) pe_int (fun _ _ => rfl)) (pa_cons (pe_bltn (v := .ty "list") rfl z_list bt_list rfl) pa_nil))))))))), ?_⟩
 obtain ⟨xs, ys, s1, s2, hl, he⟩ := hA.eqW (K := K)
 refine ⟨_, rfl, _, rfl, t, u, xs, ys, rfl, rfl, s1, s2, hl, he, _, rfl, iteF ?_⟩
 rcases hA with ⟨_, r, t2, u2, h1, h2, h3, h4⟩ | ⟨_, h1, h3⟩ | ⟨l, l2, _, t2, u2, lo, a, b, L, L', h1, h3, h2, h4, h5, r5, h6, r6, e⟩
 · have hT := SqT.of (K := K) h1
   refine ⟨_, rfl, .inr (.inl ⟨t, _, 1, _, rfl, rfl, hT, rfl, _, _, _, _, _, rfl, .of (.tup h2), rfl, rfl, true, rfl, iteF ?_⟩)⟩
   refine ⟨_, rfl, .inr (.inl ⟨t, _, 1, _, rfl, rfl, hT, rfl, _, rfl, t2, _, rfl, SqT.of h2, .inl ⟨(rU_len r).1, (rU_len r).2, t2, rfl, ⟨_, SqT.of h2⟩, ?_⟩⟩)⟩
   refine for_tup (xs := rU r) (fun i σ H' => ∃ o : Option V, σ = [some (.ref t), some (.ref u), o] ∧ H' = H) ⟨_, rfl, rfl⟩ ?_ ?_ ?_
   · rintro i σ H' hi ⟨o, rfl, rfl⟩
     exact SqT.of h2
   · rintro i z σ H' hz ⟨o, rfl, rfl⟩
     rcases rU_si r z (List.mem_of_getElem? hz) with ⟨s, rfl⟩ | ⟨j, rfl⟩
     · exact ⟨_, rfl, _, _, _, _, _, rfl, .of (.str _), rfl, rfl, true, rfl, iteF (iteF ⟨_, rfl, rfl⟩)⟩
     · refine ⟨_, rfl, _, _, _, _, _, rfl, .of (.int _), rfl, q_is, false, rfl, iteT ?_⟩
       exact ⟨_, rfl, j, rfl, true, rfl, iteF ⟨_, rfl, rfl⟩⟩
   rintro σ H' ⟨o, rfl, rfl⟩
   exact ⟨_, rfl, .inr (.inl ⟨t, _, 0, _, rfl, rfl, hT, rfl, false, rfl, rfl, true, rfl, iteT (q _ (Same.refl _))⟩)⟩
 · have hT := SqT.of (K := K) h1
   refine ⟨_, rfl, .inr (.inl ⟨t, _, 1, _, rfl, rfl, hT, rfl, _, _, _, _, _, rfl, .of .non, rfl, q_nt, false, rfl, iteT ?_⟩)⟩
   refine ⟨_, rfl, _, rfl, t, u, _, _, rfl, rfl, hT, SqT.of h3, rfl, (fun j x y e1 e2 => ?_), true, rfl, iteT ?_⟩
   · match j with
     | 0 => cases e1; cases e2; exact .inl (.inl ⟨rfl, rfl⟩)
     | 1 => cases e1; cases e2; exact .inl (.inl ⟨rfl, rfl⟩)
     | j + 2 => cases e1
   refine ⟨_, rfl, .inr (.inl ⟨t, _, 1, _, rfl, rfl, hT, rfl, rfl, ?_⟩)⟩
   exact q _ (Same.refl _)
 · have hT := SqT.of (K := K) h1
   refine ⟨_, rfl, .inr (.inl ⟨t, _, 1, _, rfl, rfl, hT, rfl, _, _, _, _, _, rfl, .of (.tup h2), rfl, rfl, true, rfl, iteF ?_⟩)⟩
   refine ⟨_, rfl, .inr (.inl ⟨t, _, 1, _, rfl, rfl, hT, rfl, _, rfl, t2, _, rfl, SqT.of h2, .inr ⟨t2, _, rfl, SqT.of h2, (fun h => absurd h.2 (by show ¬ (HT.sIx 4 4 (some 3) = 4); decide)), fun t3 ht3 => ?_⟩⟩)⟩
   rw [show cutV [V.int lo, V.int a, V.int b, V.ref l] none (some 3) = [V.int lo, V.int a, V.int b] from rfl]
   have g := same_upd (o := .tup [V.int lo, V.int a, V.int b]) ht3
   have ht33 : upd H t3 (.tup [V.int lo, V.int a, V.int b]) t3 = some (.tup [V.int lo, V.int a, V.int b]) := upd_same
   generalize upd H t3 (.tup [V.int lo, V.int a, V.int b]) = H3 at g ht33 ⊢
   refine ⟨t3, rfl, ⟨_, SqT.of ht33⟩, ?_⟩
   have hsi : ∀ z ∈ [V.int lo, V.int a, V.int b], (∃ s, z = .str s) ∨ ∃ i, z = .int i := fun z hz => by
     simp only [List.mem_cons, List.not_mem_nil, or_false] at hz
     rcases hz with rfl | rfl | rfl <;> exact .inr ⟨_, rfl⟩
   refine for_tup (xs := [V.int lo, V.int a, V.int b]) (fun i σ H' => ∃ o : Option V, σ = [some (.ref t), some (.ref u), o] ∧ H' = H3) ⟨_, rfl, rfl⟩ ?_ ?_ ?_
   · rintro i σ H' hi ⟨o, rfl, rfl⟩
     exact SqT.of ht33
   · rintro i z σ H' hz ⟨o, rfl, rfl⟩
     rcases hsi z (List.mem_of_getElem? hz) with ⟨s, rfl⟩ | ⟨j, rfl⟩
     · exact ⟨_, rfl, _, _, _, _, _, rfl, .of (.str _), rfl, rfl, true, rfl, iteF (iteF ⟨_, rfl, rfl⟩)⟩
     · refine ⟨_, rfl, _, _, _, _, _, rfl, .of (.int _), rfl, q_is, false, rfl, iteT ?_⟩
       exact ⟨_, rfl, j, rfl, true, rfl, iteF ⟨_, rfl, rfl⟩⟩
   rintro σ H' ⟨o, rfl, rfl⟩
   have hT := SqT.of (K := K) (g _ _ h1)
   refine ⟨_, rfl, .inr (.inl ⟨t, _, 0, _, rfl, rfl, hT, rfl, true, rfl, rfl, false, rfl, iteF ?_⟩)⟩
   exact ⟨_, rfl, .inr (.inl ⟨t, _, 1, _, rfl, rfl, hT, rfl, .inr (.inl ⟨t2, _, 3, _, rfl, rfl, SqT.of (g _ _ h2), rfl, _, _, _, _, _, rfl, .of (.lst (g _ _ h5)), rfl, rfl, q _ g⟩)⟩)⟩
theorem cut_int (ns : List Int) : ∃ cs : List Int, cutV (ns.map V.int) (some 3) (some 21) = cs.map V.int ∧ cs.length ≤ 18 := by
 refine ⟨(ns.drop (HT.sIx ns.length 0 (some 3))).take (HT.sIx ns.length ns.length (some 21) - HT.sIx ns.length 0 (some 3)), ?_, ?_⟩
 · unfold cutV
   rw [List.length_map, List.map_take, List.map_drop]
 · rw [List.length_take, List.length_drop]
   have h1 : HT.sIx ns.length 0 (some 3) = min 3 ns.length := HT.sIx_nat _ _ 3
   have h2 : HT.sIx ns.length ns.length (some 21) = min 21 ns.length := HT.sIx_nat _ _ 21
   omega
theorem due_eq {A B : List Sh} {D : Dd} (h : A.map vw = B.map vw) : dueF A D = dueF B D := by
 unfold dueF rfT lkV
 rw [h]
structure Kq where
 tp : Addr
 t : Addr
 u : Addr
 r : Addr
 r2 : Addr
 Z : List Hr
 Z2 : List Hr
 ls : List (Addr × Addr)
def lsQ (x : Kq) : List Addr := x.r :: x.r2 :: (x.Z.map (·.2.1) ++ (x.Z2.map (·.2.1) ++ (x.ls.map (·.1) ++ x.ls.map (·.2))))
theorem mQ1 (x : Kq) : x.r ∈ lsQ x := List.mem_cons_self
theorem mQ2 (x : Kq) : x.r2 ∈ lsQ x := List.mem_cons_of_mem _ List.mem_cons_self
theorem mQz {x : Kq} {z : Hr} (h : z ∈ x.Z) : z.2.1 ∈ lsQ x := List.mem_cons_of_mem _ (List.mem_cons_of_mem _ (List.mem_append_left _ (List.mem_map.mpr ⟨z, h, rfl⟩)))
theorem mQz2 {x : Kq} {z : Hr} (h : z ∈ x.Z2) : z.2.1 ∈ lsQ x := List.mem_cons_of_mem _ (List.mem_cons_of_mem _ (List.mem_append_right _ (List.mem_append_left _ (List.mem_map.mpr ⟨z, h, rfl⟩))))
theorem mQl {x : Kq} {y : Addr × Addr} (h : y ∈ x.ls) : y.1 ∈ lsQ x := List.mem_cons_of_mem _ (List.mem_cons_of_mem _ (List.mem_append_right _ (List.mem_append_right _ (List.mem_append_left _ (List.mem_map.mpr ⟨y, h, rfl⟩)))))
theorem mQl2 {x : Kq} {y : Addr × Addr} (h : y ∈ x.ls) : y.2 ∈ lsQ x := List.mem_cons_of_mem _ (List.mem_cons_of_mem _ (List.mem_append_right _ (List.mem_append_right _ (List.mem_append_right _ (List.mem_map.mpr ⟨y, h, rfl⟩)))))
theorem lsQ_of {x : Kq} {c : Addr} (h : c ∈ lsQ x) : c = x.r ∨ c = x.r2 ∨ (∃ z ∈ x.Z, c = z.2.1) ∨ (∃ z ∈ x.Z2, c = z.2.1) ∨ ∃ y ∈ x.ls, c = y.1 ∨ c = y.2 := by
 rcases List.mem_cons.mp h with w | h
 · exact .inl w
 rcases List.mem_cons.mp h with w | h
 · exact .inr (.inl w)
 rcases List.mem_append.mp h with w | h
 · obtain ⟨z, hz, e⟩ := List.mem_map.mp w
   exact .inr (.inr (.inl ⟨z, hz, e.symm⟩))
 rcases List.mem_append.mp h with w | h
 · obtain ⟨z, hz, e⟩ := List.mem_map.mp w
   exact .inr (.inr (.inr (.inl ⟨z, hz, e.symm⟩)))
 rcases List.mem_append.mp h with w | w
 · obtain ⟨z, hz, e⟩ := List.mem_map.mp w
   exact .inr (.inr (.inr (.inr ⟨z, hz, .inl e.symm⟩)))
 · obtain ⟨z, hz, e⟩ := List.mem_map.mp w
   exact .inr (.inr (.inr (.inr ⟨z, hz, .inr e.symm⟩)))
theorem AlR.keep {H H' : Hp} {t u : Addr} {ls : List (Addr × Addr)} (h : AlR H t u ls) (kT : ∀ c xs, H c = some (.tup xs) → H' c = some (.tup xs)) (kL : ∀ c xs, H c = some (.lst xs) → (∃ y ∈ ls, c = y.1 ∨ c = y.2) → H' c = some (.lst xs)) : AlR H' t u ls := by
 rcases h with ⟨e0, r, t2, u2, h1, h2, h3, h4⟩ | ⟨e0, h1, h3⟩ | ⟨l, l2, e0, t2, u2, lo, a, b, L, L', h1, h3, h2, h4, h5, r5, h6, r6, e⟩
 · exact .inl ⟨e0, r, t2, u2, kT _ _ h1, kT _ _ h2, kT _ _ h3, kT _ _ h4⟩
 · exact .inr (.inl ⟨e0, kT _ _ h1, kT _ _ h3⟩)
 · subst e0
   exact .inr (.inr ⟨l, l2, rfl, t2, u2, lo, a, b, L, L', kT _ _ h1, kT _ _ h3, kT _ _ h2, kT _ _ h4, kL _ _ h5 ⟨_, List.mem_cons_self, .inl rfl⟩, fun z hz => kT _ _ (r5 z hz), kL _ _ h6 ⟨_, List.mem_cons_self, .inr rfl⟩, fun z hz => kT _ _ (r6 z hz), e⟩)
theorem AlR.live {H : Hp} {t u : Addr} {ls : List (Addr × Addr)} (h : AlR H t u ls) : ∀ y ∈ ls, ∀ c, (c = y.1 ∨ c = y.2) → ∃ xs, H c = some (.lst xs) := by
 rcases h with ⟨e0, _⟩ | ⟨e0, _⟩ | ⟨l, l2, e0, t2, u2, lo, a, b, L, L', h1, h3, h2, h4, h5, r5, h6, r6, e⟩
 · intro y hy
   rw [e0] at hy
   cases hy
 · intro y hy
   rw [e0] at hy
   cases hy
 · intro y hy c hc
   rw [e0] at hy
   rw [List.mem_singleton.mp hy] at hc
   rcases hc with rfl | rfl
   · exact ⟨_, h5⟩
   · exact ⟨_, h6⟩
structure KQ (H : Hp) (x : Kq) : Prop where
 tp : H x.tp = some (.tup [.ref x.t, .ref x.u, .ref x.r, .ref x.r2])
 al : AlR H x.t x.u x.ls
 l1 : H x.r = some (.lst (rfH x.Z))
 z1 : HrL H x.Z
 l2 : H x.r2 = some (.lst (rfH x.Z2))
 z2 : HrL H x.Z2
 ke : x.Z.map (·.2.2.1) = x.Z2.map (·.2.2.1)
 ve : ∀ z ∈ x.Z, ∀ z' ∈ x.Z2, z.2.2.1 = z'.2.2.1 → vv z.2.2.2 = vv z'.2.2.2
 nr : ∀ z ∈ x.Z, z.2.1 ≠ x.r
 nl : ∀ y ∈ x.ls, y.1 ≠ x.r
theorem KQ.keep {H H' : Hp} {x : Kq} (h : KQ H x) (kT : ∀ c xs, H c = some (.tup xs) → H' c = some (.tup xs)) (kL : ∀ c xs, H c = some (.lst xs) → c ∈ lsQ x → H' c = some (.lst xs)) : KQ H' x :=
 ⟨kT _ _ h.tp, h.al.keep kT (fun c xs hc ⟨y, hy, e⟩ => kL c xs hc (e.elim (fun z => by rw [z]; exact mQl hy) (fun z => by rw [z]; exact mQl2 hy))), kL _ _ h.l1 (mQ1 x), fun z hz => ⟨kT _ _ (h.z1 z hz).1, kL _ _ (h.z1 z hz).2.1 (mQz hz), fun y hy => kT _ _ ((h.z1 z hz).2.2 y hy)⟩, kL _ _ h.l2 (mQ2 x), fun z hz => ⟨kT _ _ (h.z2 z hz).1, kL _ _ (h.z2 z hz).2.1 (mQz2 hz), fun y hy => kT _ _ ((h.z2 z hz).2.2 y hy)⟩, h.ke, h.ve, h.nr, h.nl⟩
theorem KQ.same {H H' : Hp} {x : Kq} (h : KQ H x) (e : Same H H') : KQ H' x := h.keep (fun c xs hc => e _ _ hc) (fun c xs hc _ => e _ _ hc)
theorem KQ.live {H : Hp} {x : Kq} (h : KQ H x) {c : Addr} (hc : c ∈ lsQ x) : ∃ xs, H c = some (.lst xs) := by
 rcases lsQ_of hc with rfl | rfl | ⟨z, hz, rfl⟩ | ⟨z, hz, rfl⟩ | ⟨y, hy, e⟩
 · exact ⟨_, h.l1⟩
 · exact ⟨_, h.l2⟩
 · exact ⟨_, (h.z1 z hz).2.1⟩
 · exact ⟨_, (h.z2 z hz).2.1⟩
 · exact h.al.live y hy c e
theorem no_eq {H : Hp} {a b : Addr} {o : HO} (h : H a = none) (g : H b = some o) : a ≠ b := fun z => by
 rw [z, g] at h
 cases h
structure WL (W : Addr → Prop) (H H' : Hp) : Prop where
 ls : ∀ b, W b → ∃ xs, H b = some (.lst xs)
 kp : ∀ b o, H b = some o → ¬ W b → H' b = some o
theorem WL.no {W : Addr → Prop} {H H' : Hp} (e : WL W H H') {b : Addr} {o : HO} (h : H b = some o) (n : ∀ xs, o ≠ .lst xs) : H' b = some o := e.kp b o h fun w => by
 obtain ⟨xs, g⟩ := e.ls b w
 rw [h] at g
 exact n xs (Option.some.inj g)
theorem WL.tup {W : Addr → Prop} {H H' : Hp} (e : WL W H H') {b : Addr} {xs : List V} (h : H b = some (.tup xs)) : H' b = some (.tup xs) := e.no h fun xs w => by cases w
theorem WL.one {H : Hp} {c : Addr} {xs ys : List V} (h : H c = some (.lst xs)) : WL (fun b => b = c) H (upd H c (.lst ys)) := ⟨fun b w => by rw [w]; exact ⟨_, h⟩, fun b o hb n => by rw [upd_ne n]; exact hb⟩
theorem WL.set {W : Addr → Prop} {H H' : Hp} (e : WL W H H') {c : Addr} {xs ys : List V} (h : H c = some (.lst xs)) : WL (fun b => W b ∨ b = c) H (upd H' c (.lst ys)) := ⟨fun b w => by
 rcases w with w | w
 · exact e.ls b w
 · rw [w]
   exact ⟨_, h⟩, fun b o hb n => by
 rw [upd_ne fun z => n (.inr z)]
 exact e.kp b o hb fun z => n (.inl z)⟩
theorem WL.mono {W W' : Addr → Prop} {H H' : Hp} (e : WL W H H') (h : ∀ b, W b → W' b) (g : ∀ b, W' b → ∃ xs, H b = some (.lst xs)) : WL W' H H' := ⟨g, fun b o hb n => e.kp b o hb fun w => n (h b w)⟩
theorem RwA.wl {W : Addr → Prop} {H H' : Hp} {q l : Addr} {v : Hv} (h : RwA H q l v) (e : WL W H H') (n : ¬ W l) : RwA H' q l v := ⟨e.tup h.1, e.kp _ _ h.2.1 n, fun z hz => e.tup (h.2.2 z hz)⟩
theorem HoA.wl {W : Addr → Prop} {C : Addr} {H H' : Hp} {q l : Addr} {v : Hv} (h : HoA C H q l v) (e : WL W H H') (n : ¬ W l) : HoA C H' q l v := by
 obtain ⟨⟨dx, fs, hp, r⟩, hl, hL⟩ := h
 exact ⟨⟨dx, fs, e.no hp (fun xs w => by cases w), r⟩, e.kp _ _ hl n, fun z hz => e.tup (hL z hz)⟩
theorem Fit.wl {W : Addr → Prop} {CS CH : Addr} {H H' : Hp} {p d rd : Addr} {A B : List Sh} {ts : List Str} (F : Fit CS CH H p d rd A B ts) (e : WL W H H') (hA : ∀ y ∈ A, ¬ W y.2.2.1) (hB : ∀ y ∈ B, ¬ W y.2.2.1) : Fit CS CH H' p d rd A B ts := by
 obtain ⟨dx, fs, hp, r⟩ := F.st.ob
 exact ⟨⟨⟨dx, fs, e.no hp (fun xs w => by cases w), r⟩, e.no F.st.dc (fun xs w => by cases w), fun x hx => (F.st.ho x hx).wl e (hA x hx), F.st.nd⟩, e.no F.rc (fun xs w => by cases w), fun x hx => (F.rw x hx).wl e (hB x hx), F.ok, F.eq, F.ln, F.ne⟩
structure N3 (nl tl kl cl : Addr) (A B : List Sh) (KS : List Kq) : Prop where
 n1 : nl ≠ tl ∧ nl ≠ kl ∧ tl ≠ kl ∧ cl ≠ tl ∧ cl ≠ kl
 ka : ∀ x ∈ KS, ∀ c ∈ lsQ x, c ≠ tl ∧ c ≠ kl ∧ (∀ y ∈ A, y.2.2.1 ≠ c) ∧ ∀ y ∈ B, y.2.2.1 ≠ c
 aa : ∀ y ∈ A, y.2.2.1 ≠ tl ∧ y.2.2.1 ≠ kl
 ab : ∀ y ∈ B, y.2.2.1 ≠ tl ∧ y.2.2.1 ≠ kl
 pw : KS.Pairwise fun x y => ∀ c ∈ lsQ x, ∀ c' ∈ lsQ y, c ≠ c'
structure S3 (CS CH nl tl kl cl : Addr) (ts : List Str) (cs : List Int) (H : Hp) (p d rd : Addr) (A B : List Sh) (Tl : List Int) (KS : List Kq) (i j : Nat) : Prop where
 ft : Fit CS CH H p d rd A B ts
 nm : H nl = some (.lst (ts.map V.str))
 td : H tl = some (.lst (Tl.map V.int))
 kp : H kl = some (.lst (KS.map fun x => V.ref x.tp))
 lc : H cl = some (.lst (cs.map V.int))
 kq : ∀ x ∈ KS, KQ H x
 nn : N3 nl tl kl cl A B KS
 tn : Tl.length ≤ i
 bl : B.length ≤ i
 lb : ∀ x ∈ B, x.2.2.2.L.length ≤ 1 + i
 kn : KS.length ≤ j
def LsOk (tl kl : Addr) (A B : List Sh) (KS : List Kq) (ls : List (Addr × Addr)) : Prop := ∀ y ∈ ls, ∀ c, (c = y.1 ∨ c = y.2) → c ≠ tl ∧ c ≠ kl ∧ (∀ x ∈ A, x.2.2.1 ≠ c) ∧ (∀ x ∈ B, x.2.2.1 ≠ c) ∧ ∀ x ∈ KS, ∀ c' ∈ lsQ x, c' ≠ c
section
variable {CS CH nl tl kl cl : Addr} {ts : List Str} {cs : List Int} {H : Hp} {p d rd : Addr} {A B : List Sh} {Tl : List Int} {KS : List Kq} {i j : Nat}
theorem S3.same (S : S3 CS CH nl tl kl cl ts cs H p d rd A B Tl KS i j) {H' : Hp} (e : Same H H') : S3 CS CH nl tl kl cl ts cs H' p d rd A B Tl KS i j := ⟨S.ft.same e, e _ _ S.nm, e _ _ S.td, e _ _ S.kp, e _ _ S.lc, fun x hx => (S.kq x hx).same e, S.nn, S.tn, S.bl, S.lb, S.kn⟩
theorem S3.ro (S : S3 CS CH nl tl kl cl ts cs H p d rd A B Tl KS i j) : RowsOk H ts B := fun x hx => ⟨S.ft.rw x hx, S.ft.ok x hx⟩
theorem S3.mid (S : S3 CS CH nl tl kl cl ts cs H p d rd A B Tl KS i j) {H5 H6 : Hp} {A' B' : List Sh} {t u : Addr} {ls : List (Addr × Addr)} (k : Kd d H H5) (st : Stk CS CH H5 p d A') (fa : ∀ x ∈ A', x ∈ A ∨ H x.2.2.1 = none) (al : AlR H5 t u ls)
   (lf : ∀ y ∈ ls, ∀ c, (c = y.1 ∨ c = y.2) → H c = none ∧ ∀ x ∈ A', x.2.2.1 ≠ c) (k6 : Kd rd H5 H6) (hrd6 : H6 rd = some (.dK (kvA B'))) (hB6 : RowsOk H6 ts B') (eq : A'.map vw = B'.map vw) (hl : B'.length ≤ i + 1) (hi : i + 1 ≤ 60) (hm : ∀ x ∈ B', x.2.2.2.L.length ≤ 1 + (i + 1))
   (fb : ∀ x ∈ B', (∃ y ∈ B, y.2.2.1 = x.2.2.1) ∨ H5 x.2.2.1 = none) : S3 CS CH nl tl kl cl ts cs H6 p d rd A' B' Tl KS (i + 1) j ∧ AlR H6 t u ls ∧ LsOk tl kl A' B' KS ls := by
 have hd := S.ft.st.dc
 have hrd5 : H5 rd = some (.dK (kvA B)) := k _ _ S.ft.rc (Ne.symm S.ft.ne)
 have L6 : ∀ {c : Addr} {xs : List V}, H c = some (.lst xs) → H6 c = some (.lst xs) := fun h => k6.lst hrd5 (k.lst hd h)
 refine ⟨⟨⟨st.kd hrd5 S.ft.ne k6, hrd6, fun x hx => (hB6 x hx).1, fun x hx => (hB6 x hx).2, eq, by omega, S.ft.ne⟩, L6 S.nm, L6 S.td, L6 S.kp, L6 S.lc, fun x hx => (S.kq x hx).keep (fun c xs h => k6.tup hrd5 (k.tup hd h)) (fun c xs h _ => L6 h), ⟨S.nn.n1, fun x hx c hc => ?_, fun y hy => ?_, fun y hy => ?_, S.nn.pw⟩, by have := S.tn; omega, hl, hm, S.kn⟩, al.keep (fun c xs h => k6.tup hrd5 h) (fun c xs h _ => k6.lst hrd5 h), fun y hy c hc => ?_⟩
 · obtain ⟨a1, a2, a3, a4⟩ := S.nn.ka x hx c hc
   obtain ⟨xs, hl⟩ := (S.kq x hx).live hc
   refine ⟨a1, a2, fun y hy => ?_, fun y hy => ?_⟩
   · rcases fa y hy with w | w
     · exact a3 y w
     · exact no_eq w hl
   · rcases fb y hy with ⟨z, hz, e⟩ | w
     · rw [← e]
       exact a4 z hz
     · exact no_eq w (k.lst hd hl)
 · rcases fa y hy with w | w
   · exact S.nn.aa y w
   · exact ⟨no_eq w S.td, no_eq w S.kp⟩
 · rcases fb y hy with ⟨z, hz, e⟩ | w
   · rw [← e]
     exact S.nn.ab z hz
   · exact ⟨no_eq w (k.lst hd S.td), no_eq w (k.lst hd S.kp)⟩
 · obtain ⟨f1, f2⟩ := lf y hy c hc
   obtain ⟨xs, hl⟩ := al.live y hy c hc
   refine ⟨no_eq f1 S.td, no_eq f1 S.kp, f2, fun x hx => ?_, fun x hx c' hc' => ?_⟩
   · rcases fb x hx with ⟨z, hz, e⟩ | w
     · rw [← e]
       exact (no_eq f1 (S.ft.rw z hz).2.1).symm
     · exact no_eq w hl
   · obtain ⟨ys, hl'⟩ := (S.kq x hx).live hc'
     exact (no_eq f1 hl').symm
theorem S3.tell (S : S3 CS CH nl tl kl cl ts cs H p d rd A B Tl KS i j) {t u : Addr} {ls : List (Addr × Addr)} (n : Int) (al : AlR H t u ls) (lo : LsOk tl kl A B KS ls) (hn : Tl.length + 1 ≤ i) : S3 CS CH nl tl kl cl ts cs (upd H tl (.lst (Tl.map V.int ++ [.int n]))) p d rd A B (Tl ++ [n]) KS i j ∧ AlR (upd H tl (.lst (Tl.map V.int ++ [.int n]))) t u ls := by
 have e := WL.one (ys := Tl.map V.int ++ [.int n]) S.td
 obtain ⟨n1, n2, n3, n4, n5⟩ := S.nn.n1
 refine ⟨⟨S.ft.wl e (fun y hy => (S.nn.aa y hy).1) (fun y hy => (S.nn.ab y hy).1), e.kp _ _ S.nm n1, ?_, e.kp _ _ S.kp (Ne.symm n3), e.kp _ _ S.lc n4, fun x hx => (S.kq x hx).keep (fun c xs h => e.tup h) (fun c xs h hc => e.kp _ _ h (S.nn.ka x hx c hc).1), S.nn, by rw [List.length_append]; exact hn, S.bl, S.lb, S.kn⟩, al.keep (fun c xs h => e.tup h) (fun c xs h ⟨y, hy, hc⟩ => e.kp _ _ h (lo y hy c hc).1)⟩
 rw [upd_same, List.map_append]
 rfl
theorem S3.push (S : S3 CS CH nl tl kl cl ts cs H p d rd A B Tl KS i j) {H' : Hp} (e : Same H H') {x : Kq} (q : KQ H' x) (lo : LsOk tl kl A B KS x.ls) (fz : ∀ c ∈ lsQ x, H c = none ∨ ∃ y ∈ x.ls, c = y.1 ∨ c = y.2) : S3 CS CH nl tl kl cl ts cs (upd H' kl (.lst ((KS.map fun x => V.ref x.tp) ++ [.ref x.tp]))) p d rd A B Tl (KS ++ [x]) i (j + 1) := by
 have S' := S.same e
 have w := WL.one (ys := (KS.map fun x => V.ref x.tp) ++ [.ref x.tp]) S'.kp
 obtain ⟨n1, n2, n3, n4, n5⟩ := S.nn.n1
 have far : ∀ c ∈ lsQ x, c ≠ tl ∧ c ≠ kl ∧ (∀ y ∈ A, y.2.2.1 ≠ c) ∧ (∀ y ∈ B, y.2.2.1 ≠ c) ∧ ∀ z ∈ KS, ∀ c' ∈ lsQ z, c' ≠ c := fun c hc => by
   rcases fz c hc with f | ⟨y, hy, f⟩
   · refine ⟨no_eq f S.td, no_eq f S.kp, fun y hy => (no_eq f (S.ft.st.ho y hy).2.1).symm, fun y hy => (no_eq f (S.ft.rw y hy).2.1).symm, fun z hz c' hc' => ?_⟩
     obtain ⟨ys, hl'⟩ := (S.kq z hz).live hc'
     exact (no_eq f hl').symm
   · exact lo y hy c f
 refine ⟨S'.ft.wl w (fun y hy => (S.nn.aa y hy).2) (fun y hy => (S.nn.ab y hy).2), w.kp _ _ S'.nm n2, w.kp _ _ S'.td n3, ?_, w.kp _ _ S'.lc n5, fun z hz => ?_, ⟨S.nn.n1, fun z hz c hc => ?_, S.nn.aa, S.nn.ab, ?_⟩, S.tn, S.bl, S.lb, by rw [List.length_append]; have := S.kn; show KS.length + 1 ≤ j + 1; omega⟩
 · rw [upd_same, List.map_append]
   rfl
 · rcases List.mem_append.mp hz with h | h
   · exact (S'.kq z h).keep (fun c xs h => w.tup h) (fun c xs g hc => w.kp _ _ g (S.nn.ka z h c hc).2.1)
   · rw [List.mem_singleton.mp h]
     exact q.keep (fun c xs h => w.tup h) (fun c xs g hc => w.kp _ _ g (far c hc).2.1)
 · rcases List.mem_append.mp hz with h | h
   · exact S.nn.ka z h c hc
   · rw [List.mem_singleton.mp h] at hc
     obtain ⟨a1, a2, a3, a4, _⟩ := far c hc
     exact ⟨a1, a2, a3, a4⟩
 · refine List.pairwise_append.mpr ⟨S.nn.pw, List.pairwise_singleton _ _, fun z hz y hy c hc c' hc' => ?_⟩
   rw [List.mem_singleton.mp hy] at hc'
   exact (far c' hc').2.2.2.2 z hz c hc
theorem Fit.zz {CS CH : Addr} {H : Hp} {p d rd : Addr} {A B : List Sh} {ts : List Str} (F : Fit CS CH H p d rd A B ts) {Z Z2 : List Hr} (hpZ : (Z.map fun z => (z.2.2.1, z.2.2.2)).Perm (A.map fun x => (x.1, x.2.2.2))) (hsZ : (Z.map (·.2.2.1)).Pairwise (· ≤ ·)) (hb : ∀ z ∈ Z2, ∃ q l, (z.2.2.1, q, l, z.2.2.2) ∈ B) (hp2 : (Z2.map (·.2.2.1)).Perm (B.map (·.1))) (hs2 : (Z2.map (·.2.2.1)).Pairwise (· ≤ ·)) : Z.map (·.2.2.1) = Z2.map (·.2.2.1) ∧ ∀ z ∈ Z, ∀ z' ∈ Z2, z.2.2.1 = z'.2.2.1 → vv z.2.2.2 = vv z'.2.2.2 := by
 have hkA := keys_vw F.eq
 refine ⟨le_uniq ?_ hsZ hs2, fun z hz z' hz' e => ?_⟩
 · have h1 := hpZ.map (fun w : Int × Hv => w.1)
   rw [List.map_map, List.map_map] at h1
   have h2 : (Z.map (·.2.2.1)).Perm (A.map (·.1)) := h1
   rw [hkA] at h2
   exact h2.trans hp2.symm
 · obtain ⟨q', l', hb⟩ := hb z' hz'
   have hm : (z.2.2.1, z.2.2.2) ∈ A.map fun x => (x.1, x.2.2.2) := hpZ.mem_iff.mp (List.mem_map.mpr ⟨z, hz, rfl⟩)
   obtain ⟨x, hx, ex⟩ := List.mem_map.mp hm
   have x1 : x.1 = z.2.2.1 := congrArg (·.1) ex
   have x2 : x.2.2.2 = z.2.2.2 := congrArg (·.2) ex
   rw [← x2]
   exact F.alike hx hb (x1.trans e)
end
def DueS (B : List Sh) (D : Dd) (H H' : Hp) (u : Addr) : Prop := Same H H' ∧ ((∃ r u2, dueF B D = some r ∧ H' u = some (.tup [.bl false, .ref u2]) ∧ H' u2 = some (.tup (rU r))) ∨ (dueF B D = none ∧ D.way = 0 ∧ H' u = some (.tup [.bl true, .non])) ∨
 (dueF B D = none ∧ D.way ≠ 0 ∧ ∃ q l v u2 l', (D.n, q, l, v) ∈ B ∧ H l' = none ∧ H' l' = some (.lst (rfy v.L)) ∧ H' u2 = some (.tup [.int v.lot, .int v.a, .int (v.a + D.k), .ref l']) ∧ H' u = some (.tup [.bl true, .ref u2])))
def AskS (CS CH p d : Addr) (A A' : List Sh) (D : Dd) (H H' : Hp) (t : Addr) : Prop := Kd d H H' ∧ Stk CS CH H' p d A' ∧ (∀ x ∈ A', x ∈ A ∨ H x.2.2.1 = none) ∧ ((∃ r t2, dueF A D = some r ∧ A' = A ∧ H' t = some (.tup [.bl false, .ref t2]) ∧ H' t2 = some (.tup (rU r))) ∨ (dueF A D = none ∧ D.way = 0 ∧ A'.map vw = nwV (A.map vw) D (lkV A D.n) ∧ H' t = some (.tup [.bl true, .non])) ∨
 (dueF A D = none ∧ D.way ≠ 0 ∧ A'.map vw = nwV (A.map vw) D (lkV A D.n) ∧ ∃ q l v t2 l', (D.n, q, l, v) ∈ A ∧ H l' = none ∧ H' l' = some (.lst (rfy v.L)) ∧ RY H' v.L ∧ H' t2 = some (.tup [.int v.lot, .int v.a, .int (v.a + D.k), .ref l']) ∧ H' t = some (.tup [.bl true, .ref t2]) ∧ ∀ x ∈ A', x.2.2.1 ≠ l'))
theorem meet {CS CH : Addr} {H H3 H4 : Hp} {p d rd t u : Addr} {A B A' : List Sh} {ts : List Str} {D : Dd} (F : Fit CS CH H p d rd A B ts) (hu : DueS B D H H3 u) (ha : AskS CS CH p d A A' D H3 H4 t) : ∃ (ls : List (Addr × Addr)) (b : Bool) (uv : V), AlR H4 t u ls ∧ H4 u = some (.tup [.bl b, uv]) ∧ Kd d H H4 ∧ Stk CS CH H4 p d A' ∧ (∀ x ∈ A', x ∈ A ∨ H x.2.2.1 = none) ∧ (∀ y ∈ ls, ∀ c, (c = y.1 ∨ c = y.2) → H c = none ∧ ∀ x ∈ A', x.2.2.1 ≠ c) ∧ (b = false → A' = A) ∧ (b = true → dueF B D = none ∧ A'.map vw = nwV (B.map vw) D (lkV B D.n)) := by
 obtain ⟨e3, hu⟩ := hu
 obtain ⟨k4, st, fa, ha⟩ := ha
 have hd3 := (F.st.same e3).dc
 have kk : Kd d H H4 := (Kd.of e3).trans k4
 have fa' : ∀ x ∈ A', x ∈ A ∨ H x.2.2.1 = none := fun x hx => (fa x hx).imp id fun w => e3.free w
 have hlk : lkV A D.n = lkV B D.n := by
   unfold lkV
   rw [F.eq]
 have de : dueF A D = dueF B D := due_eq F.eq
 rcases hu with ⟨r, u2, g1, g2, g3⟩ | ⟨g1, g0, g2⟩ | ⟨g1, g0, q, l, w, u2, l2, gm, gl, gl3, gu2, gu⟩
 · rcases ha with ⟨r', t2, h1, h2, h3, h4⟩ | ⟨h1, _⟩ | ⟨h1, _⟩
   · rw [de, g1] at h1
     cases h1
     exact ⟨[], false, .ref u2, .inl ⟨rfl, r, t2, u2, h3, h4, k4.tup hd3 g2, k4.tup hd3 g3⟩, k4.tup hd3 g2, kk, st, fa', (fun y hy => nomatch hy), fun _ => h2, fun z => by cases z⟩
   · rw [de, g1] at h1
     cases h1
   · rw [de, g1] at h1
     cases h1
 · rcases ha with ⟨r', t2, h1, _⟩ | ⟨h1, h0, h2, h3⟩ | ⟨h1, h0, _⟩
   · rw [de, g1] at h1
     cases h1
   · refine ⟨[], true, .non, .inr (.inl ⟨rfl, h3, k4.tup hd3 g2⟩), k4.tup hd3 g2, kk, st, fa', (fun y hy => nomatch hy), (fun z => by cases z), fun _ => ⟨g1, ?_⟩⟩
     rw [h2, F.eq, hlk]
   · exact absurd g0 h0
 · rcases ha with ⟨r', t2, h1, _⟩ | ⟨h1, h0, _⟩ | ⟨h1, h0, h2, q', l', v, t2, l1, hm, hl0, hl4, hL4, ht2, ht, hx1⟩
   · rw [de, g1] at h1
     cases h1
   · exact absurd h0 g0
   · have hv : vv v = vv w := F.alike hm gm rfl
     have va : v.a = w.a := congrArg (·.2.2.1) hv
     have vl : v.lot = w.lot := congrArg (·.1) hv
     have vL : v.L.map (·.2) = w.L.map (·.2) := congrArg (·.2.2.2.2) hv
     rw [vl, va] at ht2
     have hLw : RY H4 w.L := fun z hz => k4.tup hd3 (e3 _ _ ((F.rw _ gm).2.2 z hz))
     refine ⟨[(l1, l2)], true, .ref u2, .inr (.inr ⟨l1, l2, rfl, t2, u2, _, _, _, v.L, w.L, ht, k4.tup hd3 gu, ht2, k4.tup hd3 gu2, hl4, hL4, k4.lst hd3 gl3, hLw, vL⟩), k4.tup hd3 gu, kk, st, fa', fun y hy c hc => ?_, (fun z => by cases z), fun _ => ⟨g1, ?_⟩⟩
     · rw [List.mem_singleton.mp hy] at hc
       rcases hc with rfl | rfl
       · exact ⟨e3.free hl0, hx1⟩
       · refine ⟨gl, fun x hx => ?_⟩
         rcases fa x hx with w' | w'
         · exact (no_eq gl (F.st.ho x w').2.1).symm
         · exact no_eq w' gl3
     · rw [h2, F.eq, hlk]
def LR (H H' : Hp) : Prop := ∀ c xs, H c = some (.lst xs) → ∃ ys, H' c = some (.lst ys)
theorem LR.set {H H' : Hp} (h : LR H H') {c : Addr} {ys : List V} : LR H (upd H' c (.lst ys)) := fun b xs hb => by
 by_cases n : b = c
 · rw [n, upd_same]
   exact ⟨_, rfl⟩
 · rw [upd_ne n]
   exact h b xs hb
def clQ (x : Kq) (c : Addr) : Prop := c = x.r ∨ (∃ z ∈ x.Z, c = z.2.1) ∨ ∃ y ∈ x.ls, c = y.1
theorem clQ.ls {x : Kq} {c : Addr} (h : clQ x c) : c ∈ lsQ x := by
 rcases h with rfl | ⟨z, hz, rfl⟩ | ⟨y, hy, rfl⟩
 · exact mQ1 x
 · exact mQz hz
 · exact mQl hy
def Wi (KS : List Kq) (i : Nat) (b : Addr) : Prop := ∃ x ∈ KS.take i, clQ x b
theorem pw_take {KS : List Kq} (pw : KS.Pairwise fun x y => ∀ c ∈ lsQ x, ∀ c' ∈ lsQ y, c ≠ c') {i : Nat} {x : Kq} (hx : KS[i]? = some x) : ∀ y ∈ KS.take i, ∀ c ∈ lsQ y, ∀ c' ∈ lsQ x, c ≠ c' := fun y hy => by
 obtain ⟨j, hj, e⟩ := List.getElem_of_mem hy
 rw [List.length_take] at hj
 have hi : i < KS.length := (List.getElem?_eq_some_iff.mp hx).1
 have hxe : KS[i] = x := (List.getElem?_eq_some_iff.mp hx).2
 have := List.pairwise_iff_getElem.mp pw j i (by omega) hi (by omega)
 rw [List.getElem_take] at e
 rw [e, hxe] at this
 exact this
theorem sc_law : FnScope ["_law_script", "_law_names_here", "_law_step", "_law_new", "_law_stock", "_law_rows", "_law_told", "_law_kept", "_law_cell_here", "_law_deed_here", "_law_due_here", "_law_found", "_law_held_here", "_law_rest", "_law_one"] ["_law_script"] (defScope s_law) := ⟨rfl, rfl, rfl, by decide +kernel, rfl, by decide +kernel, by decide +kernel⟩
theorem ok_law {f : Addr} {fd : FuncData} (F : FunD K "law" "law" s_law f fd .none) {C_Stock : Addr} (c__law_names : Cal P w K mg base CX0 true 1 "_law_names" ["_law_cell_here", "_law_many_here"] [] spN6) (c__law_cell : Cal P w K mg base CX0 true 1 "_law_cell" ["_law_script", "_law_k"] [] (spCe K)) (c_Stock___init__ : CalI P w K mg base CX0 true 1 C_Stock ["self"] [] (spSI C_Stock C_Holding)) (c__law_deed : Cal P w K mg base CX0 true 3 "_law_deed" ["_law_cell_here", "_law_rows", "_law_told", "_law_names_here", "_law_new"] [] spDd) (c__law_due : Cal P w K mg base CX0 true 1 "_law_due" ["_law_rows", "_law_deed_here"] [] spDu) (c__law_asked : Cal P w K mg base CX0 true 6 "_law_asked" ["_law_stock", "_law_deed_here"] [] (spAs C_Stock C_Holding)) (c__law_alike : Cal P w K mg base CX0 true 2 "_law_alike" ["_law_found", "_law_due_here"] [] spAl) (c__law_done : Cal P w K mg base CX0 true 1 "_law_done" ["_law_rows", "_law_deed_here"] [] spDn) (c_Stock_holdings : CalM P w K mg base CX0 true 1 C_Stock "holdings" ["self"] [] (spHs C_Stock C_Holding)) (c__law_held : Cal P w K mg base CX0 true 1 "_law_held" ["_law_rows"] [] spHe) (c__law_summed : Cal P w K mg base CX0 true 7 "_law_summed" ["_law_stock", "_law_rows", "_law_name", "_law_cell_here"] [] (spSd C_Stock C_Holding)) (c__law_draw : Cal P w K mg base CX0 true 1 "_law_draw" ["_law_cell_here", "_law_at"] [] spDr6) (z_isinstance : mg "isinstance" = none) (z_list : mg "list" = none) (m_Stock : mg "Stock" = some (.ref C_Stock)) (cl_Stock : Cls K C_Stock) : FnOk P w K mg base CX0 true 8 f fd ["_law_script"] (spLaw K) := by
 obtain ⟨f__law_names, fd__law_names, d__law_names, G__law_names, m__law_names, k__law_names, b__law_names, v__law_names, b__law_names1⟩ := c__law_names
 obtain ⟨f__law_cell, fd__law_cell, d__law_cell, G__law_cell, m__law_cell, k__law_cell, b__law_cell, v__law_cell, b__law_cell1⟩ := c__law_cell
 obtain ⟨f_Stock___init__, fd_Stock___init__, d_Stock___init__, G_Stock___init__, M_Stock, b_Stock___init__, v_Stock___init__, b_Stock___init__1⟩ := c_Stock___init__
 obtain ⟨f__law_deed, fd__law_deed, d__law_deed, G__law_deed, m__law_deed, k__law_deed, b__law_deed, v__law_deed, b__law_deed1⟩ := c__law_deed
 obtain ⟨f__law_due, fd__law_due, d__law_due, G__law_due, m__law_due, k__law_due, b__law_due, v__law_due, b__law_due1⟩ := c__law_due
 obtain ⟨f__law_asked, fd__law_asked, d__law_asked, G__law_asked, m__law_asked, k__law_asked, b__law_asked, v__law_asked, b__law_asked1⟩ := c__law_asked
 obtain ⟨f__law_alike, fd__law_alike, d__law_alike, G__law_alike, m__law_alike, k__law_alike, b__law_alike, v__law_alike, b__law_alike1⟩ := c__law_alike
 obtain ⟨f__law_done, fd__law_done, d__law_done, G__law_done, m__law_done, k__law_done, b__law_done, v__law_done, b__law_done1⟩ := c__law_done
 obtain ⟨f_Stock_holdings, fd_Stock_holdings, d_Stock_holdings, G_Stock_holdings, m_Stock_holdings, b_Stock_holdings, v_Stock_holdings, b_Stock_holdings1⟩ := c_Stock_holdings
 obtain ⟨f__law_held, fd__law_held, d__law_held, G__law_held, m__law_held, k__law_held, b__law_held, v__law_held, b__law_held1⟩ := c__law_held
 obtain ⟨f__law_summed, fd__law_summed, d__law_summed, G__law_summed, m__law_summed, k__law_summed, b__law_summed, v__law_summed, b__law_summed1⟩ := c__law_summed
 obtain ⟨f__law_draw, fd__law_draw, d__law_draw, G__law_draw, m__law_draw, k__law_draw, b__law_draw, v__law_draw, b__law_draw1⟩ := c__law_draw
 refine F.ok sc_law (fun vs H Q E h => ?_) (fun cdv A outer s H vs Q E hr h => ?_)
 · obtain ⟨a, ns, rfl, hS, hlen, q⟩ := h
   rfl
 obtain ⟨a, ns, rfl, hS, hlen, q⟩ := h
 have nd := sc_law.nd
 refine ⟨_, (pss_cons (ps_set (i := 1) nd rfl (Or.inl rfl) (pe_call G__law_names (hr.mono (by decide)) rfl m__law_names k__law_names b__law_names Paired.nil pass0 (pa_cons (pe_call G__law_cell (hr.mono (by decide)) rfl m__law_cell k__law_cell b__law_cell Paired.nil pass0 (pa_cons (pv 0) (pa_cons pe_int pa_nil))) (pa_cons pe_int pa_nil))))
   (pss_cons (ps_set (i := 2) nd rfl (Or.inl rfl) (pe_op op_mulB (pe_op op_add pe_int (pe_op op_mod (pe_call G__law_cell (hr.mono (by decide)) rfl m__law_cell k__law_cell b__law_cell Paired.nil pass0 (pa_cons (pv 0) (pa_cons pe_int pa_nil))) pe_int)) (pe_op op_sub pe_int (pe_op op_mulB pe_int (pe_op op_mod (pe_op op_fdiv (pe_call G__law_cell (hr.mono (by decide)) rfl m__law_cell k__law_cell b__law_cell Paired.nil pass0 (pa_cons (pv 0) (pa_cons pe_int pa_nil))) pe_int) pe_int)))))
   (pss_cons (ps_set (i := 3) nd rfl (Or.inl rfl) (pe_op op_sub (pe_op op_mod (pe_call G__law_cell (hr.mono (by decide)) rfl m__law_cell k__law_cell b__law_cell Paired.nil pass0 (pa_cons (pv 0) (pa_cons pe_int pa_nil))) (pe_op op_pow pe_int pe_int)) pe_int))
   (pss_cons (ps_set (i := 4) nd rfl (Or.inl rfl) (pe_make0 M_Stock G_Stock___init__ (hr.mono (by decide)) rfl m_Stock b_Stock___init__ Paired.nil pass0))
   (pss_cons (ps_set (i := 5) nd rfl (Or.inl rfl) pe_dnewK)
   (pss_cons (ps_set (i := 6) nd rfl (Or.inl rfl) (pe_lst pa_nil))
   (pss_cons (ps_set (i := 7) nd rfl (Or.inl rfl) (pe_lst pa_nil))
   (pss_cons (ps_for PassesOwn.never rfl (pi_list (pe_lc [] rfl (LcOk.plain (by decide +kernel) (by decide +kernel) rfl (by decide +kernel) rfl) (pi_list (pe_slice sl_list (pv 0) (po_some pe_int) (po_some pe_int))) (fun C s2 H2 fp xe => (pe_op op_mod (pv 0) (pe_op op_pow pe_int pe_int))))) (pg_name (i := 8) nd rfl (Or.inl rfl)) (pss_cons (ps_set (i := 9) nd rfl (Or.inl rfl) (pe_call G__law_deed (hr.mono (by decide)) rfl m__law_deed k__law_deed b__law_deed Paired.nil pass0 (pa_cons (pv 8) (pa_cons (pv 5) (pa_cons (pv 6) (pa_cons (pv 1) (pa_cons (pv 3) pa_nil)))))))
   (pss_cons (ps_set (i := 10) nd rfl (Or.inl rfl) (pe_call G__law_due (hr.mono (by decide)) rfl m__law_due k__law_due b__law_due Paired.nil pass0 (pa_cons (pv 5) (pa_cons (pv 9) pa_nil))))
   (pss_cons (ps_set (i := 11) nd rfl (Or.inl rfl) (pe_call G__law_asked (hr.mono (by decide)) rfl m__law_asked k__law_asked b__law_asked Paired.nil pass0 (pa_cons (pv 4) (pa_cons (pv 9) pa_nil))))
   (pss_cons (ps_if (pt_not (pt_val (pe_call G__law_alike (hr.mono (by decide)) rfl m__law_alike k__law_alike b__law_alike Paired.nil pass0 (pa_cons (pv 11) (pa_cons (pv 10) pa_nil))))) (pss_one (ps_ret pe_bl)) pss_nil)
   (pss_cons (ps_if (pt_val (pe_ix ix_seq (pv 10) pe_int (fun _ _ => rfl))) (pss_cons (ps_expr (pe_call G__law_done (hr.mono (by decide)) rfl m__law_done k__law_done b__law_done Paired.nil pass0 (pa_cons (pv 5) (pa_cons (pv 9) pa_nil))))
   (pss_one (ps_if (pt_cmpR op_in_seq (pe_ix ix_seq (pv 9) pe_int (fun _ _ => rfl)) (pe_tup (pa_cons pe_int (pa_cons pe_int (pa_cons pe_int pa_nil)))) (by with_unfolding_all rfl)) (pss_cons (ps_expr (pe_bm PySem.F.plainAttrs_list PySem.F.slot_list_append PySem.F.type_list_append mt_append (pv 6) (pa_cons (pv 3) pa_nil)))
   (pss_one (ps_set (i := 3) nd rfl (Or.inl rfl) (pe_op op_add (pv 3) (pv 2))))) pss_nil))) pss_nil)
   (pss_cons (ps_set (i := 12) nd rfl (Or.inl rfl) (pe_meth0 (pv 4) cl_Stock m_Stock_holdings G_Stock_holdings (hr.mono (by decide)) b_Stock_holdings Paired.nil pass0))
   (pss_cons (ps_if (PW.pt (pw_or (pt_not (pt_val (pe_callB call_is rfl z_isinstance bt_isinstance (pa_cons (pv 12) (pa_cons (pe_bltn (v := .ty "list") rfl z_list bt_list rfl) pa_nil))))) (pw_or1 (pt_cmpR (op_neV hr) (pv 12) (pe_call G__law_held (hr.mono (by decide)) rfl m__law_held k__law_held b__law_held Paired.nil pass0 (pa_cons (pv 5) pa_nil)) (nomark _))))) (pss_one (ps_ret pe_bl)) pss_nil)
   (pss_cons (ps_if (pt_not (pt_val (pe_call G__law_summed (hr.mono (by decide)) rfl m__law_summed k__law_summed b__law_summed Paired.nil pass0 (pa_cons (pv 4) (pa_cons (pv 5) (pa_cons (pe_ix ix_seq (pv 1) (pe_op op_mod (pe_call G__law_draw (hr.mono (by decide)) rfl m__law_draw k__law_draw b__law_draw Paired.nil pass0 (pa_cons (pv 8) (pa_cons pe_int pa_nil))) pe_int) (fun _ _ => rfl)) (pa_cons (pv 8) pa_nil))))))) (pss_one (ps_ret pe_bl)) pss_nil)
   (pss_one (ps_expr (pe_bm PySem.F.plainAttrs_list PySem.F.slot_list_append PySem.F.type_list_append mt_append (pv 7) (pa_cons (pe_tup (pa_cons (pv 11) (pa_cons (pv 10) (pa_cons (pv 12) (pa_cons (pe_call G__law_held (hr.mono (by decide)) rfl m__law_held k__law_held b__law_held Paired.nil pass0 (pa_cons (pv 5) pa_nil)) pa_nil))))) pa_nil)))))))))))))
   (pss_cons (ps_for PassesOwn.never rfl (pi_list (pv 7)) (pg_tup rfl (pgs_cons (pg_name (i := 11) nd rfl (Or.inl rfl)) (pgs_cons (pg_name (i := 10) nd rfl (Or.inl rfl)) (pgs_cons (pg_name (i := 12) nd rfl (Or.inl rfl)) (pgs_cons (pg_name (i := 13) nd rfl (Or.inl rfl)) pgs_nil))))) (pss_one (ps_if (PW.pt (pw_or (pt_cmpR (op_neW hr) (pv 11) (pv 10) (nomark _)) (pw_or1 (pt_cmpR (op_neV hr) (pv 12) (pv 13) (nomark _))))) (pss_one (ps_ret pe_bl)) pss_nil)))
   (pss_cons (ps_for PassesOwn.never rfl (pi_list (pv 7)) (pg_tup rfl (pgs_cons (pg_name (i := 11) nd rfl (Or.inl rfl)) (pgs_cons (pg_name (i := 10) nd rfl (Or.inl rfl)) (pgs_cons (pg_name (i := 12) nd rfl (Or.inl rfl)) (pgs_cons (pg_name (i := 13) nd rfl (Or.inl rfl)) pgs_nil))))) (pss_cons (ps_if (PW.pt (pw_and (pt_val (pe_ix ix_seq (pv 11) pe_int (fun _ _ => rfl))) (pw_and1 (pt_cmpR op_notN (pe_ix ix_seq (pv 11) pe_int (fun _ _ => rfl)) pe_non (nomark _))))) (pss_one (ps_expr (pe_bm0 PySem.F.plainAttrs_list PySem.F.slot_list_clear PySem.F.type_list_clear mt_clear (pe_ix ix_seq (pe_ix ix_seq (pv 11) pe_int (fun _ _ => rfl)) pe_int (fun _ _ => rfl))))) pss_nil)
   (pss_cons (ps_for PassesOwn.never rfl (pi_list (pv 12)) (pg_name (i := 14) nd rfl (Or.inl rfl)) (pss_one (ps_expr (pe_bm0 PySem.F.plainAttrs_list PySem.F.slot_list_clear PySem.F.type_list_clear mt_clear (pe_ix ix_seq (pv 14) pe_int (fun _ _ => rfl))))))
   (pss_one (ps_expr (pe_bm0 PySem.F.plainAttrs_list PySem.F.slot_list_clear PySem.F.type_list_clear mt_clear (pv 12)))))))
   (pss_one (ps_ret (pe_cmpR (op_eqV hr) (pe_meth0 (pv 4) cl_Stock m_Stock_holdings G_Stock_holdings (hr.mono (by decide)) b_Stock_holdings Paired.nil pass0) (pe_call G__law_held (hr.mono (by decide)) rfl m__law_held k__law_held b__law_held Paired.nil pass0 (pa_cons (pv 5) pa_nil)) (nomark _)))))))))))))), ?_⟩
 have hline : 600 ≤ sizeLine := by decide
 refine ⟨_, rfl, a, ns, 0, rfl, hS, by decide, by decide, fun k0 _ _ => ⟨k0, 3, rfl, by decide, by decide, fun nl ts H1 e1 hnl hts hnd => ?_⟩⟩
 have hS1 := e1.seq hS
 refine ⟨_, rfl, a, ns, 1, rfl, hS1, by decide, by decide, fun k1 _ _ => ⟨_, _, rfl, rfl, (by show (0 : Int) < 9; decide), _, _, rfl, rfl, _, rfl, a, ns, 1, rfl, hS1, by decide, by decide, fun k2 _ _ => ⟨_, _, rfl, rfl, ⟨by decide, by decide⟩, _, _, rfl, rfl, (by show (0 : Int) < 2; decide), _, _, rfl, rfl, mul_of (by omega) (by omega) (by omega) (by omega), _, _, rfl, rfl, _, _, rfl, rfl, mul_of (by omega) (by omega) (by omega) (by omega), ?_⟩⟩⟩
 obtain ⟨sp, esp⟩ : ∃ x : Int, x = (1 + k1 % 9) * (1 - 2 * (k2 / 9 % 2)) := ⟨_, rfl⟩
 rw [show (fun i j => V.int (i * j)) (1 + k1 % 9) (1 - 2 * (k2 / 9 % 2)) = V.int sp from congrArg V.int esp.symm]
 clear esp
 refine ⟨_, rfl, a, ns, 2, rfl, hS1, by decide, by decide, fun k3 _ _ => ⟨_, _, rfl, rfl, ⟨by decide, by decide, by decide⟩, _, _, rfl, rfl, (by show (0 : Int) < 10 ^ 6; decide), _, _, rfl, rfl, ?_⟩⟩
 obtain ⟨nw, enw⟩ : ∃ x : Int, x = k3 % (10 : Int) ^ (6 : Int).toNat - 500000 := ⟨_, rfl⟩
 rw [show (fun i j => V.int (i - j)) (k3 % (10 : Int) ^ (6 : Int).toNat) 500000 = V.int nw from congrArg V.int enw.symm]
 clear enw
 refine fun p dx hp0 hdx hne => ⟨p, dx, rfl, upd_same, fun d H3 hd hdp SS k2' _ => ⟨rfl, ?_⟩⟩
 have k3 : Same H1 H3 := fun b o hb => by
   have nb1 : b ≠ p := ne_of_none hb hp0
   have nb2 : b ≠ dx := ne_of_none hb hdx
   exact k2' b o (by rw [upd_ne nb1, upd_ne nb2]; exact hb) nb1
 clear k2' hp0 hdx hne hd hdp
 refine fun rd hrd => ?_
 have g1 := same_upd (o := .dK []) hrd
 have ndr : d ≠ rd := ne_of_none SS.dc hrd
 have F0 : Fit C_Stock C_Holding (upd H3 rd (.dK [])) p d rd [] [] ts := ⟨SS.same g1, upd_same, (fun x hx => nomatch hx), (fun x hx => nomatch hx), rfl, Nat.zero_le _, ndr⟩
 have e4 := k3.trans g1
 generalize upd H3 rd (.dK []) = H4 at g1 e4 F0 ⊢
 clear SS hrd g1 ndr k3
 refine ⟨(by show 0 ≤ sizeLine; decide), fun tl htl => ?_⟩
 have g5 := same_upd (o := .lst []) htl
 have htl5 : upd H4 tl (.lst []) tl = some (.lst []) := upd_same
 have ntn : nl ≠ tl := ne_of_none (e4 _ _ hnl) htl
 generalize upd H4 tl (.lst []) = H5 at g5 htl5 ⊢
 refine ⟨(by show 0 ≤ sizeLine; decide), fun kl hkl => ?_⟩
 have g6 := same_upd (o := .lst []) hkl
 have hkl6 : upd H5 kl (.lst []) kl = some (.lst []) := upd_same
 have nkn : nl ≠ kl := ne_of_none (g5 _ _ (e4 _ _ hnl)) hkl
 have ntk : tl ≠ kl := ne_of_none htl5 hkl
 generalize upd H5 kl (.lst []) = H6 at g6 hkl6 ⊢
 have e6 := (e4.trans g5).trans g6
 have F6 := F0.same (g5.trans g6)
 have htl6 := g6 _ _ htl5
 have hnl6 := e6 _ _ hnl
 have hS6 := e6.seq hS1
 clear F0 g5 g6 htl hkl htl5 e4 e6
 obtain ⟨cs0, hcut, hc18⟩ := cut_int ns
 refine ⟨_, rfl, _, rfl, _, rfl, a, _, rfl, hS6, fun l7 hl7 => ⟨l7, rfl, ⟨_, SqL.of upd_same⟩, ?_⟩⟩
 rw [hcut]
 have g7 := same_upd (o := .lst (cs0.map V.int)) hl7
 have hl77 : upd H6 l7 (.lst (cs0.map V.int)) l7 = some (.lst (cs0.map V.int)) := upd_same
 generalize upd H6 l7 (.lst (cs0.map V.int)) = H7 at g7 hl77 ⊢
 have lmc : (cs0.map V.int).length = cs0.length := List.length_map ..
 refine lc_list (xs := cs0.map V.int) (fun i ys H' => ys = ((cs0.take i).map fun c => c % (10 : Int) ^ (45 : Int).toNat).map V.int ∧ H' = H7) ⟨rfl, rfl⟩ (by omega) ?_ ?_ ?_
 · rintro i ys H' hi ⟨rfl, rfl⟩
   exact ⟨SqL.of hl77, by rw [List.length_map, List.length_map, List.length_take]; omega⟩
 · rintro i x ys H' hx ⟨rfl, rfl⟩
   obtain ⟨c, hc, rfl⟩ : ∃ c, cs0[i]? = some c ∧ x = .int c := by
     rw [List.getElem?_map] at hx
     cases h : cs0[i]? with
     | none => rw [h] at hx; cases hx
     | some c => rw [h] at hx; exact ⟨c, rfl, (Option.some.inj hx).symm⟩
   refine ⟨_, rfl, _, _, rfl, rfl, ⟨by decide, by decide, by decide⟩, _, _, rfl, rfl, (by show (0 : Int) < 10 ^ 45; decide), ?_, rfl⟩
   rw [take_ny hc, List.map_append, List.map_append]
   rfl
 rintro ys H' ⟨rfl, rfl⟩ cl hcl
 rw [lmc, List.take_length]
 obtain ⟨cs, ecs⟩ : ∃ x, x = cs0.map fun c => c % (10 : Int) ^ (45 : Int).toNat := ⟨_, rfl⟩
 rw [← ecs]
 have hcs18 : cs.length ≤ 18 := by
   rw [ecs, List.length_map]
   exact hc18
 clear ecs hc18 hcut lmc
 have g8 := same_upd (o := .lst (cs.map V.int)) hcl
 have hcl8 : upd H' cl (.lst (cs.map V.int)) cl = some (.lst (cs.map V.int)) := upd_same
 have ncl : cl ≠ tl ∧ cl ≠ kl := ⟨(ne_of_none (g7 _ _ htl6) hcl).symm, (ne_of_none (g7 _ _ hkl6) hcl).symm⟩
 generalize upd H' cl (.lst (cs.map V.int)) = H8 at g8 hcl8 ⊢
 have g78 := g7.trans g8
 have SB : S3 C_Stock C_Holding nl tl kl cl ts cs H8 p d rd [] [] [] [] 0 0 := ⟨F6.same g78, g78 _ _ hnl6, g78 _ _ htl6, g78 _ _ hkl6, hcl8, (fun x hx => nomatch hx), ⟨⟨ntn, nkn, ntk, ncl⟩, (fun x hx => nomatch hx), (fun x hx => nomatch hx), (fun x hx => nomatch hx), List.Pairwise.nil⟩, Nat.le_refl _, Nat.le_refl _, (fun x hx => nomatch hx), Nat.le_refl _⟩
 clear F6 hnl6 htl6 hkl6 hcl8 g7 g8 g78 hl77 hl7 hcl hS6 hnl ntn nkn ntk ncl
 have lmc : (cs.map V.int).length = cs.length := List.length_map ..
 have lmt : (ts.map V.str).length = 3 := by rw [List.length_map]; exact hts
 refine ⟨cl, rfl, ⟨_, SqL.of SB.lc⟩, ?_⟩
 refine for_list (xs := cs.map V.int) (fun i σ H' => ∃ (nw : Int) (A B : List Sh) (Tl : List Int) (KS : List Kq) (o1 o2 o3 o4 o5 : Option V), σ = [some (.ref a), some (.ref nl), some (.int sp), some (.int nw), some (.ref p), some (.ref rd), some (.ref tl), some (.ref kl), o1, o2, o3, o4, o5, none, none] ∧ S3 C_Stock C_Holding nl tl kl cl ts cs H' p d rd A B Tl KS i i ∧ i ≤ 18) ⟨nw, [], [], [], [], _, _, _, _, _, rfl, SB, by decide⟩ ?_ ?_ ?_
 · rintro i σ H' hi ⟨nw, A, B, Tl, KS, o1, o2, o3, o4, o5, rfl, S, _⟩
   exact SqL.of S.lc
 · clear SB
   rintro i x σ H1 hx ⟨nw, A, B, Tl, KS, o1, o2, o3, o4, o5, rfl, S, _⟩
   obtain ⟨ce, hce, rfl⟩ : ∃ c, cs[i]? = some c ∧ x = .int c := by
     rw [List.getElem?_map] at hx
     cases h : cs[i]? with
     | none => rw [h] at hx; cases hx
     | some c => rw [h] at hx; exact ⟨c, rfl, (Option.some.inj hx).symm⟩
   have hi18 : i < 18 := by
     have := (List.getElem?_eq_some_iff.mp hce).1
     omega
   clear hx hce
   have htn := S.tn
   have hbl := S.bl
   have hla := S.ft.la
   refine ⟨_, rfl, _, rfl, _, rfl, _, rfl, _, rfl, ce, nw, rd, tl, nl, B, Tl, ts, rfl, S.ft.rc, S.ro, S.ft.nd, S.td, by omega, S.nm, hts, fun dp D H2 e2 hdp hnew hfD hsD hc0 hc9 hk6 hw0 hw7 => ?_⟩
   have S2 := S.same e2
   apply join2 (fun (u : Addr) (H3 : Hp) => DueS B D H2 H3 u)
   · intro kk
     exact ⟨_, rfl, _, rfl, rd, dp, B, D, rfl, hdp, S2.ft.rc, S2.ft.rw, S2.ft.nd, (fun r hr t t2 H' e h1 h2 => kk t H' ⟨e, .inl ⟨r, t2, hr, h1, h2⟩⟩), (fun hr h0 _ t H' e h1 => kk t H' ⟨e, .inr (.inl ⟨hr, h0, h1⟩)⟩), fun hr h0 q l v hm _ _ _ t t2 l' H' e hl0 hl1 ht2 ht => kk t H' ⟨e, .inr (.inr ⟨hr, h0, q, l, v, t2, l', hm, hl0, hl1, ht2, ht⟩)⟩⟩
   rintro u H3 hu
   have e3 := hu.1
   have S3' := S2.same e3
   have hLA : ∀ x ∈ A, x.2.2.2.L.length ≤ 1000 := fun x hx => by
     have hm : vw x ∈ B.map vw := by
       rw [← S.ft.eq]
       exact List.mem_map.mpr ⟨x, hx, rfl⟩
     obtain ⟨y, hy, e⟩ := List.mem_map.mp hm
     have h1 := vv_len (congrArg (·.2) e)
     have h2 := S.lb y hy
     have h1 : y.2.2.2.L.length = x.2.2.2.L.length := h1
     omega
   apply join2 (fun (t : Addr) (H4 : Hp) => ∃ A', AskS C_Stock C_Holding p d A A' D H3 H4 t)
   · intro kk
     exact ⟨_, rfl, _, rfl, p, d, dp, A, D, rfl, e3 _ _ hdp, S3'.ft.st, by omega, hLA, (fun r hr t t2 H' e h1 h2 => kk t H' ⟨A, Kd.of e, S3'.ft.st.same e, (fun x hx => .inl hx), .inl ⟨r, t2, hr, rfl, h1, h2⟩⟩), (fun hr h0 _ t A' H' k ht st hv hf => kk t H' ⟨A', k, st, hf, .inr (.inl ⟨hr, h0, hv, ht⟩)⟩), fun hr h0 q l v hm _ _ _ t t2 l' A' H' k hl0 hl1 hL1 ht2 ht st hv hf hx1 => kk t H' ⟨A', k, st, hf, .inr (.inr ⟨hr, h0, hv, q, l, v, t2, l', hm, hl0, hl1, hL1, ht2, ht, hx1⟩)⟩⟩
   rintro t H4 ⟨A', ha⟩
   have hdp4 := ha.1.tup S3'.ft.st.dc (e3 _ _ hdp)
   obtain ⟨ls, b, uv, hal, hu4, k4, st4, fa, lf, hbf, hbt⟩ := meet S2.ft hu ha
   clear hu ha S3' hLA
   refine ⟨_, rfl, _, rfl, t, u, ls, rfl, hal, fun H5 e5 => ⟨true, rfl, iteF ?_⟩⟩
   have k5 : Kd d H2 H5 := k4.trans (Kd.of e5)
   have st5 := st4.same e5
   have al5 : AlR H5 t u ls := hal.keep (fun c xs h => e5 _ _ h) (fun c xs h _ => e5 _ _ h)
   have hrd5 : H5 rd = some (.dK (kvA B)) := k5 _ _ S2.ft.rc (Ne.symm S.ft.ne)
   have ro5 : RowsOk H5 ts B := fun x hx => ⟨(S2.ft.rw x hx).kd S2.ft.st.dc k5, S.ft.ok x hx⟩
   have hu5 := e5 _ _ hu4
   have hdp5 := e5 _ _ hdp4
   clear hal hu4 hdp4 k4 st4
   apply join2 (fun (nw : Int) (H6 : Hp) => ∃ A B Tl, S3 C_Stock C_Holding nl tl kl cl ts cs H6 p d rd A B Tl KS (i + 1) i ∧ AlR H6 t u ls ∧ LsOk tl kl A B KS ls)
   · intro kk
     rcases Bool.eq_false_or_eq_true b with hb | hb
     rotate_left
     · have hu5' : H5 u = some (.tup [.bl false, uv]) := by rw [hu5, hb]
       refine ⟨_, rfl, .inr (.inl ⟨u, _, 0, _, rfl, rfl, SqT.of hu5', rfl, false, rfl, iteF ?_⟩)⟩
       have hA := hbf hb
       have M := S2.mid k5 st5 fa al5 lf (Kd.of (Same.refl _)) hrd5 ro5 (by rw [hA]; exact S.ft.eq) (by omega) (by omega) (fun x hx => Nat.le_succ_of_le (S.lb x hx)) (fun x hx => .inl ⟨x, hx, rfl⟩)
       obtain ⟨nw1, enw⟩ : ∃ x, x = nw := ⟨_, rfl⟩
       rw [← enw]
       exact kk nw1 H5 ⟨A', B, Tl, M⟩
     · have hu5' : H5 u = some (.tup [.bl true, uv]) := by rw [hu5, hb]
       obtain ⟨hdu, hvw⟩ := hbt hb
       refine ⟨_, rfl, .inr (.inl ⟨u, _, 0, _, rfl, rfl, SqT.of hu5', rfl, true, rfl, iteT ?_⟩)⟩
       refine ⟨_, rfl, _, rfl, rd, dp, B, D, ts, 1 + i, rfl, hdp5, hrd5, ro5, S.ft.nd, by omega, by omega, by omega, S.lb, hdu, hk6, hc0, hc9, hfD, hsD, fun B' H6 k6 hrd6 hB6 hBv hBl hBm hBf => ?_⟩
       have M := S2.mid k5 st5 fa al5 lf k6 hrd6 hB6 (hvw.trans hBv.symm) (by omega) (by omega) (fun x hx => hBm x hx) hBf
       obtain ⟨M1, M2, M3⟩ := M
       have hdp6 := k6.tup hrd5 hdp5
       have hdp6 : H6 dp = some (.tup [.int D.way, .int D.n, .str D.f, .int D.k, .str D.s, .int D.c, .int D.new]) := hdp6
       refine ⟨_, rfl, .inr (.inl ⟨dp, _, 0, _, rfl, rfl, SqT.of hdp6, rfl, (by show 3 ≤ sizeLine; decide), fun tt htt => ⟨tt, _, rfl, .inr (SqT.of upd_same), rfl, rfl, _, rfl, ?_⟩⟩)⟩
       have g := same_upd (o := .tup [.int 0, .int 6, .int 7]) htt
       have M1 := M1.same g
       have M2 : AlR _ t u ls := M2.keep (fun c xs h => g _ _ h) (fun c xs h _ => g _ _ h)
       generalize upd H6 tt (.tup [.int 0, .int 6, .int 7]) = H7 at M1 M2 ⊢
       generalize inV (V.int D.way) [V.int 0, V.int 6, V.int 7] = bb
       have hT1 : Tl.length + 1 ≤ i + 1 := by omega
       cases bb with
       | false => exact kk nw H7 ⟨A', B', Tl, M1, M2, M3⟩
       | true =>
         refine ⟨_, rfl, .inl ⟨rfl, _, SqL.of M1.td⟩, _, rfl, tl, _, _, rfl, rfl, M1.td, (by rw [List.length_map]; omega), ?_⟩
         refine ⟨_, rfl, _, rfl, _, _, rfl, rfl, ?_⟩
         obtain ⟨N1, N2⟩ := M1.tell nw M2 M3 hT1
         exact kk (nw + sp) _ ⟨A', B', Tl ++ [nw], N1, N2, M3⟩
   clear S S2 st5 fa al5 lf hbf hbt hrd5 ro5 hu5 hdp5 k5 htn hbl hla hdp e2 e3 e5
   rintro nw' H6 ⟨A, B, Tl, S, al, lo⟩
   have hbl := S.bl
   have hla := S.ft.la
   have hln := S.ft.ln
   obtain ⟨dx, fs, hp, hly, hno⟩ := S.ft.st.ob
   refine ⟨_, rfl, p, dx, fs, rfl, hp, hno "holdings" (by decide +kernel), p, d, A, rfl, S.ft.st, by omega, fun r Z H7 e7 hr0 hr hZ hZf hZr hpZ hsZ => ?_⟩
   have S7 := S.same e7
   refine ⟨_, rfl, _, _, _, _, _, rfl, .of (.lst hr), rfl, rfl, true, rfl, iteF ?_⟩
   refine ⟨_, rfl, _, rfl, rd, B, rfl, S7.ft.rc, S7.ft.rw, S.ft.nd, by omega, fun r2 Z2 H8 e8 hr20 hr2 hZ2 hZ2f hZ2b hp2 hs2 => ?_⟩
   obtain ⟨q1, q2⟩ := S.ft.zz hpZ hsZ hZ2b hp2 hs2
   obtain ⟨z1, z2⟩ := eqZ (K := K) (hZ.same e8) hZ2 q1 q2
   refine ⟨r, r2, _, _, rfl, rfl, SqL.of (e8 _ _ hr), SqL.of hr2, z1, z2, _, rfl, iteF ?_⟩
   clear z1 z2 q1 q2
   have e68 := e7.trans e8
   have S8 := S.same e68
   refine ⟨_, rfl, _, rfl, _, rfl, _, rfl, ce, 2, rfl, by decide, by decide, fun w1 H9 e9 w10 w19 w1d => ?_⟩
   obtain ⟨f, hft, hfa⟩ := at_str (ws := ts) (i := w1 % 3) (by omega) (by omega)
   have S9 := S8.same e9
   refine ⟨_, _, rfl, rfl, (by show (0 : Int) < 3; decide), .inl ⟨nl, _, _, _, rfl, rfl, SqL.of S9.nm, hfa, _, rfl, p, d, rd, A, B, ts, f, ce, rfl, S9.ft, fun HA eA => ⟨true, rfl, iteF ?_⟩⟩⟩
   have SA := S9.same eA
   have e6A := (e68.trans e9).trans eA
   refine ⟨_, rfl, .inl ⟨rfl, _, SqL.of SA.kp⟩, _, rfl, _, rfl, _, rfl, _, rfl, rd, B, rfl, SA.ft.rc, SA.ft.rw, S.ft.nd, by omega, fun r3 Z3 HB eB hr30 hr3 hZ3 hZ3f hZ3b hp3 hs3 => ⟨(by show 4 ≤ sizeLine; decide), fun tp htp => ?_⟩⟩
   obtain ⟨q1, q2⟩ := S.ft.zz hpZ hsZ hZ3b hp3 hs3
   have gC := same_upd (o := .tup [.ref t, .ref u, .ref r, .ref r3]) htp
   have e6C := (e6A.trans eB).trans gC
   have hkl := e6C _ _ S.kp
   have hkn := S.kn
   refine ⟨kl, _, _, rfl, rfl, hkl, (by rw [List.length_map]; omega), ?_⟩
   have alC : AlR (upd HB tp (.tup [.ref t, .ref u, .ref r, .ref r3])) t u ls := al.keep (fun c xs h => e6C _ _ h) (fun c xs h _ => e6C _ _ h)
   have KC : KQ (upd HB tp (.tup [.ref t, .ref u, .ref r, .ref r3])) ⟨tp, t, u, r, r3, Z, Z3, ls⟩ := ⟨upd_same, alC, gC _ _ (eB _ _ (eA _ _ (e9 _ _ (e8 _ _ hr)))), (((((hZ.same e8).same e9).same eA).same eB).same gC), gC _ _ hr3, hZ3.same gC, q1, q2, hZr, fun y hy => (no_eq hr0 (al.live y hy y.1 (.inl rfl)).choose_spec).symm⟩
   refine ⟨nw', A, B, Tl, KS ++ [⟨tp, t, u, r, r3, Z, Z3, ls⟩], _, _, _, _, _, rfl, S.push e6C KC lo fun c hc => ?_, by omega⟩
   rcases lsQ_of hc with w | w | ⟨z, hz, w⟩ | ⟨z, hz, w⟩ | w
   · have w : c = r := w
     rw [w]
     exact .inl hr0
   · have w : c = r3 := w
     rw [w]
     exact .inl (e6A.free hr30)
   · rw [w]
     exact .inl (hZf z hz)
   · rw [w]
     exact .inl (e6A.free (hZ3f z hz))
   · exact .inr w
 clear SB
 rintro σ H1 ⟨nw, A, B, Tl, KS, o1, o2, o3, o4, o5, rfl, S, _⟩
 have hbl := S.bl
 have hla := S.ft.la
 have hln := S.ft.ln
 have KSat : ∀ {i : Nat} {w : V}, (KS.map fun x => V.ref x.tp)[i]? = some w → ∃ x, KS[i]? = some x ∧ w = .ref x.tp := fun {i w} h => by
   rw [List.getElem?_map] at h
   cases g : KS[i]? with
   | none => rw [g] at h; cases h
   | some z => rw [g] at h; exact ⟨z, rfl, (Option.some.inj h).symm⟩
 refine ⟨_, rfl, kl, rfl, ⟨_, SqL.of S.kp⟩, ?_⟩
 refine for_list (xs := KS.map fun x => V.ref x.tp) (fun i σ H' => ∃ (o1 o2 o3 o4 o5 o6 : Option V), σ = [some (.ref a), some (.ref nl), some (.int sp), some (.int nw), some (.ref p), some (.ref rd), some (.ref tl), some (.ref kl), o1, o2, o3, o4, o5, o6, none] ∧ H' = H1) ⟨_, _, _, _, _, _, rfl, rfl⟩ ?_ ?_ ?_
 · rintro i σ H' hi ⟨o1, o2, o3, o4, o5, o6, rfl, rfl⟩
   exact SqL.of S.kp
 · rintro i w σ H' hw ⟨o1, o2, o3, o4, o5, o6, rfl, rfl⟩
   obtain ⟨x, hx, rfl⟩ := KSat hw
   have k := S.kq x (List.mem_of_getElem? hx)
   refine ⟨x.tp, _, rfl, SqT.of k.tp, rfl, _, _, rfl, _, _, rfl, _, _, rfl, _, _, rfl, rfl, ?_⟩
   obtain ⟨xs, ys, s1, s2, hl, he⟩ := k.al.eqW (K := K)
   refine ⟨_, rfl, _, rfl, x.t, x.u, xs, ys, rfl, rfl, s1, s2, hl, he, _, rfl, iteF ?_⟩
   obtain ⟨z1, z2⟩ := eqZ (K := K) k.z1 k.z2 k.ke k.ve
   exact ⟨_, rfl, _, rfl, x.r, x.r2, _, _, rfl, rfl, SqL.of k.l1, SqL.of k.l2, z1, z2, _, rfl, iteF ⟨_, _, _, _, _, _, rfl, rfl⟩⟩
 rintro σ H' ⟨o1, o2, o3, o4, o5, o6, rfl, rfl⟩
 have WiL : ∀ i b, Wi KS i b → ∃ xs, H' b = some (.lst xs) := fun i b ⟨x, hx, hc⟩ => (S.kq x (List.mem_of_mem_take hx)).live hc.ls
 refine ⟨_, rfl, kl, rfl, ⟨_, SqL.of S.kp⟩, ?_⟩
 refine for_list (xs := KS.map fun x => V.ref x.tp) (fun i σ H2 => ∃ (o1 o2 o3 o4 o5 o6 o7 : Option V), σ = [some (.ref a), some (.ref nl), some (.int sp), some (.int nw), some (.ref p), some (.ref rd), some (.ref tl), some (.ref kl), o1, o2, o3, o4, o5, o6, o7] ∧ WL (Wi KS i) H' H2 ∧ LR H' H2) ⟨_, _, _, _, _, _, _, rfl, ⟨WiL 0, fun b o hb _ => hb⟩, fun c xs h => ⟨xs, h⟩⟩ ?_ ?_ ?_
 · rintro i σ H2 hi ⟨o1, o2, o3, o4, o5, o6, o7, rfl, e, _⟩
   exact SqL.of (e.kp _ _ S.kp fun ⟨x, hx, hc⟩ => (S.nn.ka x (List.mem_of_mem_take hx) _ hc.ls).2.1 rfl)
 · rintro i w σ H2 hw ⟨o1, o2, o3, o4, o5, o6, o7, rfl, e, lr⟩
   obtain ⟨x, hx, rfl⟩ := KSat hw
   have hxm := List.mem_of_getElem? hx
   have k := S.kq x hxm
   have far := pw_take S.nn.pw hx
   have nWi : ∀ c ∈ lsQ x, ¬ Wi KS i c := fun c hc ⟨y, hy, h⟩ => far y hy c h.ls c hc rfl
   refine ⟨x.tp, _, rfl, SqT.of (e.tup k.tp), rfl, _, _, rfl, _, _, rfl, _, _, rfl, _, _, rfl, rfl, ?_⟩
   have lsL : ∀ b, (Wi KS i b ∨ ∃ y ∈ x.ls, b = y.1) → ∃ xs, H' b = some (.lst xs) := fun b h => by
     rcases h with h | ⟨y, hy, h⟩
     · exact WiL i b h
     · exact k.al.live y hy b (.inl h)
   apply join1 (fun (H3 : Hp) => WL (fun b => Wi KS i b ∨ ∃ y ∈ x.ls, b = y.1) H' H3 ∧ LR H' H3)
   · intro kk
     have e1 : WL (fun b => Wi KS i b ∨ ∃ y ∈ x.ls, b = y.1) H' H2 := e.mono (fun b h => .inl h) lsL
     obtain ⟨H3, eH⟩ : ∃ x, x = H2 := ⟨_, rfl⟩
     rw [← eH] at e e1 lr ⊢
     clear eH
     have hal := k.al
     generalize hxl : x.ls = xl at hal
     rcases hal with ⟨_, r, t2, u2, h1, h2, h3, h4⟩ | ⟨_, h1, h3⟩ | ⟨l, l2, e0, t2, u2, lo, a', b', L, L', h1, h3, h2, h4, h5, r5, h6, r6, ee⟩
     · exact ⟨_, rfl, .inr (.inl ⟨x.t, _, 0, _, rfl, rfl, SqT.of (e.tup h1), rfl, false, rfl, iteF (iteF (kk H3 ⟨e1, lr⟩))⟩)⟩
     · refine ⟨_, rfl, .inr (.inl ⟨x.t, _, 0, _, rfl, rfl, SqT.of (e.tup h1), rfl, true, rfl, iteT ?_⟩)⟩
       exact ⟨_, rfl, .inr (.inl ⟨x.t, _, 1, _, rfl, rfl, SqT.of (e.tup h1), rfl, rfl, _, rfl, ndecF rfl (kk H3 ⟨e1, lr⟩)⟩)⟩
     · have hyl : (l, l2) ∈ x.ls := by
         rw [hxl, e0]
         exact List.mem_cons_self
       refine ⟨_, rfl, .inr (.inl ⟨x.t, _, 0, _, rfl, rfl, SqT.of (e.tup h1), rfl, true, rfl, iteT ?_⟩)⟩
       refine ⟨_, rfl, .inr (.inl ⟨x.t, _, 1, _, rfl, rfl, SqT.of (e.tup h1), rfl, rfl, _, rfl, ?_⟩)⟩
       refine ndec2 (fun _ => ?_) (fun h => by cases h)
       obtain ⟨ys, hys⟩ := lr l _ h5
       refine ⟨_, rfl, .inr (.inl ⟨x.t, _, 1, _, rfl, rfl, SqT.of (e.tup h1), rfl, .inr (.inl ⟨t2, _, 3, _, rfl, rfl, SqT.of (e.tup h2), rfl, .inl ⟨rfl, _, SqL.of hys⟩, l, _, rfl, rfl, hys, ?_⟩)⟩)⟩
       refine kk _ ⟨(e.set h5).mono (fun b hb => ?_) lsL, lr.set⟩
       rcases hb with hb | hb
       · exact .inl hb
       · exact .inr ⟨(l, l2), hyl, hb⟩
   rintro H3 ⟨e3, lr3⟩
   have lmZ := rfH_len x.Z
   have allL : ∀ b, (Wi KS i b ∨ (∃ y ∈ x.ls, b = y.1) ∨ ∃ z ∈ x.Z, b = z.2.1) → ∃ xs, H' b = some (.lst xs) := fun b h => by
     rcases h with h | ⟨y, hy, h⟩ | ⟨z, hz, h⟩
     · exact WiL i b h
     · exact k.al.live y hy b (.inl h)
     · rw [h]
       exact ⟨_, (k.z1 z hz).2.1⟩
   have nr : ∀ {j : Nat}, ¬ (Wi KS i x.r ∨ (∃ y ∈ x.ls, x.r = y.1) ∨ ∃ z ∈ x.Z.take j, x.r = z.2.1) := fun {j} h => by
     rcases h with h | ⟨y, hy, h⟩ | ⟨z, hz, h⟩
     · exact nWi _ (mQ1 x) h
     · exact k.nl y hy h.symm
     · exact k.nr z (List.mem_of_mem_take hz) h.symm
   have hr3 : H3 x.r = some (.lst (rfH x.Z)) := e3.kp _ _ k.l1 fun h => nr (j := 0) (h.imp id .inl)
   refine ⟨_, rfl, x.r, rfl, ⟨_, SqL.of hr3⟩, ?_⟩
   refine for_list (xs := rfH x.Z) (fun j σ H4 => ∃ (o7 : Option V), σ = [some (.ref a), some (.ref nl), some (.int sp), some (.int nw), some (.ref p), some (.ref rd), some (.ref tl), some (.ref kl), o1, o2, some (.ref x.u), some (.ref x.t), some (.ref x.r), some (.ref x.r2), o7] ∧ WL (fun b => Wi KS i b ∨ (∃ y ∈ x.ls, b = y.1) ∨ ∃ z ∈ x.Z.take j, b = z.2.1) H' H4 ∧ LR H' H4) ⟨_, rfl, e3.mono (fun b h => h.imp id .inl) (fun b h => allL b (h.imp id fun h => h.imp id fun ⟨z, hz, hb⟩ => ⟨z, List.mem_of_mem_take hz, hb⟩)), lr3⟩ ?_ ?_ ?_
   · rintro j σ H4 hj ⟨o7, rfl, e4, _⟩
     exact SqL.of (e4.kp _ _ k.l1 nr)
   · rintro j w σ H4 hw ⟨o7, rfl, e4, lr4⟩
     obtain ⟨z, hz, rfl⟩ := rfH_at hw
     have hzm := List.mem_of_getElem? hz
     obtain ⟨z1, z2, z3⟩ := k.z1 z hzm
     obtain ⟨ys, hys⟩ := lr4 _ _ z2
     refine ⟨_, rfl, .inr (.inl ⟨z.1, _, 5, _, rfl, rfl, SqT.of (e4.tup z1), rfl, .inl ⟨rfl, _, SqL.of hys⟩, z.2.1, _, rfl, rfl, hys, ?_⟩)⟩
     refine ⟨_, rfl, (e4.set z2).mono (fun b hb => ?_) (fun b h => allL b (h.imp id fun h => h.imp id fun ⟨z, hz, hb⟩ => ⟨z, List.mem_of_mem_take hz, hb⟩)), lr4.set⟩
     rw [take_ny hz]
     rcases hb with (hb | hb | ⟨z', hz', hb⟩) | hb
     · exact .inl hb
     · exact .inr (.inl hb)
     · exact .inr (.inr ⟨z', List.mem_append_left _ hz', hb⟩)
     · exact .inr (.inr ⟨z, List.mem_append_right _ List.mem_cons_self, hb⟩)
   rintro σ H4 ⟨o7, rfl, e4, lr4⟩
   have hr4 : H4 x.r = some (.lst (rfH x.Z)) := e4.kp _ _ k.l1 nr
   refine ⟨_, rfl, .inl ⟨rfl, _, SqL.of hr4⟩, x.r, _, rfl, rfl, hr4, ?_⟩
   refine ⟨_, _, _, _, _, _, _, rfl, (e4.set k.l1).mono (fun b hb => ?_) (WiL (i + 1)), lr4.set⟩
   unfold Wi
   rw [take_ny hx]
   rcases hb with (⟨y, hy, hb⟩ | ⟨y, hy, hb⟩ | ⟨z', hz', hb⟩) | hb
   · exact ⟨y, List.mem_append_left _ hy, hb⟩
   · exact ⟨x, List.mem_append_right _ List.mem_cons_self, .inr (.inr ⟨y, hy, hb⟩)⟩
   · exact ⟨x, List.mem_append_right _ List.mem_cons_self, .inr (.inl ⟨z', List.mem_of_mem_take hz', hb⟩)⟩
   · exact ⟨x, List.mem_append_right _ List.mem_cons_self, .inl hb⟩
 rintro σ H2 ⟨o1, o2, o3, o4, o5, o6, o7, rfl, e, _⟩
 have F2 := S.ft.wl e (fun y hy ⟨x, hx, hc⟩ => (S.nn.ka x (List.mem_of_mem_take hx) _ hc.ls).2.2.1 y hy rfl) (fun y hy ⟨x, hx, hc⟩ => (S.nn.ka x (List.mem_of_mem_take hx) _ hc.ls).2.2.2 y hy rfl)
 obtain ⟨dx, fs, hp, hly, hno⟩ := F2.st.ob
 refine ⟨_, rfl, p, dx, fs, rfl, hp, hno "holdings" (by decide +kernel), p, d, A, rfl, F2.st, by omega, fun r Z H7 e7 hr0 hr hZ hZf hZr hpZ hsZ => ?_⟩
 have F7 := F2.same e7
 refine ⟨_, rfl, rd, B, rfl, F7.rc, F7.rw, F7.nd, by omega, fun r2 Z2 H8 e8 hr20 hr2 hZ2 hZ2f hZ2b hp2 hs2 => ?_⟩
 obtain ⟨q1, q2⟩ := F2.zz hpZ hsZ hZ2b hp2 hs2
 obtain ⟨z1, z2⟩ := eqZ (K := K) (hZ.same e8) hZ2 q1 q2
 exact ⟨r, r2, _, _, rfl, rfl, SqL.of (e8 _ _ hr), SqL.of hr2, z1, z2, q _⟩
end
theorem all_mk {l : PySem.W.OpenLaw} {w : World} {K : PySem.W.Frag} {h : Heap} {mg : Str → Option Value} {fa : Addr} {C_BadAmount C_BooksError C_Holding C_NoGoods C_NoNumber C_Stock C_TooFew : Addr} {f_portion : Addr} {oc_portion kV_portion dc_portion pm_portion cd_portion ct_portion : Value} {od_portion an_portion : Option Addr} {sl_portion : Array (Option Value)} {f_layer_cost : Addr} {oc_layer_cost kV_layer_cost dc_layer_cost pm_layer_cost cd_layer_cost ct_layer_cost : Value} {od_layer_cost an_layer_cost : Option Addr} {sl_layer_cost : Array (Option Value)} {f_chain_costs : Addr} {oc_chain_costs kV_chain_costs dc_chain_costs pm_chain_costs cd_chain_costs ct_chain_costs : Value} {od_chain_costs an_chain_costs : Option Addr} {sl_chain_costs : Array (Option Value)} {f_chain_gains : Addr} {oc_chain_gains kV_chain_gains dc_chain_gains pm_chain_gains cd_chain_gains ct_chain_gains : Value} {od_chain_gains an_chain_gains : Option Addr} {sl_chain_gains : Array (Option Value)} {f_Holding___init__ : Addr} {oc_Holding___init__ kV_Holding___init__ dc_Holding___init__ pm_Holding___init__ cd_Holding___init__ ct_Holding___init__ : Value} {od_Holding___init__ an_Holding___init__ : Option Addr} {sl_Holding___init__ : Array (Option Value)} {f_Holding_pieces : Addr} {oc_Holding_pieces kV_Holding_pieces dc_Holding_pieces pm_Holding_pieces cd_Holding_pieces ct_Holding_pieces : Value} {od_Holding_pieces an_Holding_pieces : Option Addr} {sl_Holding_pieces : Array (Option Value)} {f_Holding_front : Addr} {oc_Holding_front kV_Holding_front dc_Holding_front pm_Holding_front cd_Holding_front ct_Holding_front : Value} {od_Holding_front an_Holding_front : Option Addr} {sl_Holding_front : Array (Option Value)} {f_Holding_behind : Addr} {oc_Holding_behind kV_Holding_behind dc_Holding_behind pm_Holding_behind cd_Holding_behind ct_Holding_behind : Value} {od_Holding_behind an_Holding_behind : Option Addr} {sl_Holding_behind : Array (Option Value)} {f_Stock___init__ : Addr} {oc_Stock___init__ kV_Stock___init__ dc_Stock___init__ pm_Stock___init__ cd_Stock___init__ ct_Stock___init__ : Value} {od_Stock___init__ an_Stock___init__ : Option Addr} {sl_Stock___init__ : Array (Option Value)} {f_BadAmount__init__ : Addr} {oc_BadAmount__init__ kV_BadAmount__init__ dc_BadAmount__init__ pm_BadAmount__init__ cd_BadAmount__init__ ct_BadAmount__init__ : Value} {od_BadAmount__init__ an_BadAmount__init__ : Option Addr} {sl_BadAmount__init__ : Array (Option Value)} {f_NoGoods__init__ : Addr} {oc_NoGoods__init__ kV_NoGoods__init__ dc_NoGoods__init__ pm_NoGoods__init__ cd_NoGoods__init__ ct_NoGoods__init__ : Value} {od_NoGoods__init__ an_NoGoods__init__ : Option Addr} {sl_NoGoods__init__ : Array (Option Value)} {f_TooFew__init__ : Addr} {oc_TooFew__init__ kV_TooFew__init__ dc_TooFew__init__ pm_TooFew__init__ cd_TooFew__init__ ct_TooFew__init__ : Value} {od_TooFew__init__ an_TooFew__init__ : Option Addr} {sl_TooFew__init__ : Array (Option Value)} {f_Stock_bring : Addr} {oc_Stock_bring kV_Stock_bring dc_Stock_bring pm_Stock_bring cd_Stock_bring ct_Stock_bring : Value} {od_Stock_bring an_Stock_bring : Option Addr} {sl_Stock_bring : Array (Option Value)} {f_Stock_taken : Addr} {oc_Stock_taken kV_Stock_taken dc_Stock_taken pm_Stock_taken cd_Stock_taken ct_Stock_taken : Value} {od_Stock_taken an_Stock_taken : Option Addr} {sl_Stock_taken : Array (Option Value)} {f_Stock_sell : Addr} {oc_Stock_sell kV_Stock_sell dc_Stock_sell pm_Stock_sell cd_Stock_sell ct_Stock_sell : Value} {od_Stock_sell an_Stock_sell : Option Addr} {sl_Stock_sell : Array (Option Value)} {f_Stock_hand : Addr} {oc_Stock_hand kV_Stock_hand dc_Stock_hand pm_Stock_hand cd_Stock_hand ct_Stock_hand : Value} {od_Stock_hand an_Stock_hand : Option Addr} {sl_Stock_hand : Array (Option Value)} {f_Stock_holdings : Addr} {oc_Stock_holdings kV_Stock_holdings dc_Stock_holdings pm_Stock_holdings cd_Stock_holdings ct_Stock_holdings : Value} {od_Stock_holdings an_Stock_holdings : Option Addr} {sl_Stock_holdings : Array (Option Value)} {f_Holding_costs : Addr} {oc_Holding_costs kV_Holding_costs dc_Holding_costs pm_Holding_costs cd_Holding_costs ct_Holding_costs : Value} {od_Holding_costs an_Holding_costs : Option Addr} {sl_Holding_costs : Array (Option Value)} {f_Holding_gains : Addr} {oc_Holding_gains kV_Holding_gains dc_Holding_gains pm_Holding_gains cd_Holding_gains ct_Holding_gains : Value} {od_Holding_gains an_Holding_gains : Option Addr} {sl_Holding_gains : Array (Option Value)} {f_Stock_goods_of : Addr} {oc_Stock_goods_of kV_Stock_goods_of dc_Stock_goods_of pm_Stock_goods_of cd_Stock_goods_of ct_Stock_goods_of : Value} {od_Stock_goods_of an_Stock_goods_of : Option Addr} {sl_Stock_goods_of : Array (Option Value)} {f_Stock_unmade : Addr} {oc_Stock_unmade kV_Stock_unmade dc_Stock_unmade pm_Stock_unmade cd_Stock_unmade ct_Stock_unmade : Value} {od_Stock_unmade an_Stock_unmade : Option Addr} {sl_Stock_unmade : Array (Option Value)} {f__law_cell : Addr} {oc__law_cell kV__law_cell dc__law_cell pm__law_cell cd__law_cell ct__law_cell : Value} {od__law_cell an__law_cell : Option Addr} {sl__law_cell : Array (Option Value)} {f__law_draw : Addr} {oc__law_draw kV__law_draw dc__law_draw pm__law_draw cd__law_draw ct__law_draw : Value} {od__law_draw an__law_draw : Option Addr} {sl__law_draw : Array (Option Value)} {f__law_names : Addr} {oc__law_names kV__law_names dc__law_names pm__law_names cd__law_names ct__law_names : Value} {od__law_names an__law_names : Option Addr} {sl__law_names : Array (Option Value)} {f__law_whole : Addr} {oc__law_whole kV__law_whole dc__law_whole pm__law_whole cd__law_whole ct__law_whole : Value} {od__law_whole an__law_whole : Option Addr} {sl__law_whole : Array (Option Value)} {f__law_refusal : Addr} {oc__law_refusal kV__law_refusal dc__law_refusal pm__law_refusal cd__law_refusal ct__law_refusal : Value} {od__law_refusal an__law_refusal : Option Addr} {sl__law_refusal : Array (Option Value)} {f__law_asked : Addr} {oc__law_asked kV__law_asked dc__law_asked pm__law_asked cd__law_asked ct__law_asked : Value} {od__law_asked an__law_asked : Option Addr} {sl__law_asked : Array (Option Value)} {f__law_due : Addr} {oc__law_due kV__law_due dc__law_due pm__law_due cd__law_due ct__law_due : Value} {od__law_due an__law_due : Option Addr} {sl__law_due : Array (Option Value)} {f__law_done : Addr} {oc__law_done kV__law_done dc__law_done pm__law_done cd__law_done ct__law_done : Value} {od__law_done an__law_done : Option Addr} {sl__law_done : Array (Option Value)} {f__law_held : Addr} {oc__law_held kV__law_held dc__law_held pm__law_held cd__law_held ct__law_held : Value} {od__law_held an__law_held : Option Addr} {sl__law_held : Array (Option Value)} {f__law_costs : Addr} {oc__law_costs kV__law_costs dc__law_costs pm__law_costs cd__law_costs ct__law_costs : Value} {od__law_costs an__law_costs : Option Addr} {sl__law_costs : Array (Option Value)} {f__law_sums : Addr} {oc__law_sums kV__law_sums dc__law_sums pm__law_sums cd__law_sums ct__law_sums : Value} {od__law_sums an__law_sums : Option Addr} {sl__law_sums : Array (Option Value)} {f__law_summed : Addr} {oc__law_summed kV__law_summed dc__law_summed pm__law_summed cd__law_summed ct__law_summed : Value} {od__law_summed an__law_summed : Option Addr} {sl__law_summed : Array (Option Value)} {f__law_many : Addr} {oc__law_many kV__law_many dc__law_many pm__law_many cd__law_many ct__law_many : Value} {od__law_many an__law_many : Option Addr} {sl__law_many : Array (Option Value)} {f__law_deed : Addr} {oc__law_deed kV__law_deed dc__law_deed pm__law_deed cd__law_deed ct__law_deed : Value} {od__law_deed an__law_deed : Option Addr} {sl__law_deed : Array (Option Value)} {f__law_alike : Addr} {oc__law_alike kV__law_alike dc__law_alike pm__law_alike cd__law_alike ct__law_alike : Value} {od__law_alike an__law_alike : Option Addr} {sl__law_alike : Array (Option Value)} {f_law : Addr} {oc_law kV_law dc_law pm_law cd_law ct_law : Value} {od_law an_law : Option Addr} {sl_law : Array (Option Value)} (X : K.In h) (G : h.Ns mainGlobals mg) (hfa : mg "law" = some (.ref fa))
   (a_BadAmount : PySem.W.nsIn K mainGlobals "BadAmount" = some (some (.ref C_BadAmount))) (a_BooksError : PySem.W.nsIn K mainGlobals "BooksError" = some (some (.ref C_BooksError))) (a_Holding : PySem.W.nsIn K mainGlobals "Holding" = some (some (.ref C_Holding))) (a_NoGoods : PySem.W.nsIn K mainGlobals "NoGoods" = some (some (.ref C_NoGoods))) (a_NoNumber : PySem.W.nsIn K mainGlobals "NoNumber" = some (some (.ref C_NoNumber))) (a_Stock : PySem.W.nsIn K mainGlobals "Stock" = some (some (.ref C_Stock))) (a_TooFew : PySem.W.nsIn K mainGlobals "TooFew" = some (some (.ref C_TooFew))) (xs_NoNumber : xclsIn K C_NoNumber = true) (xga_NoNumber : PySem.W.findIn K (.ref C_NoNumber) "__getattribute__" = some (some (.builtin "BaseException.__getattribute__"))) (xgh_NoNumber : PySem.W.findIn K (.ref C_NoNumber) "__getattr__" = some (none)) (xsa_NoNumber : PySem.W.findIn K (.ref C_NoNumber) "__setattr__" = some (some (.builtin "object.__setattr__"))) (xcl_NoNumber : PySem.W.findIn K (.ref C_NoNumber) "__class__" = some (some (.builtin "object.__class__"))) (xs_BadAmount : xclsIn K C_BadAmount = true) (xga_BadAmount : PySem.W.findIn K (.ref C_BadAmount) "__getattribute__" = some (some (.builtin "BaseException.__getattribute__"))) (xgh_BadAmount : PySem.W.findIn K (.ref C_BadAmount) "__getattr__" = some (none)) (xsa_BadAmount : PySem.W.findIn K (.ref C_BadAmount) "__setattr__" = some (some (.builtin "object.__setattr__"))) (xcl_BadAmount : PySem.W.findIn K (.ref C_BadAmount) "__class__" = some (some (.builtin "object.__class__"))) (xs_NoGoods : xclsIn K C_NoGoods = true) (xga_NoGoods : PySem.W.findIn K (.ref C_NoGoods) "__getattribute__" = some (some (.builtin "BaseException.__getattribute__"))) (xgh_NoGoods : PySem.W.findIn K (.ref C_NoGoods) "__getattr__" = some (none)) (xsa_NoGoods : PySem.W.findIn K (.ref C_NoGoods) "__setattr__" = some (some (.builtin "object.__setattr__"))) (xcl_NoGoods : PySem.W.findIn K (.ref C_NoGoods) "__class__" = some (some (.builtin "object.__class__"))) (xs_TooFew : xclsIn K C_TooFew = true) (xga_TooFew : PySem.W.findIn K (.ref C_TooFew) "__getattribute__" = some (some (.builtin "BaseException.__getattribute__"))) (xgh_TooFew : PySem.W.findIn K (.ref C_TooFew) "__getattr__" = some (none)) (xsa_TooFew : PySem.W.findIn K (.ref C_TooFew) "__setattr__" = some (some (.builtin "object.__setattr__"))) (xcl_TooFew : PySem.W.findIn K (.ref C_TooFew) "__class__" = some (some (.builtin "object.__class__"))) (i_NoNumber : PySem.W.findIn K (.ref C_NoNumber) "__init__" = some (some (.builtin "ValueError.__init__"))) (nz_range : PySem.W.nsIn K mainGlobals "range" = some none) (nz_len : PySem.W.nsIn K mainGlobals "len" = some none) (nz_list : PySem.W.nsIn K mainGlobals "list" = some none) (nz_sorted : PySem.W.nsIn K mainGlobals "sorted" = some none) (nz_sum : PySem.W.nsIn K mainGlobals "sum" = some none) (nz_isinstance : PySem.W.nsIn K mainGlobals "isinstance" = some none) (nz_int : PySem.W.nsIn K mainGlobals "int" = some none) (nz_bool : PySem.W.nsIn K mainGlobals "bool" = some none) (nz_ValueError : PySem.W.nsIn K mainGlobals "ValueError" = some none) (nz_min : PySem.W.nsIn K mainGlobals "min" = some none) (nz_tuple : PySem.W.nsIn K mainGlobals "tuple" = some none) (nz_str : PySem.W.nsIn K mainGlobals "str" = some none) (q_ib : PySem.W.kitOne K (.type "int") (.type "bool") = some false) (q_vBadAmount : PySem.W.kitOne K (.ref C_BadAmount) (.type "ValueError") = some true) (q_nBadAmount : PySem.W.kitOne K (.ref C_BadAmount) (.ref C_NoNumber) = some false) (q_kBadAmountBadAmount : PySem.W.kitOne K (.ref C_BadAmount) (.ref C_BadAmount) = some true) (q_kBadAmountNoGoods : PySem.W.kitOne K (.ref C_BadAmount) (.ref C_NoGoods) = some false) (q_kBadAmountTooFew : PySem.W.kitOne K (.ref C_BadAmount) (.ref C_TooFew) = some false) (q_vNoGoods : PySem.W.kitOne K (.ref C_NoGoods) (.type "ValueError") = some true) (q_nNoGoods : PySem.W.kitOne K (.ref C_NoGoods) (.ref C_NoNumber) = some false) (q_kNoGoodsBadAmount : PySem.W.kitOne K (.ref C_NoGoods) (.ref C_BadAmount) = some false) (q_kNoGoodsNoGoods : PySem.W.kitOne K (.ref C_NoGoods) (.ref C_NoGoods) = some true) (q_kNoGoodsTooFew : PySem.W.kitOne K (.ref C_NoGoods) (.ref C_TooFew) = some false) (q_vTooFew : PySem.W.kitOne K (.ref C_TooFew) (.type "ValueError") = some true) (q_nTooFew : PySem.W.kitOne K (.ref C_TooFew) (.ref C_NoNumber) = some false) (q_kTooFewBadAmount : PySem.W.kitOne K (.ref C_TooFew) (.ref C_BadAmount) = some false) (q_kTooFewNoGoods : PySem.W.kitOne K (.ref C_TooFew) (.ref C_NoGoods) = some false) (q_kTooFewTooFew : PySem.W.kitOne K (.ref C_TooFew) (.ref C_TooFew) = some true) (q_mBadAmount : PySem.W.exmOne K (.ref C_BadAmount) (.ref C_BooksError) = some true) (q_mNoGoods : PySem.W.exmOne K (.ref C_NoGoods) (.ref C_BooksError) = some true) (q_mTooFew : PySem.W.exmOne K (.ref C_TooFew) (.ref C_BooksError) = some true) (q_is : PySem.W.kitOne K (.type "int") (.type "str") = some false) (q_nt : PySem.W.kitOne K (.type "NoneType") (.type "tuple") = some false) (pg_Holding : PySem.W.plainGet K C_Holding Str.empty = true) (hd_Holding : PySem.W.hasDictIn K C_Holding = true) (po_Holding : PySem.W.plainOver K C_Holding = true) (sa_Holding : PySem.W.findIn K (.ref C_Holding) "__setattr__" = some (some (.builtin "object.__setattr__"))) (mk_Holding : PySem.W.makesIn K C_Holding = true) (kc_Holding : PySem.W.keepIn K (.ref C_Holding) = true) (pg_Stock : PySem.W.plainGet K C_Stock Str.empty = true) (hd_Stock : PySem.W.hasDictIn K C_Stock = true) (po_Stock : PySem.W.plainOver K C_Stock = true) (sa_Stock : PySem.W.findIn K (.ref C_Stock) "__setattr__" = some (some (.builtin "object.__setattr__"))) (mk_Stock : PySem.W.makesIn K C_Stock = true) (kc_Stock : PySem.W.keepIn K (.ref C_Stock) = true) (n_hlot : PySem.W.findIn K (.ref C_Holding) "lot" = some none) (n_hfirm : PySem.W.findIn K (.ref C_Holding) "firm" = some none) (n_hstart : PySem.W.findIn K (.ref C_Holding) "start" = some none) (n_hstop : PySem.W.findIn K (.ref C_Holding) "stop" = some none) (n_hlayers : PySem.W.findIn K (.ref C_Holding) "layers" = some none) (n_sly : PySem.W.findIn K (.ref C_Stock) "lying" = some none) (n_BadAmountamount : PySem.W.findIn K (.ref C_BadAmount) "amount" = some none) (n_NoGoodsholding : PySem.W.findIn K (.ref C_NoGoods) "holding" = some none) (n_TooFewholding : PySem.W.findIn K (.ref C_TooFew) "holding" = some none) (n_TooFewlack : PySem.W.findIn K (.ref C_TooFew) "lack" = some none) (a_portion : PySem.W.nsIn K mainGlobals "portion" = some (some (.ref f_portion))) (l_portion : K.lookup f_portion = some ⟨oc_portion, od_portion, .func (PySem.W.fnOf "portion" "portion" (defArgs s_portion) (defBody s_portion) (defScope s_portion) .none kV_portion dc_portion pm_portion an_portion cd_portion ct_portion), sl_portion⟩) (c_portion : PySem.W.codeIn K cd_portion "portion" = true) (k_portion : PySem.W.keepIn K (.ref f_portion) = true) (a_layer_cost : PySem.W.nsIn K mainGlobals "layer_cost" = some (some (.ref f_layer_cost))) (l_layer_cost : K.lookup f_layer_cost = some ⟨oc_layer_cost, od_layer_cost, .func (PySem.W.fnOf "layer_cost" "layer_cost" (defArgs s_layer_cost) (defBody s_layer_cost) (defScope s_layer_cost) .none kV_layer_cost dc_layer_cost pm_layer_cost an_layer_cost cd_layer_cost ct_layer_cost), sl_layer_cost⟩) (c_layer_cost : PySem.W.codeIn K cd_layer_cost "layer_cost" = true) (k_layer_cost : PySem.W.keepIn K (.ref f_layer_cost) = true) (a_chain_costs : PySem.W.nsIn K mainGlobals "chain_costs" = some (some (.ref f_chain_costs))) (l_chain_costs : K.lookup f_chain_costs = some ⟨oc_chain_costs, od_chain_costs, .func (PySem.W.fnOf "chain_costs" "chain_costs" (defArgs s_chain_costs) (defBody s_chain_costs) (defScope s_chain_costs) .none kV_chain_costs dc_chain_costs pm_chain_costs an_chain_costs cd_chain_costs ct_chain_costs), sl_chain_costs⟩) (c_chain_costs : PySem.W.codeIn K cd_chain_costs "chain_costs" = true) (k_chain_costs : PySem.W.keepIn K (.ref f_chain_costs) = true) (a_chain_gains : PySem.W.nsIn K mainGlobals "chain_gains" = some (some (.ref f_chain_gains))) (l_chain_gains : K.lookup f_chain_gains = some ⟨oc_chain_gains, od_chain_gains, .func (PySem.W.fnOf "chain_gains" "chain_gains" (defArgs s_chain_gains) (defBody s_chain_gains) (defScope s_chain_gains) .none kV_chain_gains dc_chain_gains pm_chain_gains an_chain_gains cd_chain_gains ct_chain_gains), sl_chain_gains⟩) (c_chain_gains : PySem.W.codeIn K cd_chain_gains "chain_gains" = true) (k_chain_gains : PySem.W.keepIn K (.ref f_chain_gains) = true) (at_Holding___init__ : PySem.W.findIn K (.ref C_Holding) "__init__" = some (some (.ref f_Holding___init__))) (fn_Holding___init__ : PySem.W.isFn K (.ref f_Holding___init__) = true) (l_Holding___init__ : K.lookup f_Holding___init__ = some ⟨oc_Holding___init__, od_Holding___init__, .func (PySem.W.fnOf "__init__" "Holding.__init__" (defArgs s_Holding___init__) (defBody s_Holding___init__) (defScope s_Holding___init__) .none kV_Holding___init__ dc_Holding___init__ pm_Holding___init__ an_Holding___init__ cd_Holding___init__ ct_Holding___init__), sl_Holding___init__⟩) (c_Holding___init__ : PySem.W.codeIn K cd_Holding___init__ "Holding.__init__" = true) (k_Holding___init__ : PySem.W.keepIn K (.ref f_Holding___init__) = true) (at_Holding_pieces : PySem.W.findIn K (.ref C_Holding) "pieces" = some (some (.ref f_Holding_pieces))) (fn_Holding_pieces : PySem.W.isFn K (.ref f_Holding_pieces) = true) (l_Holding_pieces : K.lookup f_Holding_pieces = some ⟨oc_Holding_pieces, od_Holding_pieces, .func (PySem.W.fnOf "pieces" "Holding.pieces" (defArgs s_Holding_pieces) (defBody s_Holding_pieces) (defScope s_Holding_pieces) .none kV_Holding_pieces dc_Holding_pieces pm_Holding_pieces an_Holding_pieces cd_Holding_pieces ct_Holding_pieces), sl_Holding_pieces⟩) (c_Holding_pieces : PySem.W.codeIn K cd_Holding_pieces "Holding.pieces" = true) (k_Holding_pieces : PySem.W.keepIn K (.ref f_Holding_pieces) = true) (at_Holding_front : PySem.W.findIn K (.ref C_Holding) "front" = some (some (.ref f_Holding_front))) (fn_Holding_front : PySem.W.isFn K (.ref f_Holding_front) = true) (l_Holding_front : K.lookup f_Holding_front = some ⟨oc_Holding_front, od_Holding_front, .func (PySem.W.fnOf "front" "Holding.front" (defArgs s_Holding_front) (defBody s_Holding_front) (defScope s_Holding_front) .none kV_Holding_front dc_Holding_front pm_Holding_front an_Holding_front cd_Holding_front ct_Holding_front), sl_Holding_front⟩) (c_Holding_front : PySem.W.codeIn K cd_Holding_front "Holding.front" = true) (k_Holding_front : PySem.W.keepIn K (.ref f_Holding_front) = true) (at_Holding_behind : PySem.W.findIn K (.ref C_Holding) "behind" = some (some (.ref f_Holding_behind))) (fn_Holding_behind : PySem.W.isFn K (.ref f_Holding_behind) = true) (l_Holding_behind : K.lookup f_Holding_behind = some ⟨oc_Holding_behind, od_Holding_behind, .func (PySem.W.fnOf "behind" "Holding.behind" (defArgs s_Holding_behind) (defBody s_Holding_behind) (defScope s_Holding_behind) .none kV_Holding_behind dc_Holding_behind pm_Holding_behind an_Holding_behind cd_Holding_behind ct_Holding_behind), sl_Holding_behind⟩) (c_Holding_behind : PySem.W.codeIn K cd_Holding_behind "Holding.behind" = true) (k_Holding_behind : PySem.W.keepIn K (.ref f_Holding_behind) = true) (at_Stock___init__ : PySem.W.findIn K (.ref C_Stock) "__init__" = some (some (.ref f_Stock___init__))) (fn_Stock___init__ : PySem.W.isFn K (.ref f_Stock___init__) = true) (l_Stock___init__ : K.lookup f_Stock___init__ = some ⟨oc_Stock___init__, od_Stock___init__, .func (PySem.W.fnOf "__init__" "Stock.__init__" (defArgs s_Stock___init__) (defBody s_Stock___init__) (defScope s_Stock___init__) .none kV_Stock___init__ dc_Stock___init__ pm_Stock___init__ an_Stock___init__ cd_Stock___init__ ct_Stock___init__), sl_Stock___init__⟩) (c_Stock___init__ : PySem.W.codeIn K cd_Stock___init__ "Stock.__init__" = true) (k_Stock___init__ : PySem.W.keepIn K (.ref f_Stock___init__) = true) (at_BadAmount__init__ : PySem.W.findIn K (.ref C_BadAmount) "__init__" = some (some (.ref f_BadAmount__init__))) (fn_BadAmount__init__ : PySem.W.isFn K (.ref f_BadAmount__init__) = true) (l_BadAmount__init__ : K.lookup f_BadAmount__init__ = some ⟨oc_BadAmount__init__, od_BadAmount__init__, .func (PySem.W.fnOf "__init__" "BadAmount.__init__" (defArgs s_BadAmount__init__) (defBody s_BadAmount__init__) (defScope s_BadAmount__init__) .none kV_BadAmount__init__ dc_BadAmount__init__ pm_BadAmount__init__ an_BadAmount__init__ cd_BadAmount__init__ ct_BadAmount__init__), sl_BadAmount__init__⟩) (c_BadAmount__init__ : PySem.W.codeIn K cd_BadAmount__init__ "BadAmount.__init__" = true) (k_BadAmount__init__ : PySem.W.keepIn K (.ref f_BadAmount__init__) = true) (at_NoGoods__init__ : PySem.W.findIn K (.ref C_NoGoods) "__init__" = some (some (.ref f_NoGoods__init__))) (fn_NoGoods__init__ : PySem.W.isFn K (.ref f_NoGoods__init__) = true) (l_NoGoods__init__ : K.lookup f_NoGoods__init__ = some ⟨oc_NoGoods__init__, od_NoGoods__init__, .func (PySem.W.fnOf "__init__" "NoGoods.__init__" (defArgs s_NoGoods__init__) (defBody s_NoGoods__init__) (defScope s_NoGoods__init__) .none kV_NoGoods__init__ dc_NoGoods__init__ pm_NoGoods__init__ an_NoGoods__init__ cd_NoGoods__init__ ct_NoGoods__init__), sl_NoGoods__init__⟩) (c_NoGoods__init__ : PySem.W.codeIn K cd_NoGoods__init__ "NoGoods.__init__" = true) (k_NoGoods__init__ : PySem.W.keepIn K (.ref f_NoGoods__init__) = true) (at_TooFew__init__ : PySem.W.findIn K (.ref C_TooFew) "__init__" = some (some (.ref f_TooFew__init__))) (fn_TooFew__init__ : PySem.W.isFn K (.ref f_TooFew__init__) = true) (l_TooFew__init__ : K.lookup f_TooFew__init__ = some ⟨oc_TooFew__init__, od_TooFew__init__, .func (PySem.W.fnOf "__init__" "TooFew.__init__" (defArgs s_TooFew__init__) (defBody s_TooFew__init__) (defScope s_TooFew__init__) .none kV_TooFew__init__ dc_TooFew__init__ pm_TooFew__init__ an_TooFew__init__ cd_TooFew__init__ ct_TooFew__init__), sl_TooFew__init__⟩) (c_TooFew__init__ : PySem.W.codeIn K cd_TooFew__init__ "TooFew.__init__" = true) (k_TooFew__init__ : PySem.W.keepIn K (.ref f_TooFew__init__) = true) (at_Stock_bring : PySem.W.findIn K (.ref C_Stock) "bring" = some (some (.ref f_Stock_bring))) (fn_Stock_bring : PySem.W.isFn K (.ref f_Stock_bring) = true) (l_Stock_bring : K.lookup f_Stock_bring = some ⟨oc_Stock_bring, od_Stock_bring, .func (PySem.W.fnOf "bring" "Stock.bring" (defArgs s_Stock_bring) (defBody s_Stock_bring) (defScope s_Stock_bring) .none kV_Stock_bring dc_Stock_bring pm_Stock_bring an_Stock_bring cd_Stock_bring ct_Stock_bring), sl_Stock_bring⟩) (c_Stock_bring : PySem.W.codeIn K cd_Stock_bring "Stock.bring" = true) (k_Stock_bring : PySem.W.keepIn K (.ref f_Stock_bring) = true) (at_Stock_taken : PySem.W.findIn K (.ref C_Stock) "taken" = some (some (.ref f_Stock_taken))) (fn_Stock_taken : PySem.W.isFn K (.ref f_Stock_taken) = true) (l_Stock_taken : K.lookup f_Stock_taken = some ⟨oc_Stock_taken, od_Stock_taken, .func (PySem.W.fnOf "taken" "Stock.taken" (defArgs s_Stock_taken) (defBody s_Stock_taken) (defScope s_Stock_taken) .none kV_Stock_taken dc_Stock_taken pm_Stock_taken an_Stock_taken cd_Stock_taken ct_Stock_taken), sl_Stock_taken⟩) (c_Stock_taken : PySem.W.codeIn K cd_Stock_taken "Stock.taken" = true) (k_Stock_taken : PySem.W.keepIn K (.ref f_Stock_taken) = true) (at_Stock_sell : PySem.W.findIn K (.ref C_Stock) "sell" = some (some (.ref f_Stock_sell))) (fn_Stock_sell : PySem.W.isFn K (.ref f_Stock_sell) = true) (l_Stock_sell : K.lookup f_Stock_sell = some ⟨oc_Stock_sell, od_Stock_sell, .func (PySem.W.fnOf "sell" "Stock.sell" (defArgs s_Stock_sell) (defBody s_Stock_sell) (defScope s_Stock_sell) .none kV_Stock_sell dc_Stock_sell pm_Stock_sell an_Stock_sell cd_Stock_sell ct_Stock_sell), sl_Stock_sell⟩) (c_Stock_sell : PySem.W.codeIn K cd_Stock_sell "Stock.sell" = true) (k_Stock_sell : PySem.W.keepIn K (.ref f_Stock_sell) = true) (at_Stock_hand : PySem.W.findIn K (.ref C_Stock) "hand" = some (some (.ref f_Stock_hand))) (fn_Stock_hand : PySem.W.isFn K (.ref f_Stock_hand) = true) (l_Stock_hand : K.lookup f_Stock_hand = some ⟨oc_Stock_hand, od_Stock_hand, .func (PySem.W.fnOf "hand" "Stock.hand" (defArgs s_Stock_hand) (defBody s_Stock_hand) (defScope s_Stock_hand) .none kV_Stock_hand dc_Stock_hand pm_Stock_hand an_Stock_hand cd_Stock_hand ct_Stock_hand), sl_Stock_hand⟩) (c_Stock_hand : PySem.W.codeIn K cd_Stock_hand "Stock.hand" = true) (k_Stock_hand : PySem.W.keepIn K (.ref f_Stock_hand) = true) (at_Stock_holdings : PySem.W.findIn K (.ref C_Stock) "holdings" = some (some (.ref f_Stock_holdings))) (fn_Stock_holdings : PySem.W.isFn K (.ref f_Stock_holdings) = true) (l_Stock_holdings : K.lookup f_Stock_holdings = some ⟨oc_Stock_holdings, od_Stock_holdings, .func (PySem.W.fnOf "holdings" "Stock.holdings" (defArgs s_Stock_holdings) (defBody s_Stock_holdings) (defScope s_Stock_holdings) .none kV_Stock_holdings dc_Stock_holdings pm_Stock_holdings an_Stock_holdings cd_Stock_holdings ct_Stock_holdings), sl_Stock_holdings⟩) (c_Stock_holdings : PySem.W.codeIn K cd_Stock_holdings "Stock.holdings" = true) (k_Stock_holdings : PySem.W.keepIn K (.ref f_Stock_holdings) = true) (at_Holding_costs : PySem.W.findIn K (.ref C_Holding) "costs" = some (some (.ref f_Holding_costs))) (fn_Holding_costs : PySem.W.isFn K (.ref f_Holding_costs) = true) (l_Holding_costs : K.lookup f_Holding_costs = some ⟨oc_Holding_costs, od_Holding_costs, .func (PySem.W.fnOf "costs" "Holding.costs" (defArgs s_Holding_costs) (defBody s_Holding_costs) (defScope s_Holding_costs) .none kV_Holding_costs dc_Holding_costs pm_Holding_costs an_Holding_costs cd_Holding_costs ct_Holding_costs), sl_Holding_costs⟩) (c_Holding_costs : PySem.W.codeIn K cd_Holding_costs "Holding.costs" = true) (k_Holding_costs : PySem.W.keepIn K (.ref f_Holding_costs) = true) (at_Holding_gains : PySem.W.findIn K (.ref C_Holding) "gains" = some (some (.ref f_Holding_gains))) (fn_Holding_gains : PySem.W.isFn K (.ref f_Holding_gains) = true) (l_Holding_gains : K.lookup f_Holding_gains = some ⟨oc_Holding_gains, od_Holding_gains, .func (PySem.W.fnOf "gains" "Holding.gains" (defArgs s_Holding_gains) (defBody s_Holding_gains) (defScope s_Holding_gains) .none kV_Holding_gains dc_Holding_gains pm_Holding_gains an_Holding_gains cd_Holding_gains ct_Holding_gains), sl_Holding_gains⟩) (c_Holding_gains : PySem.W.codeIn K cd_Holding_gains "Holding.gains" = true) (k_Holding_gains : PySem.W.keepIn K (.ref f_Holding_gains) = true) (at_Stock_goods_of : PySem.W.findIn K (.ref C_Stock) "goods_of" = some (some (.ref f_Stock_goods_of))) (fn_Stock_goods_of : PySem.W.isFn K (.ref f_Stock_goods_of) = true) (l_Stock_goods_of : K.lookup f_Stock_goods_of = some ⟨oc_Stock_goods_of, od_Stock_goods_of, .func (PySem.W.fnOf "goods_of" "Stock.goods_of" (defArgs s_Stock_goods_of) (defBody s_Stock_goods_of) (defScope s_Stock_goods_of) .none kV_Stock_goods_of dc_Stock_goods_of pm_Stock_goods_of an_Stock_goods_of cd_Stock_goods_of ct_Stock_goods_of), sl_Stock_goods_of⟩) (c_Stock_goods_of : PySem.W.codeIn K cd_Stock_goods_of "Stock.goods_of" = true) (k_Stock_goods_of : PySem.W.keepIn K (.ref f_Stock_goods_of) = true) (at_Stock_unmade : PySem.W.findIn K (.ref C_Stock) "unmade" = some (some (.ref f_Stock_unmade))) (fn_Stock_unmade : PySem.W.isFn K (.ref f_Stock_unmade) = true) (l_Stock_unmade : K.lookup f_Stock_unmade = some ⟨oc_Stock_unmade, od_Stock_unmade, .func (PySem.W.fnOf "unmade" "Stock.unmade" (defArgs s_Stock_unmade) (defBody s_Stock_unmade) (defScope s_Stock_unmade) .none kV_Stock_unmade dc_Stock_unmade pm_Stock_unmade an_Stock_unmade cd_Stock_unmade ct_Stock_unmade), sl_Stock_unmade⟩) (c_Stock_unmade : PySem.W.codeIn K cd_Stock_unmade "Stock.unmade" = true) (k_Stock_unmade : PySem.W.keepIn K (.ref f_Stock_unmade) = true) (a__law_cell : PySem.W.nsIn K mainGlobals "_law_cell" = some (some (.ref f__law_cell))) (l__law_cell : K.lookup f__law_cell = some ⟨oc__law_cell, od__law_cell, .func (PySem.W.fnOf "_law_cell" "_law_cell" (defArgs s__law_cell) (defBody s__law_cell) (defScope s__law_cell) .none kV__law_cell dc__law_cell pm__law_cell an__law_cell cd__law_cell ct__law_cell), sl__law_cell⟩) (c__law_cell : PySem.W.codeIn K cd__law_cell "_law_cell" = true) (k__law_cell : PySem.W.keepIn K (.ref f__law_cell) = true) (a__law_draw : PySem.W.nsIn K mainGlobals "_law_draw" = some (some (.ref f__law_draw))) (l__law_draw : K.lookup f__law_draw = some ⟨oc__law_draw, od__law_draw, .func (PySem.W.fnOf "_law_draw" "_law_draw" (defArgs s__law_draw) (defBody s__law_draw) (defScope s__law_draw) .none kV__law_draw dc__law_draw pm__law_draw an__law_draw cd__law_draw ct__law_draw), sl__law_draw⟩) (c__law_draw : PySem.W.codeIn K cd__law_draw "_law_draw" = true) (k__law_draw : PySem.W.keepIn K (.ref f__law_draw) = true) (a__law_names : PySem.W.nsIn K mainGlobals "_law_names" = some (some (.ref f__law_names))) (l__law_names : K.lookup f__law_names = some ⟨oc__law_names, od__law_names, .func (PySem.W.fnOf "_law_names" "_law_names" (defArgs s__law_names) (defBody s__law_names) (defScope s__law_names) .none kV__law_names dc__law_names pm__law_names an__law_names cd__law_names ct__law_names), sl__law_names⟩) (c__law_names : PySem.W.codeIn K cd__law_names "_law_names" = true) (k__law_names : PySem.W.keepIn K (.ref f__law_names) = true) (a__law_whole : PySem.W.nsIn K mainGlobals "_law_whole" = some (some (.ref f__law_whole))) (l__law_whole : K.lookup f__law_whole = some ⟨oc__law_whole, od__law_whole, .func (PySem.W.fnOf "_law_whole" "_law_whole" (defArgs s__law_whole) (defBody s__law_whole) (defScope s__law_whole) .none kV__law_whole dc__law_whole pm__law_whole an__law_whole cd__law_whole ct__law_whole), sl__law_whole⟩) (c__law_whole : PySem.W.codeIn K cd__law_whole "_law_whole" = true) (k__law_whole : PySem.W.keepIn K (.ref f__law_whole) = true) (a__law_refusal : PySem.W.nsIn K mainGlobals "_law_refusal" = some (some (.ref f__law_refusal))) (l__law_refusal : K.lookup f__law_refusal = some ⟨oc__law_refusal, od__law_refusal, .func (PySem.W.fnOf "_law_refusal" "_law_refusal" (defArgs s__law_refusal) (defBody s__law_refusal) (defScope s__law_refusal) .none kV__law_refusal dc__law_refusal pm__law_refusal an__law_refusal cd__law_refusal ct__law_refusal), sl__law_refusal⟩) (c__law_refusal : PySem.W.codeIn K cd__law_refusal "_law_refusal" = true) (k__law_refusal : PySem.W.keepIn K (.ref f__law_refusal) = true) (a__law_asked : PySem.W.nsIn K mainGlobals "_law_asked" = some (some (.ref f__law_asked))) (l__law_asked : K.lookup f__law_asked = some ⟨oc__law_asked, od__law_asked, .func (PySem.W.fnOf "_law_asked" "_law_asked" (defArgs s__law_asked) (defBody s__law_asked) (defScope s__law_asked) .none kV__law_asked dc__law_asked pm__law_asked an__law_asked cd__law_asked ct__law_asked), sl__law_asked⟩) (c__law_asked : PySem.W.codeIn K cd__law_asked "_law_asked" = true) (k__law_asked : PySem.W.keepIn K (.ref f__law_asked) = true) (a__law_due : PySem.W.nsIn K mainGlobals "_law_due" = some (some (.ref f__law_due))) (l__law_due : K.lookup f__law_due = some ⟨oc__law_due, od__law_due, .func (PySem.W.fnOf "_law_due" "_law_due" (defArgs s__law_due) (defBody s__law_due) (defScope s__law_due) .none kV__law_due dc__law_due pm__law_due an__law_due cd__law_due ct__law_due), sl__law_due⟩) (c__law_due : PySem.W.codeIn K cd__law_due "_law_due" = true) (k__law_due : PySem.W.keepIn K (.ref f__law_due) = true) (a__law_done : PySem.W.nsIn K mainGlobals "_law_done" = some (some (.ref f__law_done))) (l__law_done : K.lookup f__law_done = some ⟨oc__law_done, od__law_done, .func (PySem.W.fnOf "_law_done" "_law_done" (defArgs s__law_done) (defBody s__law_done) (defScope s__law_done) .none kV__law_done dc__law_done pm__law_done an__law_done cd__law_done ct__law_done), sl__law_done⟩) (c__law_done : PySem.W.codeIn K cd__law_done "_law_done" = true) (k__law_done : PySem.W.keepIn K (.ref f__law_done) = true) (a__law_held : PySem.W.nsIn K mainGlobals "_law_held" = some (some (.ref f__law_held))) (l__law_held : K.lookup f__law_held = some ⟨oc__law_held, od__law_held, .func (PySem.W.fnOf "_law_held" "_law_held" (defArgs s__law_held) (defBody s__law_held) (defScope s__law_held) .none kV__law_held dc__law_held pm__law_held an__law_held cd__law_held ct__law_held), sl__law_held⟩) (c__law_held : PySem.W.codeIn K cd__law_held "_law_held" = true) (k__law_held : PySem.W.keepIn K (.ref f__law_held) = true) (a__law_costs : PySem.W.nsIn K mainGlobals "_law_costs" = some (some (.ref f__law_costs))) (l__law_costs : K.lookup f__law_costs = some ⟨oc__law_costs, od__law_costs, .func (PySem.W.fnOf "_law_costs" "_law_costs" (defArgs s__law_costs) (defBody s__law_costs) (defScope s__law_costs) .none kV__law_costs dc__law_costs pm__law_costs an__law_costs cd__law_costs ct__law_costs), sl__law_costs⟩) (c__law_costs : PySem.W.codeIn K cd__law_costs "_law_costs" = true) (k__law_costs : PySem.W.keepIn K (.ref f__law_costs) = true) (a__law_sums : PySem.W.nsIn K mainGlobals "_law_sums" = some (some (.ref f__law_sums))) (l__law_sums : K.lookup f__law_sums = some ⟨oc__law_sums, od__law_sums, .func (PySem.W.fnOf "_law_sums" "_law_sums" (defArgs s__law_sums) (defBody s__law_sums) (defScope s__law_sums) .none kV__law_sums dc__law_sums pm__law_sums an__law_sums cd__law_sums ct__law_sums), sl__law_sums⟩) (c__law_sums : PySem.W.codeIn K cd__law_sums "_law_sums" = true) (k__law_sums : PySem.W.keepIn K (.ref f__law_sums) = true) (a__law_summed : PySem.W.nsIn K mainGlobals "_law_summed" = some (some (.ref f__law_summed))) (l__law_summed : K.lookup f__law_summed = some ⟨oc__law_summed, od__law_summed, .func (PySem.W.fnOf "_law_summed" "_law_summed" (defArgs s__law_summed) (defBody s__law_summed) (defScope s__law_summed) .none kV__law_summed dc__law_summed pm__law_summed an__law_summed cd__law_summed ct__law_summed), sl__law_summed⟩) (c__law_summed : PySem.W.codeIn K cd__law_summed "_law_summed" = true) (k__law_summed : PySem.W.keepIn K (.ref f__law_summed) = true) (a__law_many : PySem.W.nsIn K mainGlobals "_law_many" = some (some (.ref f__law_many))) (l__law_many : K.lookup f__law_many = some ⟨oc__law_many, od__law_many, .func (PySem.W.fnOf "_law_many" "_law_many" (defArgs s__law_many) (defBody s__law_many) (defScope s__law_many) .none kV__law_many dc__law_many pm__law_many an__law_many cd__law_many ct__law_many), sl__law_many⟩) (c__law_many : PySem.W.codeIn K cd__law_many "_law_many" = true) (k__law_many : PySem.W.keepIn K (.ref f__law_many) = true) (a__law_deed : PySem.W.nsIn K mainGlobals "_law_deed" = some (some (.ref f__law_deed))) (l__law_deed : K.lookup f__law_deed = some ⟨oc__law_deed, od__law_deed, .func (PySem.W.fnOf "_law_deed" "_law_deed" (defArgs s__law_deed) (defBody s__law_deed) (defScope s__law_deed) .none kV__law_deed dc__law_deed pm__law_deed an__law_deed cd__law_deed ct__law_deed), sl__law_deed⟩) (c__law_deed : PySem.W.codeIn K cd__law_deed "_law_deed" = true) (k__law_deed : PySem.W.keepIn K (.ref f__law_deed) = true) (a__law_alike : PySem.W.nsIn K mainGlobals "_law_alike" = some (some (.ref f__law_alike))) (l__law_alike : K.lookup f__law_alike = some ⟨oc__law_alike, od__law_alike, .func (PySem.W.fnOf "_law_alike" "_law_alike" (defArgs s__law_alike) (defBody s__law_alike) (defScope s__law_alike) .none kV__law_alike dc__law_alike pm__law_alike an__law_alike cd__law_alike ct__law_alike), sl__law_alike⟩) (c__law_alike : PySem.W.codeIn K cd__law_alike "_law_alike" = true) (k__law_alike : PySem.W.keepIn K (.ref f__law_alike) = true) (a_law : PySem.W.nsIn K mainGlobals "law" = some (some (.ref f_law))) (l_law : K.lookup f_law = some ⟨oc_law, od_law, .func (PySem.W.fnOf "law" "law" (defArgs s_law) (defBody s_law) (defScope s_law) .none kV_law dc_law pm_law an_law cd_law ct_law), sl_law⟩) (c_law : PySem.W.codeIn K cd_law "law" = true) (k_law : PySem.W.keepIn K (.ref f_law) = true) :
   ∃ fd : FuncData, (∀ (s : Shared) (v : Value), BindsTo s fd ⟨[v], []⟩ [("_law_script", v)]) ∧ ∀ base : Heap, K.In base → base.Ns mainGlobals mg → FnOk l.prog w K mg base CX0 true 8 fa fd ["_law_script"] (spLaw K) := by
 have e := hfa.symm.trans (PySem.W.mg_of X G a_law)
 cases e
 have m_BadAmount := PySem.W.mg_of X G a_BadAmount
 have m_BooksError := PySem.W.mg_of X G a_BooksError
 have m_Holding := PySem.W.mg_of X G a_Holding
 have m_NoGoods := PySem.W.mg_of X G a_NoGoods
 have m_NoNumber := PySem.W.mg_of X G a_NoNumber
 have m_Stock := PySem.W.mg_of X G a_Stock
 have m_TooFew := PySem.W.mg_of X G a_TooFew
 have X_NoNumber : XCls K C_NoNumber := ⟨xs_NoNumber, xga_NoNumber, xgh_NoNumber, xsa_NoNumber, xcl_NoNumber⟩
 have X_BadAmount : XCls K C_BadAmount := ⟨xs_BadAmount, xga_BadAmount, xgh_BadAmount, xsa_BadAmount, xcl_BadAmount⟩
 have X_NoGoods : XCls K C_NoGoods := ⟨xs_NoGoods, xga_NoGoods, xgh_NoGoods, xsa_NoGoods, xcl_NoGoods⟩
 have X_TooFew : XCls K C_TooFew := ⟨xs_TooFew, xga_TooFew, xgh_TooFew, xsa_TooFew, xcl_TooFew⟩
 have z_range := PySem.W.mg_none_of X G nz_range
 have z_len := PySem.W.mg_none_of X G nz_len
 have z_list := PySem.W.mg_none_of X G nz_list
 have z_sorted := PySem.W.mg_none_of X G nz_sorted
 have z_sum := PySem.W.mg_none_of X G nz_sum
 have z_isinstance := PySem.W.mg_none_of X G nz_isinstance
 have z_int := PySem.W.mg_none_of X G nz_int
 have z_bool := PySem.W.mg_none_of X G nz_bool
 have z_ValueError := PySem.W.mg_none_of X G nz_ValueError
 have z_min := PySem.W.mg_none_of X G nz_min
 have z_tuple := PySem.W.mg_none_of X G nz_tuple
 have z_str := PySem.W.mg_none_of X G nz_str
 have cl_Holding : Cls K C_Holding := ⟨pg_Holding, hd_Holding, po_Holding, sa_Holding⟩
 have cl_Stock : Cls K C_Stock := ⟨pg_Stock, hd_Stock, po_Stock, sa_Stock⟩
 refine ⟨PySem.W.fnOf "law" "law" (defArgs s_law) (defBody s_law) (defScope s_law) .none kV_law dc_law pm_law an_law cd_law ct_law, fun s v => .of_eq rfl, fun base _ _ => ?_⟩
 have q_portion := ok_portion (P := l.prog) (w := w) (base := base) ⟨f_portion, _, funD_mk (st := s_portion) l_portion c_portion k_portion, PySem.W.mg_of X G a_portion⟩ m_NoNumber X_NoNumber i_NoNumber
 have q_layer_cost := ok_layer_cost (P := l.prog) (w := w) (base := base) ⟨f_layer_cost, _, funD_mk (st := s_layer_cost) l_layer_cost c_layer_cost k_layer_cost, PySem.W.mg_of X G a_layer_cost⟩ q_portion
 have q_chain_costs := ok_chain_costs (P := l.prog) (w := w) (base := base) ⟨f_chain_costs, _, funD_mk (st := s_chain_costs) l_chain_costs c_chain_costs k_chain_costs, PySem.W.mg_of X G a_chain_costs⟩ q_layer_cost
 have q_chain_gains := ok_chain_gains (P := l.prog) (w := w) (base := base) ⟨f_chain_gains, _, funD_mk (st := s_chain_gains) l_chain_gains c_chain_gains k_chain_gains, PySem.W.mg_of X G a_chain_gains⟩ q_chain_costs z_range z_len
 have q_Holding___init__ := ok_Holding___init__ (P := l.prog) (w := w) (mg := mg) (base := base) ⟨f_Holding___init__, _, funD_mk (st := s_Holding___init__) l_Holding___init__ c_Holding___init__ k_Holding___init__, ⟨mk_Holding, at_Holding___init__, fn_Holding___init__, kc_Holding⟩⟩ z_list cl_Holding n_hlot n_hfirm n_hstart n_hstop n_hlayers
 have q_Holding_pieces := ok_Holding_pieces (P := l.prog) (w := w) (mg := mg) (base := base) (cm := true) ⟨f_Holding_pieces, _, funD_mk (st := s_Holding_pieces) l_Holding_pieces c_Holding_pieces k_Holding_pieces, ⟨at_Holding_pieces, fn_Holding_pieces, k_Holding_pieces⟩⟩ cl_Holding n_hlot n_hfirm n_hstart n_hstop n_hlayers
 have q_Holding_front := ok_Holding_front (P := l.prog) (w := w) (mg := mg) (base := base) ⟨f_Holding_front, _, funD_mk (st := s_Holding_front) l_Holding_front c_Holding_front k_Holding_front, ⟨at_Holding_front, fn_Holding_front, k_Holding_front⟩⟩ z_list cl_Holding n_hlot n_hfirm n_hstart n_hstop n_hlayers
 have q_Holding_behind := ok_Holding_behind (P := l.prog) (w := w) (mg := mg) (base := base) ⟨f_Holding_behind, _, funD_mk (st := s_Holding_behind) l_Holding_behind c_Holding_behind k_Holding_behind, ⟨at_Holding_behind, fn_Holding_behind, k_Holding_behind⟩⟩ q_Holding___init__ m_Holding cl_Holding n_hlot n_hfirm n_hstart n_hstop n_hlayers
 have q_Stock___init__ := ok_Stock___init__ (P := l.prog) (w := w) (mg := mg) (base := base) ⟨f_Stock___init__, _, funD_mk (st := s_Stock___init__) l_Stock___init__ c_Stock___init__ k_Stock___init__, ⟨mk_Stock, at_Stock___init__, fn_Stock___init__, kc_Stock⟩⟩ cl_Stock n_sly cl_Holding
 have q_BadAmount__init__ := ok_BadAmount__init__ (P := l.prog) (w := w) (mg := mg) (base := base) X_BadAmount n_BadAmountamount ⟨f_BadAmount__init__, _, funD_mk (st := s_BadAmount__init__) l_BadAmount__init__ c_BadAmount__init__ k_BadAmount__init__, at_BadAmount__init__, fn_BadAmount__init__⟩
 have q_NoGoods__init__ := ok_NoGoods__init__ (P := l.prog) (w := w) (mg := mg) (base := base) X_NoGoods n_NoGoodsholding ⟨f_NoGoods__init__, _, funD_mk (st := s_NoGoods__init__) l_NoGoods__init__ c_NoGoods__init__ k_NoGoods__init__, at_NoGoods__init__, fn_NoGoods__init__⟩
 have q_TooFew__init__ := ok_TooFew__init__ (P := l.prog) (w := w) (mg := mg) (base := base) X_TooFew n_TooFewholding n_TooFewlack ⟨f_TooFew__init__, _, funD_mk (st := s_TooFew__init__) l_TooFew__init__ c_TooFew__init__ k_TooFew__init__, at_TooFew__init__, fn_TooFew__init__⟩
 have q_Stock_bring := ok_Stock_bring (P := l.prog) (w := w) (mg := mg) (base := base) ⟨f_Stock_bring, _, funD_mk (st := s_Stock_bring) l_Stock_bring c_Stock_bring k_Stock_bring, ⟨at_Stock_bring, fn_Stock_bring, k_Stock_bring⟩⟩ q_BadAmount__init__ q_Holding___init__ m_BadAmount m_Holding X_BadAmount cl_Stock n_sly
 have q_Stock_taken := ok_Stock_taken (P := l.prog) (w := w) (mg := mg) (base := base) ⟨f_Stock_taken, _, funD_mk (st := s_Stock_taken) l_Stock_taken c_Stock_taken k_Stock_taken, ⟨at_Stock_taken, fn_Stock_taken, k_Stock_taken⟩⟩ q_BadAmount__init__ q_NoGoods__init__ q_Holding_pieces q_TooFew__init__ q_Holding_front m_BadAmount m_NoGoods m_TooFew X_BadAmount X_NoGoods X_TooFew cl_Stock n_sly cl_Holding n_hfirm
 have q_Stock_sell := ok_Stock_sell (P := l.prog) (w := w) (mg := mg) (base := base) ⟨f_Stock_sell, _, funD_mk (st := s_Stock_sell) l_Stock_sell c_Stock_sell k_Stock_sell, ⟨at_Stock_sell, fn_Stock_sell, k_Stock_sell⟩⟩ q_Stock_taken q_Holding_behind q_Holding_pieces cl_Stock n_sly cl_Holding
 have q_Stock_hand := ok_Stock_hand (P := l.prog) (w := w) (mg := mg) (base := base) ⟨f_Stock_hand, _, funD_mk (st := s_Stock_hand) l_Stock_hand c_Stock_hand k_Stock_hand, ⟨at_Stock_hand, fn_Stock_hand, k_Stock_hand⟩⟩ q_Stock_sell q_Holding___init__ m_Holding cl_Stock n_sly
 have q_Stock_holdings := ok_Stock_holdings (P := l.prog) (w := w) (mg := mg) (base := base) ⟨f_Stock_holdings, _, funD_mk (st := s_Stock_holdings) l_Stock_holdings c_Stock_holdings k_Stock_holdings, ⟨at_Stock_holdings, fn_Stock_holdings, k_Stock_holdings⟩⟩ z_sorted z_list cl_Stock n_sly cl_Holding n_hlot n_hfirm n_hstart n_hstop n_hlayers
 have q_Holding_costs := ok_Holding_costs (P := l.prog) (w := w) (mg := mg) (base := base) ⟨f_Holding_costs, _, funD_mk (st := s_Holding_costs) l_Holding_costs c_Holding_costs k_Holding_costs, ⟨at_Holding_costs, fn_Holding_costs, k_Holding_costs⟩⟩ q_chain_costs cl_Holding n_hstart n_hstop n_hlayers
 have q_Holding_gains := ok_Holding_gains (P := l.prog) (w := w) (mg := mg) (base := base) ⟨f_Holding_gains, _, funD_mk (st := s_Holding_gains) l_Holding_gains c_Holding_gains k_Holding_gains, ⟨at_Holding_gains, fn_Holding_gains, k_Holding_gains⟩⟩ q_chain_gains cl_Holding n_hstart n_hstop n_hlayers
 have q_Stock_goods_of := ok_Stock_goods_of (P := l.prog) (w := w) (mg := mg) (base := base) ⟨f_Stock_goods_of, _, funD_mk (st := s_Stock_goods_of) l_Stock_goods_of c_Stock_goods_of k_Stock_goods_of, ⟨at_Stock_goods_of, fn_Stock_goods_of, k_Stock_goods_of⟩⟩ q_Holding_costs z_sum cl_Stock n_sly cl_Holding n_hfirm
 have q_Stock_unmade := ok_Stock_unmade (P := l.prog) (w := w) (mg := mg) (base := base) ⟨f_Stock_unmade, _, funD_mk (st := s_Stock_unmade) l_Stock_unmade c_Stock_unmade k_Stock_unmade, ⟨at_Stock_unmade, fn_Stock_unmade, k_Stock_unmade⟩⟩ q_Holding_gains z_sum cl_Stock n_sly cl_Holding
 have q__law_cell := ok__law_cell (P := l.prog) (w := w) (base := base) (cm := true) ⟨f__law_cell, _, funD_mk (st := s__law_cell) l__law_cell c__law_cell k__law_cell, PySem.W.mg_of X G a__law_cell⟩ z_len
 have q__law_draw := ok__law_draw (P := l.prog) (w := w) (base := base) (cm := true) ⟨f__law_draw, _, funD_mk (st := s__law_draw) l__law_draw c__law_draw k__law_draw, PySem.W.mg_of X G a__law_draw⟩
 have q__law_names := ok__law_names (P := l.prog) (w := w) (base := base) ⟨f__law_names, _, funD_mk (st := s__law_names) l__law_names c__law_names k__law_names, PySem.W.mg_of X G a__law_names⟩ z_range
 have q__law_whole := ok__law_whole (P := l.prog) (w := w) (base := base) (cm := true) ⟨f__law_whole, _, funD_mk (st := s__law_whole) l__law_whole c__law_whole k__law_whole, PySem.W.mg_of X G a__law_whole⟩ z_isinstance z_int z_bool q_ib
 have q__law_refusalF := ok__law_refusal (P := l.prog) (w := w) (base := base) (cm := false) ⟨f__law_refusal, _, funD_mk (st := s__law_refusal) l__law_refusal c__law_refusal k__law_refusal, PySem.W.mg_of X G a__law_refusal⟩ z_isinstance z_ValueError m_NoNumber m_BadAmount m_NoGoods m_TooFew X_BadAmount X_NoGoods X_TooFew q_vBadAmount q_nBadAmount q_kBadAmountBadAmount q_kBadAmountNoGoods q_kBadAmountTooFew n_BadAmountamount q_vNoGoods q_nNoGoods q_kNoGoodsBadAmount q_kNoGoodsNoGoods q_kNoGoodsTooFew n_NoGoodsholding q_vTooFew q_nTooFew q_kTooFewBadAmount q_kTooFewNoGoods q_kTooFewTooFew n_TooFewholding n_TooFewlack
 have q__law_refusal := ok__law_refusal (P := l.prog) (w := w) (base := base) (cm := true) ⟨f__law_refusal, _, funD_mk (st := s__law_refusal) l__law_refusal c__law_refusal k__law_refusal, PySem.W.mg_of X G a__law_refusal⟩ z_isinstance z_ValueError m_NoNumber m_BadAmount m_NoGoods m_TooFew X_BadAmount X_NoGoods X_TooFew q_vBadAmount q_nBadAmount q_kBadAmountBadAmount q_kBadAmountNoGoods q_kBadAmountTooFew n_BadAmountamount q_vNoGoods q_nNoGoods q_kNoGoodsBadAmount q_kNoGoodsNoGoods q_kNoGoodsTooFew n_NoGoodsholding q_vTooFew q_nTooFew q_kTooFewBadAmount q_kTooFewNoGoods q_kTooFewTooFew n_TooFewholding n_TooFewlack
 have q__law_asked := ok__law_asked (P := l.prog) (w := w) (base := base) ⟨f__law_asked, _, funD_mk (st := s__law_asked) l__law_asked c__law_asked k__law_asked, PySem.W.mg_of X G a__law_asked⟩ q_Stock_bring q_Stock_taken q_Stock_sell q_Stock_hand q__law_refusalF m_BooksError q_mBadAmount q_mNoGoods q_mTooFew cl_Stock
 have q__law_due := ok__law_due (P := l.prog) (w := w) (base := base) ⟨f__law_due, _, funD_mk (st := s__law_due) l__law_due c__law_due k__law_due, PySem.W.mg_of X G a__law_due⟩ z_list
 have q__law_done := ok__law_done (P := l.prog) (w := w) (base := base) ⟨f__law_done, _, funD_mk (st := s__law_done) l__law_done c__law_done k__law_done, PySem.W.mg_of X G a__law_done⟩
 have q__law_held := ok__law_held (P := l.prog) (w := w) (base := base) ⟨f__law_held, _, funD_mk (st := s__law_held) l__law_held c__law_held k__law_held, PySem.W.mg_of X G a__law_held⟩ z_sorted z_list
 have q__law_costs := ok__law_costs (P := l.prog) (w := w) (base := base) ⟨f__law_costs, _, funD_mk (st := s__law_costs) l__law_costs c__law_costs k__law_costs, PySem.W.mg_of X G a__law_costs⟩
 have q__law_sums := ok__law_sums (P := l.prog) (w := w) (base := base) ⟨f__law_sums, _, funD_mk (st := s__law_sums) l__law_sums c__law_sums k__law_sums, PySem.W.mg_of X G a__law_sums⟩ q__law_costs z_range z_len
 have q__law_summed := ok__law_summed (P := l.prog) (w := w) (base := base) ⟨f__law_summed, _, funD_mk (st := s__law_summed) l__law_summed c__law_summed k__law_summed, PySem.W.mg_of X G a__law_summed⟩ q__law_sums q__law_draw q_Stock_unmade q_Stock_goods_of cl_Stock
 have q__law_many := ok__law_many (P := l.prog) (w := w) (base := base) ⟨f__law_many, _, funD_mk (st := s__law_many) l__law_many c__law_many k__law_many, PySem.W.mg_of X G a__law_many⟩ q__law_draw z_min
 have q__law_deed := ok__law_deed (P := l.prog) (w := w) (base := base) ⟨f__law_deed, _, funD_mk (st := s__law_deed) l__law_deed c__law_deed k__law_deed, PySem.W.mg_of X G a__law_deed⟩ q__law_draw q__law_many z_len
 have q__law_alike := ok__law_alike (P := l.prog) (w := w) (base := base) ⟨f__law_alike, _, funD_mk (st := s__law_alike) l__law_alike c__law_alike k__law_alike, PySem.W.mg_of X G a__law_alike⟩ q__law_whole z_isinstance z_tuple z_str z_list q_is q_nt
 exact ok_law (P := l.prog) (w := w) (base := base) (funD_mk (st := s_law) l_law c_law k_law) q__law_names q__law_cell q_Stock___init__ q__law_deed q__law_due q__law_asked q__law_alike q__law_done q_Stock_holdings q__law_held q__law_summed q__law_draw z_isinstance z_list m_Stock cl_Stock
theorem walk {l : PySem.W.OpenLaw} {q : Program} {loose : List Str} {XP : (Str → Option Value) → Heap → Prop} {YP : World → Heap → Prop} {d : DefRec} {K : Params → PySem.W.Frag} (hn : l.most = some 63) (hdf : d.params.defaults = [])
   (hY : ∀ (w : World) (h : Heap), YP w h → (K w.params).In h)
   (F : ∀ (w : World) (mg : Str → Option Value) (fa : Addr) (h : Heap), (K w.params).In h → h.Ns mainGlobals mg → mg d.name = some (.ref fa) →
     ∃ fd : FuncData, (∀ (s : Shared) (u : Value), BindsTo s fd ⟨[u], []⟩ [("_law_script", u)]) ∧ ∀ base : Heap, (K w.params).In base → base.Ns mainGlobals mg → FnOk l.prog w (K w.params) mg base CX0 true 8 fa fd ["_law_script"] (spLaw (K w.params))) :
   PySem.W.WalkO q loose XP YP l.row.toRowW d [] (fun f vs => PySem.call f vs) :=
 L2.walk_of (n := 63) (k := 8) (x := "_law_script") (CX := fun _ => CX0) (sp := fun w => spLaw (K w.params)) hn (by decide) hdf ⟨fun _ => rfl, by decide, by decide⟩ hY F (fun _ _ a ns hl _ hS => ⟨a, ns, rfl, hS, hl, fun _ => rfl⟩) fun _ _ _ _ _ z => z
end K53
open PySem PySem.W PyProof.Rows
set_option maxRecDepth 100000 in
set_option maxHeartbeats 0 in
theorem PySem.Challenge.cw_groupbooks_k53_stock_refusals_holds : PySem.Challenge.rw_groupbooks_k53_stock_refusals.Holds := by
 refine K53.headTop ?_
 k_fill
 refine K53.walk (l := PySem.Challenge.rw_groupbooks_k53_stock_refusals) rfl rfl (fun w h Y => PySem.W.kIn_of Y) ?F
 case F =>
   intro w mg fa h KX G hmg
   refine' K53.all_mk KX G hmg ?a_BadAmount ?a_BooksError ?a_Holding ?a_NoGoods ?a_NoNumber ?a_Stock ?a_TooFew ?xs_NoNumber ?xga_NoNumber ?xgh_NoNumber ?xsa_NoNumber ?xcl_NoNumber ?xs_BadAmount ?xga_BadAmount ?xgh_BadAmount ?xsa_BadAmount ?xcl_BadAmount ?xs_NoGoods ?xga_NoGoods ?xgh_NoGoods ?xsa_NoGoods ?xcl_NoGoods ?xs_TooFew ?xga_TooFew ?xgh_TooFew ?xsa_TooFew ?xcl_TooFew ?i_NoNumber ?nz_range ?nz_len ?nz_list ?nz_sorted ?nz_sum ?nz_isinstance ?nz_int ?nz_bool ?nz_ValueError ?nz_min ?nz_tuple ?nz_str ?q_ib ?q_vBadAmount ?q_nBadAmount ?q_kBadAmountBadAmount ?q_kBadAmountNoGoods ?q_kBadAmountTooFew ?q_vNoGoods ?q_nNoGoods ?q_kNoGoodsBadAmount ?q_kNoGoodsNoGoods ?q_kNoGoodsTooFew ?q_vTooFew ?q_nTooFew ?q_kTooFewBadAmount ?q_kTooFewNoGoods ?q_kTooFewTooFew ?q_mBadAmount ?q_mNoGoods ?q_mTooFew ?q_is ?q_nt ?pg_Holding ?hd_Holding ?po_Holding ?sa_Holding ?mk_Holding ?kc_Holding ?pg_Stock ?hd_Stock ?po_Stock ?sa_Stock ?mk_Stock ?kc_Stock ?n_hlot ?n_hfirm ?n_hstart ?n_hstop ?n_hlayers ?n_sly ?n_BadAmountamount ?n_NoGoodsholding ?n_TooFewholding ?n_TooFewlack ?a_portion ?l_portion ?c_portion ?k_portion ?a_layer_cost ?l_layer_cost ?c_layer_cost ?k_layer_cost ?a_chain_costs ?l_chain_costs ?c_chain_costs ?k_chain_costs ?a_chain_gains ?l_chain_gains ?c_chain_gains ?k_chain_gains ?at_Holding___init__ ?fn_Holding___init__ ?l_Holding___init__ ?c_Holding___init__ ?k_Holding___init__ ?at_Holding_pieces ?fn_Holding_pieces ?l_Holding_pieces ?c_Holding_pieces ?k_Holding_pieces ?at_Holding_front ?fn_Holding_front ?l_Holding_front ?c_Holding_front ?k_Holding_front ?at_Holding_behind ?fn_Holding_behind ?l_Holding_behind ?c_Holding_behind ?k_Holding_behind ?at_Stock___init__ ?fn_Stock___init__ ?l_Stock___init__ ?c_Stock___init__ ?k_Stock___init__ ?at_BadAmount__init__ ?fn_BadAmount__init__ ?l_BadAmount__init__ ?c_BadAmount__init__ ?k_BadAmount__init__ ?at_NoGoods__init__ ?fn_NoGoods__init__ ?l_NoGoods__init__ ?c_NoGoods__init__ ?k_NoGoods__init__ ?at_TooFew__init__ ?fn_TooFew__init__ ?l_TooFew__init__ ?c_TooFew__init__ ?k_TooFew__init__ ?at_Stock_bring ?fn_Stock_bring ?l_Stock_bring ?c_Stock_bring ?k_Stock_bring ?at_Stock_taken ?fn_Stock_taken ?l_Stock_taken ?c_Stock_taken ?k_Stock_taken ?at_Stock_sell ?fn_Stock_sell ?l_Stock_sell ?c_Stock_sell ?k_Stock_sell ?at_Stock_hand ?fn_Stock_hand ?l_Stock_hand ?c_Stock_hand ?k_Stock_hand ?at_Stock_holdings ?fn_Stock_holdings ?l_Stock_holdings ?c_Stock_holdings ?k_Stock_holdings ?at_Holding_costs ?fn_Holding_costs ?l_Holding_costs ?c_Holding_costs ?k_Holding_costs ?at_Holding_gains ?fn_Holding_gains ?l_Holding_gains ?c_Holding_gains ?k_Holding_gains ?at_Stock_goods_of ?fn_Stock_goods_of ?l_Stock_goods_of ?c_Stock_goods_of ?k_Stock_goods_of ?at_Stock_unmade ?fn_Stock_unmade ?l_Stock_unmade ?c_Stock_unmade ?k_Stock_unmade ?a__law_cell ?l__law_cell ?c__law_cell ?k__law_cell ?a__law_draw ?l__law_draw ?c__law_draw ?k__law_draw ?a__law_names ?l__law_names ?c__law_names ?k__law_names ?a__law_whole ?l__law_whole ?c__law_whole ?k__law_whole ?a__law_refusal ?l__law_refusal ?c__law_refusal ?k__law_refusal ?a__law_asked ?l__law_asked ?c__law_asked ?k__law_asked ?a__law_due ?l__law_due ?c__law_due ?k__law_due ?a__law_done ?l__law_done ?c__law_done ?k__law_done ?a__law_held ?l__law_held ?c__law_held ?k__law_held ?a__law_costs ?l__law_costs ?c__law_costs ?k__law_costs ?a__law_sums ?l__law_sums ?c__law_sums ?k__law_sums ?a__law_summed ?l__law_summed ?c__law_summed ?k__law_summed ?a__law_many ?l__law_many ?c__law_many ?k__law_many ?a__law_deed ?l__law_deed ?c__law_deed ?k__law_deed ?a__law_alike ?l__law_alike ?c__law_alike ?k__law_alike ?a_law ?l_law ?c_law ?k_law
   (case a_BadAmount => k_is)
   (case a_BooksError => k_is)
   (case a_Holding => k_is)
   (case a_NoGoods => k_is)
   (case a_NoNumber => k_is)
   (case a_Stock => k_is)
   (case a_TooFew => k_is)
   (case xga_NoNumber => k_is)
   (case xgh_NoNumber => k_is)
   (case xsa_NoNumber => k_is)
   (case xcl_NoNumber => k_is)
   (case xga_BadAmount => k_is)
   (case xgh_BadAmount => k_is)
   (case xsa_BadAmount => k_is)
   (case xcl_BadAmount => k_is)
   (case xga_NoGoods => k_is)
   (case xgh_NoGoods => k_is)
   (case xsa_NoGoods => k_is)
   (case xcl_NoGoods => k_is)
   (case xga_TooFew => k_is)
   (case xgh_TooFew => k_is)
   (case xsa_TooFew => k_is)
   (case xcl_TooFew => k_is)
   (case i_NoNumber => k_is)
   (case nz_range => k_is)
   (case nz_len => k_is)
   (case nz_list => k_is)
   (case nz_sorted => k_is)
   (case nz_sum => k_is)
   (case nz_isinstance => k_is)
   (case nz_int => k_is)
   (case nz_bool => k_is)
   (case nz_ValueError => k_is)
   (case nz_min => k_is)
   (case nz_tuple => k_is)
   (case nz_str => k_is)
   (case pg_Holding => k_is)
   (case hd_Holding => k_is)
   (case po_Holding => k_is)
   (case sa_Holding => k_is)
   (case mk_Holding => k_is)
   (case kc_Holding => k_is)
   (case pg_Stock => k_is)
   (case hd_Stock => k_is)
   (case po_Stock => k_is)
   (case sa_Stock => k_is)
   (case mk_Stock => k_is)
   (case kc_Stock => k_is)
   (case n_hlot => k_is)
   (case n_hfirm => k_is)
   (case n_hstart => k_is)
   (case n_hstop => k_is)
   (case n_hlayers => k_is)
   (case n_sly => k_is)
   (case n_BadAmountamount => k_is)
   (case n_NoGoodsholding => k_is)
   (case n_TooFewholding => k_is)
   (case n_TooFewlack => k_is)
   (case a_portion => k_is)
   (case l_portion => k_is)
   (case c_portion => k_is)
   (case k_portion => k_is)
   (case a_layer_cost => k_is)
   (case l_layer_cost => k_is)
   (case c_layer_cost => k_is)
   (case k_layer_cost => k_is)
   (case a_chain_costs => k_is)
   (case l_chain_costs => k_is)
   (case c_chain_costs => k_is)
   (case k_chain_costs => k_is)
   (case a_chain_gains => k_is)
   (case l_chain_gains => k_is)
   (case c_chain_gains => k_is)
   (case k_chain_gains => k_is)
   (case at_Holding___init__ => k_is)
   (case fn_Holding___init__ => k_is)
   (case l_Holding___init__ => k_is)
   (case c_Holding___init__ => k_is)
   (case k_Holding___init__ => k_is)
   (case at_Holding_pieces => k_is)
   (case fn_Holding_pieces => k_is)
   (case l_Holding_pieces => k_is)
   (case c_Holding_pieces => k_is)
   (case k_Holding_pieces => k_is)
   (case at_Holding_front => k_is)
   (case fn_Holding_front => k_is)
   (case l_Holding_front => k_is)
   (case c_Holding_front => k_is)
   (case k_Holding_front => k_is)
   (case at_Holding_behind => k_is)
   (case fn_Holding_behind => k_is)
   (case l_Holding_behind => k_is)
   (case c_Holding_behind => k_is)
   (case k_Holding_behind => k_is)
   (case at_Stock___init__ => k_is)
   (case fn_Stock___init__ => k_is)
   (case l_Stock___init__ => k_is)
   (case c_Stock___init__ => k_is)
   (case k_Stock___init__ => k_is)
   (case at_BadAmount__init__ => k_is)
   (case fn_BadAmount__init__ => k_is)
   (case l_BadAmount__init__ => k_is)
   (case c_BadAmount__init__ => k_is)
   (case k_BadAmount__init__ => k_is)
   (case at_NoGoods__init__ => k_is)
   (case fn_NoGoods__init__ => k_is)
   (case l_NoGoods__init__ => k_is)
   (case c_NoGoods__init__ => k_is)
   (case k_NoGoods__init__ => k_is)
   (case at_TooFew__init__ => k_is)
   (case fn_TooFew__init__ => k_is)
   (case l_TooFew__init__ => k_is)
   (case c_TooFew__init__ => k_is)
   (case k_TooFew__init__ => k_is)
   (case at_Stock_bring => k_is)
   (case fn_Stock_bring => k_is)
   (case l_Stock_bring => k_is)
   (case c_Stock_bring => k_is)
   (case k_Stock_bring => k_is)
   (case at_Stock_taken => k_is)
   (case fn_Stock_taken => k_is)
   (case l_Stock_taken => k_is)
   (case c_Stock_taken => k_is)
   (case k_Stock_taken => k_is)
   (case at_Stock_sell => k_is)
   (case fn_Stock_sell => k_is)
   (case l_Stock_sell => k_is)
   (case c_Stock_sell => k_is)
   (case k_Stock_sell => k_is)
   (case at_Stock_hand => k_is)
   (case fn_Stock_hand => k_is)
   (case l_Stock_hand => k_is)
   (case c_Stock_hand => k_is)
   (case k_Stock_hand => k_is)
   (case at_Stock_holdings => k_is)
   (case fn_Stock_holdings => k_is)
   (case l_Stock_holdings => k_is)
   (case c_Stock_holdings => k_is)
   (case k_Stock_holdings => k_is)
   (case at_Holding_costs => k_is)
   (case fn_Holding_costs => k_is)
   (case l_Holding_costs => k_is)
   (case c_Holding_costs => k_is)
   (case k_Holding_costs => k_is)
   (case at_Holding_gains => k_is)
   (case fn_Holding_gains => k_is)
   (case l_Holding_gains => k_is)
   (case c_Holding_gains => k_is)
   (case k_Holding_gains => k_is)
   (case at_Stock_goods_of => k_is)
   (case fn_Stock_goods_of => k_is)
   (case l_Stock_goods_of => k_is)
   (case c_Stock_goods_of => k_is)
   (case k_Stock_goods_of => k_is)
   (case at_Stock_unmade => k_is)
   (case fn_Stock_unmade => k_is)
   (case l_Stock_unmade => k_is)
   (case c_Stock_unmade => k_is)
   (case k_Stock_unmade => k_is)
   (case a__law_cell => k_is)
   (case l__law_cell => k_is)
   (case c__law_cell => k_is)
   (case k__law_cell => k_is)
   (case a__law_draw => k_is)
   (case l__law_draw => k_is)
   (case c__law_draw => k_is)
   (case k__law_draw => k_is)
   (case a__law_names => k_is)
   (case l__law_names => k_is)
   (case c__law_names => k_is)
   (case k__law_names => k_is)
   (case a__law_whole => k_is)
   (case l__law_whole => k_is)
   (case c__law_whole => k_is)
   (case k__law_whole => k_is)
   (case a__law_refusal => k_is)
   (case l__law_refusal => k_is)
   (case c__law_refusal => k_is)
   (case k__law_refusal => k_is)
   (case a__law_asked => k_is)
   (case l__law_asked => k_is)
   (case c__law_asked => k_is)
   (case k__law_asked => k_is)
   (case a__law_due => k_is)
   (case l__law_due => k_is)
   (case c__law_due => k_is)
   (case k__law_due => k_is)
   (case a__law_done => k_is)
   (case l__law_done => k_is)
   (case c__law_done => k_is)
   (case k__law_done => k_is)
   (case a__law_held => k_is)
   (case l__law_held => k_is)
   (case c__law_held => k_is)
   (case k__law_held => k_is)
   (case a__law_costs => k_is)
   (case l__law_costs => k_is)
   (case c__law_costs => k_is)
   (case k__law_costs => k_is)
   (case a__law_sums => k_is)
   (case l__law_sums => k_is)
   (case c__law_sums => k_is)
   (case k__law_sums => k_is)
   (case a__law_summed => k_is)
   (case l__law_summed => k_is)
   (case c__law_summed => k_is)
   (case k__law_summed => k_is)
   (case a__law_many => k_is)
   (case l__law_many => k_is)
   (case c__law_many => k_is)
   (case k__law_many => k_is)
   (case a__law_deed => k_is)
   (case l__law_deed => k_is)
   (case c__law_deed => k_is)
   (case k__law_deed => k_is)
   (case a__law_alike => k_is)
   (case l__law_alike => k_is)
   (case c__law_alike => k_is)
   (case k__law_alike => k_is)
   (case a_law => k_is)
   (case l_law => k_is)
   (case c_law => k_is)
   (case k_law => k_is)
   (case xs_NoNumber => kernel_rfl)
   (case xs_BadAmount => kernel_rfl)
   (case xs_NoGoods => kernel_rfl)
   (case xs_TooFew => kernel_rfl)
   (case q_ib => kernel_rfl)
   (case q_vBadAmount => kernel_rfl)
   (case q_nBadAmount => kernel_rfl)
   (case q_kBadAmountBadAmount => kernel_rfl)
   (case q_kBadAmountNoGoods => kernel_rfl)
   (case q_kBadAmountTooFew => kernel_rfl)
   (case q_vNoGoods => kernel_rfl)
   (case q_nNoGoods => kernel_rfl)
   (case q_kNoGoodsBadAmount => kernel_rfl)
   (case q_kNoGoodsNoGoods => kernel_rfl)
   (case q_kNoGoodsTooFew => kernel_rfl)
   (case q_vTooFew => kernel_rfl)
   (case q_nTooFew => kernel_rfl)
   (case q_kTooFewBadAmount => kernel_rfl)
   (case q_kTooFewNoGoods => kernel_rfl)
   (case q_kTooFewTooFew => kernel_rfl)
   (case q_mBadAmount => kernel_rfl)
   (case q_mNoGoods => kernel_rfl)
   (case q_mTooFew => kernel_rfl)
   (case q_is => kernel_rfl)
   (case q_nt => kernel_rfl)
#print axioms PySem.Challenge.cw_groupbooks_k53_stock_refusals_holds
