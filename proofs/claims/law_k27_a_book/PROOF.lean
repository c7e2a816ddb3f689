import PyProof.Rows.All
import Wide.All
import OpenK.AllK
import Wide.FinOn
import Lean
import PyProof.EqAt
import PyProof.EqKinds
import PyProof.TupleCall
import PyProof.StationsW
import PyProof.RulesAs
import PyProof.ExcClass2
import PyProof.ExcInit
import PyProof.InstStore
import PyProof.ExcBaseAll.ValueError
import PyProof.ExcArgs
import PyProof.IsiBase
import PyProof.NsDelKeeps
import PyProof.CompFree
import PyProof.CompUse
import KE.LcSums
import PyProof.Rows.SortWalk
import PyProof.DictWalks
import PyProof.Rows.MinMaxN
import PyProof.Rows.DictUnroll
import PyProof.StrBlockI
import PyProof.NeKinds
import PyProof.AutoListH
import KE.KItemsList
import KE.RegMulBits
import KE.KDictOf
import PyProof.AttrMissHeap
import KE.KDictList
import KE.KRevIter
import KE.KSortTup
import PyProof.Rows.EnumRows
import PyProof.EnumFor
import PyProof.ConsumeWalk
import PyProof.TupleOfSeq
import PyProof.Draws
import PyProof.FactsAll.set
import PyProof.DictItems
import KE.KPairComp
import PyProof.DictValues
import PySem.Challenge.RW_groupbooks_k27_a_book
set_option Elab.async false
set_option linter.all false
set_option maxRecDepth 100000
set_option maxHeartbeats 4000000
section
open PySem PySem.W PyProof.Rows
set_option maxHeartbeats 0
noncomputable def K27.runTop (p : Program) (w : World) (m : Nat) : Nat → SharedT → Thread → Option SharedT
 | 0, _, _ => none
 | k + 1, s, t => match through t with
   | true => some s
   | false => match PySem.W.Fast.tw6613529449190102663 m (some (.ref 6)) t with
     | false => none
     | true => match PySem.W.Fast.tw10156331382660048174 (PySem.W.Fast.tw11892475500146522536 treeTable) p w s t with
       | some x => K27.runTop p w m k x.1 x.2
       | none => none
theorem K27.runTop_eq (p : Program) (w : World) (m : Nat) : ∀ (k : Nat) (s s' : SharedT) (t : Thread),
   K27.runTop p w m k s t = some s' → topRun treeTable p w m (some (.ref 6)) k s.abs t = some s'.abs
 | 0, _, _, _, h => by cases h
 | k + 1, s, s', t, h => by
   unfold K27.runTop at h
   unfold topRun
   cases hT : through t with
   | true => rw [hT] at h; cases h; rfl
   | false =>
     rw [hT] at h
     dsimp only at h ⊢
     rw [← PySem.W.Fast.te6613529449190102663] at h
     cases hk : stepOk m (some (.ref 6)) t with
     | false => rw [hk] at h; exact absurd h (by simp)
     | true =>
       rw [hk] at h
       dsimp only at h ⊢
       rw [← PySem.W.Fast.te10156331382660048174, ← PySem.W.Fast.te11892475500146522536] at h
       cases hs : stepT (denote treeTable) p w s t with
       | none => rw [hs] at h; exact absurd h (by simp)
       | some x =>
         rw [hs] at h
         rw [stepT_spec (s' := x.1) (t' := x.2) hs]
         exact K27.runTop_eq p w m k _ _ _ h
noncomputable def K27.bootT (P : Params) : BT := ((boot_heap P).objs.toList.foldl (fun a o => (a.1.ins a.2 o, a.2 + 1)) (BT.nil, 0)).1
theorem K27.boot_is (P : Params) : absHeap (K27.bootT P) 11 (boot_heap P).life = boot_heap P := by kernel_rfl
theorem K27.boot_has (P : Params) : ((boot_heap P).isNs mainGlobals, (boot_heap P).objs.size, (boot_heap P).nsMap mainGlobals "__annotations__") = (true, 11, some (.ref 6)) := by kernel_rfl
theorem K27.leftAtOnce {p q : Program} {lo : List Str} {A : Shared → Bool} {β : Type} {B : Shared → β} {D : World → β} {N : Nat} {g : Bool}
   (e : opening p = plainProg p.main.scope.names) (f : ∀ s, fenceModules? p s = some s) (hN : Nat.ble 600 N = true)
   (h : ∀ (w : World) (os : OsState), (K27.runTop p w 11 N ⟨K27.bootT w.params, 11, (boot_heap w.params).life, Array.mk [], boot_drawn, boot_toks, os⟩ (topStub p)).map
     (fun s => (staticsOk (importedModules p.main.body) (boot_heap w.params) s.abs.heap && namesBound p s.abs.heap && gensDone s.abs && laidKept (boot_heap w.params) s.abs.heap,
       openSeen q lo (importedModules p.main.body) A g s.abs, B s.abs)) = some (true, openGood q lo, D w)) : LeftO p q lo A B D N g := by
 intro w
 obtain ⟨⟨hh, gs, d, k, os⟩, e1, e2⟩ := Option.map_eq_some_iff.mp (boot_open e hN f w)
 obtain ⟨rfl, rfl, rfl, rfl⟩ : hh = boot_heap w.params ∧ gs = Array.mk [] ∧ d = boot_drawn ∧ k = boot_toks := by simpa using e2
 obtain ⟨s, h1, h2⟩ := Option.map_eq_some_iff.mp (h w os)
 have h3 := K27.runTop_eq _ _ _ _ _ _ _ h1
 have h4 := K27.boot_has w.params
 simp only [Prod.mk.injEq] at h2 h4
 unfold openEnds
 rw [e1]
 change Option.map _ (topFrom treeTable p w N _) = _
 unfold topFrom
 dsimp only
 rw [h4.1, h4.2.1, h4.2.2]
 have h5 : SharedT.abs ⟨K27.bootT w.params, 11, (boot_heap w.params).life, Array.mk [], boot_drawn, boot_toks, os⟩ = ⟨boot_heap w.params, Array.mk [], boot_drawn, boot_toks, os⟩ := by
   unfold SharedT.abs
   rw [K27.boot_is]
 rw [h5] at h3
 show ((topRun treeTable p w 11 (some (.ref 6)) N _ _).bind _).map _ = _
 rw [h3]
 dsimp only [Option.bind]
 rw [h2.1]
 show some (_, _) = _
 rw [h2.2.1, h2.2.2]
def K27.sieve {α : Type} : List α → List Bool → List α
 | a :: l, b :: m => bif b then a :: sieve l m else sieve l m
 | _, _ => []
def K27.headView : Program := { PySem.Challenge.pw_groupbooks_k27_a_book with main := { PySem.Challenge.pw_groupbooks_k27_a_book.main with
 body := K27.sieve PySem.Challenge.pw_groupbooks_k27_a_book.main.body [false, false, false, false, false, false, false, false, false, false, false, false, false, false, false, false, false, false, false, false, false, false, false, false, false, false, false, false, false, false, true] } }
set_option hygiene false in
local macro_rules | `(tactic| o_head $H) => `(tactic|
 refine holds_open (q := K27.headView) (loose := [PySem.Str.ofString "BooksError", PySem.Str.ofString "Unbalanced", PySem.Str.ofString "Closed", PySem.Str.ofString "NoFirm", PySem.Str.ofString "rests_of", PySem.Str.ofString "month_of", PySem.Str.ofString "put_together", PySem.Str.ofString "figures_of", PySem.Str.ofString "check_entry", PySem.Str.ofString "Book", PySem.Str.ofString "_law_cell_at", PySem.Str.ofString "_law_whole", PySem.Str.ofString "_law_mix", PySem.Str.ofString "_law_names", PySem.Str.ofString "_law_coins", PySem.Str.ofString "_law_amount", PySem.Str.ofString "_law_kept", PySem.Str.ofString "_law_lines", PySem.Str.ofString "_law_spoilt", PySem.Str.ofString "_law_due", PySem.Str.ofString "_law_refused", PySem.Str.ofString "_law_by_base", PySem.Str.ofString "_law_entered", PySem.Str.ofString "_law_spots", PySem.Str.ofString "_law_asked", PySem.Str.ofString "_law_look"]) (N := 20000)
   (Yf := Hook.obs $H) (Ya := Hook.val $H) (YP := Hook.says $H)
   (XP := XL K27.headView []) (Xt := fun s => xlAt K27.headView [] s && recOk (RowW.records (OpenRow.toRowW (OpenLaw.row PySem.Challenge.rw_groupbooks_k27_a_book))) s)
   (K27.leftAtOnce (by kernel_rfl) (fun s => by kernel_rfl) rfl (fun w os => by kernel_rfl)) (Hook.of $H) (Hook.keeps $H)
   (fun s e => xl_of s (Bool.and_eq_true_iff.mp e).1)
   XL.keeps (by rfl) (by rfl) (by rfl)
   (fun s e => recFacts_of (Bool.and_eq_true_iff.mp e).2) (by rfl) (by assumption) (by decide +kernel)
   ⟨rfl, rfl, rfl, rfl, rfl, by decide +kernel⟩ ?hw ?hc)
open_top K27.headTop for PySem.Challenge.rw_groupbooks_k27_a_book
end
namespace L2
open PySem PySem.Spec PyProof.Rows
abbrev Key := Sum Int Str
def keyIs : Key → Value → Bool
 | .inl k, v => Value.isInt k v
 | .inr x, v => Value.isStrOf x v
def keyH (w : World) : Key → Int
 | .inl k => hashInt k
 | .inr x => hashStr w x
theorem keyIs_shape : ∀ {k : Key} {v : Value}, keyIs k v = true → (∃ i t, k = Sum.inl i ∧ v = Value.int i t) ∨ (∃ x t, k = Sum.inr x ∧ v = Value.str x t)
 | .inl i, v, h => by
   obtain ⟨t, e⟩ := Value.isInt_shape (k := i) (v := v) h
   exact .inl ⟨i, t, rfl, e⟩
 | .inr x, v, h => by
   obtain ⟨t, e⟩ := Value.isStrOf_shape (x := x) (v := v) h
   exact .inr ⟨x, t, rfl, e⟩
theorem keyIs_int (i : Int) (t : Tok) : keyIs (.inl i) (.int i t) = true := by simp [keyIs, Value.isInt]
theorem keyIs_str (x : Str) (t : Tok) : keyIs (.inr x) (.str x t) = true := by simp [keyIs, Value.isStrOf]
theorem key_ll (a b : Int) : decide ((Sum.inl a : Key) = Sum.inl b) = (a == b) := by
 by_cases e : a = b
 · subst e; simp
 · have h : ¬ (Sum.inl a : Key) = Sum.inl b := fun q => e (Sum.inl.inj q)
   rw [decide_eq_false h]
   exact (beq_eq_false_iff_ne.mpr e).symm
theorem key_rr (a b : Str) : decide ((Sum.inr a : Key) = Sum.inr b) = decide (a = b) := by
 by_cases e : a = b
 · subst e; simp
 · have h : ¬ (Sum.inr a : Key) = Sum.inr b := fun q => e (Sum.inr.inj q)
   rw [decide_eq_false h, decide_eq_false e]
theorem key_lr (a : Int) (b : Str) : decide ((Sum.inl a : Key) = Sum.inr b) = false := decide_eq_false (fun q => nomatch q)
theorem key_rl (a : Str) (b : Int) : decide ((Sum.inr a : Key) = Sum.inl b) = false := decide_eq_false (fun q => nomatch q)
def mixKind (prog : Program) (w : World) : PySem.KeyKind prog w Key where
 is := keyIs
 hash := keyH w
 inj := fun v a b ha hb => by
   rcases keyIs_shape ha with ⟨i, t, rfl, rfl⟩ | ⟨x, t, rfl, rfl⟩
   · rcases keyIs_shape hb with ⟨j, u, rfl, e⟩ | ⟨y, u, rfl, e⟩
     · injection e with e1 _; rw [e1]
     · exact nomatch e
   · rcases keyIs_shape hb with ⟨j, u, rfl, e⟩ | ⟨y, u, rfl, e⟩
     · exact nomatch e
     · injection e with e1 _; rw [e1]
 byValue := fun k v h => by
   rcases keyIs_shape h with ⟨i, t, rfl, rfl⟩ | ⟨x, t, rfl, rfl⟩ <;> rfl
 pyHash := fun hv h => by
   rcases keyIs_shape hv with ⟨i, t, rfl, rfl⟩ | ⟨x, t, rfl, rfl⟩
   · exact wpAny_pyHash_int h
   · exact wpAny_pyHash_str h
 eqBool := fun hu hv h => by
   rcases keyIs_shape hu with ⟨i, t, rfl, rfl⟩ | ⟨x, t, rfl, rfl⟩
   · rcases keyIs_shape hv with ⟨j, u, rfl, rfl⟩ | ⟨y, u, rfl, rfl⟩
     · rw [key_ll] at h; exact wpAny_eqBool_int h
     · rw [key_lr] at h; exact SeqAt.EqAt.int_str i t y u _ _ _ _ h
   · rcases keyIs_shape hv with ⟨j, u, rfl, rfl⟩ | ⟨y, u, rfl, rfl⟩
     · rw [key_rl] at h; exact SeqAt.EqAt.str_int x t j u _ _ _ _ h
     · rw [key_rr] at h; exact wpAny_eqBool_str h
 «strs» := fun k x t v h => by
   rcases keyIs_shape h with ⟨i, u, rfl, e⟩ | ⟨y, u, rfl, e⟩
   · exact nomatch e
   · injection e with e1 _
     subst e1
     cases v <;> rfl
theorem mixKind_int (prog : Program) (w : World) (i : Int) (t : Tok) : (mixKind prog w).is (.inl i) (.int i t) = true := keyIs_int i t
theorem mixKind_str (prog : Program) (w : World) (x : Str) (t : Tok) : (mixKind prog w).is (.inr x) (.str x t) = true := keyIs_str x t
end L2
namespace L2
open PySem PySem.Spec PyProof.Rows
inductive V where
 | non | bl (b : Bool) | int (i : Int) | str (x : Str) | byt (b : Array UInt8) | flt (b : UInt64) | ref (a : Addr) | ty (n : String)
 deriving DecidableEq
def RelV : V → Value → Prop
 | .non, u => u = Value.none
 | .bl b, u => u = Value.bool b
 | .int i, u => ∃ t, u = Value.int i t
 | .str x, u => ∃ t, u = Value.str x t
 | .byt b, u => ∃ t, u = Value.bytes b t
 | .flt b, u => ∃ t, u = Value.float b t
 | .ref a, u => u = Value.ref a
 | .ty n, u => u = Value.type n
abbrev Vals : List V → List Value → Prop := Paired RelV
theorem Vals.length {xs : List V} {us : List Value} (r : Vals xs us) : xs.length = us.length := Paired.length r
theorem Vals.get : ∀ {xs : List V} {us : List Value} {i : Nat} {x : V}, Vals xs us → xs[i]? = some x → ∃ u, us[i]? = some u ∧ RelV x u
 | _, _, _, _, .nil, e => by simp at e
 | _, _, 0, _, .cons r _, e => by simp at e; subst e; exact ⟨_, rfl, r⟩
 | _, _, i + 1, x, .cons _ t, e => by
   obtain ⟨u, h1, h2⟩ := Vals.get (i := i) (x := x) t (by simpa using e)
   exact ⟨u, by simpa using h1, h2⟩
theorem Vals.set {x : V} {u : Value} (r : RelV x u) : ∀ {xs : List V} {us : List Value} (i : Nat), Vals xs us → Vals (xs.set i x) (us.set i u)
 | _, _, _, .nil => .nil
 | _, _, 0, .cons _ t => .cons r t
 | _, _, i + 1, .cons q t => .cons q (Vals.set r i t)
theorem Vals.append : ∀ {xs ys : List V} {us ws : List Value}, Vals xs us → Vals ys ws → Vals (xs ++ ys) (us ++ ws)
 | _, _, _, _, .nil, s => s
 | _, _, _, _, .cons r t, s => .cons r (Vals.append t s)
theorem Vals.take : ∀ {xs : List V} {us : List Value} (n : Nat), Vals xs us → Vals (xs.take n) (us.take n)
 | _, _, 0, _ => .nil
 | _, _, _ + 1, .nil => .nil
 | _, _, n + 1, .cons r t => .cons r (Vals.take n t)
theorem Vals.drop : ∀ {xs : List V} {us : List Value} (n : Nat), Vals xs us → Vals (xs.drop n) (us.drop n)
 | _, _, 0, r => r
 | _, _, _ + 1, .nil => .nil
 | _, _, n + 1, .cons _ t => Vals.drop n t
theorem Vals.none_of : ∀ {xs : List V} {us : List Value} {i : Nat}, Vals xs us → xs[i]? = none → us[i]? = none := fun {xs us i} r e => by
 have h1 := r.length
 have h2 : xs.length ≤ i := List.getElem?_eq_none_iff.mp e
 exact List.getElem?_eq_none_iff.mpr (by omega)
def RelO : Option V → Option Value → Prop
 | some v, some u => RelV v u
 | none, none => True
 | _, _ => False
def KV {κ : Type} : List (κ × V) → List (κ × Value) → Prop := Paired fun (p : κ × V) (q : κ × Value) => p.1 = q.1 ∧ RelV p.2 q.2
def kV : Key → V
 | .inl i => .int i
 | .inr x => .str x
inductive HO where
 /-- a list -/
 | lst (xs : List V)
 /-- a tuple (never changes) -/
 | tup (xs : List V)
 /-- a dict whose keys are ints and texts; one whose keys are tuples of ints and texts (the empty one is both) -/
 | dK (kvs : List (Key × V)) | dT (kvs : List (List Key × V))
 /-- a set of ints: its members, its size -/
 | set (S : Int → Bool) (n : Nat)
 /-- an instance of the class at C, its dict at dx, its attributes -/
 | ins (C dx : Addr) (fs : List (Str × V))
 /-- the dict of the instance at x -/
 | own (x : Addr)
 /-- the dict of an exception -/
 | xd (fs : List (Str × V))
 /-- a bound method, f of x -/
 | met (f x : Addr)
 /-- a range object lo, lo + 1, .. below hi -/
 | rng (lo hi : Int)
 /-- a thing that is known to the object (the script; a dict while a loop walks it): read, never written while it is so -/
 | frz (o : Obj) (u : HO)
 /-- a code object's table -/
 | tbl (ps : Array Value)
 /-- any other thing, by what is true of its one object (a def of one's own: SetO a S n := HO.ext fun h => ..) -/
 | ext (φ : Heap → Prop)
abbrev Hp := Addr → Option HO
def upd (H : Hp) (a : Addr) (o : HO) : Hp := fun b => if b = a then some o else H b
theorem upd_same {H : Hp} {a : Addr} {o : HO} : upd H a o a = some o := by unfold upd; rw [if_pos rfl]
theorem upd_ne {H : Hp} {a b : Addr} {o : HO} (h : b ≠ a) : upd H a o b = H b := by unfold upd; rw [if_neg h]
theorem ne_of {H : Hp} {a b : Addr} {o u : HO} (h : H a = some o) (h' : H b = some u) (d : o ≠ u) : a ≠ b := by
 intro e; subst e; rw [h] at h'; exact d (Option.some.inj h')
theorem ne_of_none {H : Hp} {a b : Addr} {o : HO} (h : H a = some o) (h' : H b = none) : a ≠ b := by
 intro e; subst e; rw [h] at h'; cases h'
section
variable (P : Program) (w : World)
def ObjOk (H : Hp) (h : Heap) (a : Addr) : HO → Prop
 | .lst xs => xs.length ≤ sizeLine ∧ ∃ (its : List Value) (n : Nat), Vals xs its ∧ h.get? a = some { cls := .type "list", data := .seq its.toArray n }
 | .tup xs => xs.length ≤ sizeLine ∧ ∃ its : List Value, Vals xs its ∧ IsTup h a its.toArray
 | .dK kvs => kvs.length ≤ sizeLine ∧ (a == sysModules) = false ∧ ∃ vs, KV kvs vs ∧ h.DictOf (mixKind P w) a vs
 | .dT kvs => kvs.length ≤ sizeLine ∧ (a == sysModules) = false ∧ ∃ xs : List (List Key × Addr × Value),
     Paired (fun (p : List Key × V) (q : List Key × Addr × Value) => p.1 = q.1 ∧ H q.2.1 = some (.tup (p.1.map kV)) ∧ RelV p.2 q.2.2) kvs xs ∧
     ∃ o es ep, h.get? a = some o ∧ o.ExactDict ∧ o.data = .dict es ep ∧ es.toList = xs.map (entryOfKey (tupleKind (mixKind P w))) ∧ (xs.map (·.1)).Nodup
 | .set S n => h.SetOf (intKind P w) a S n
 | .ins C dx fs => H dx = some (.own a) ∧ fs.length ≤ 1000 ∧ dx ≠ a ∧ h.get? a = some (PySem.W.instObj C dx) ∧
     ∃ mA, h.Ns1 dx mA ∧ (∀ f, RelO (fs.lookup f) (mA f)) ∧ PySem.Within mA (fs.map (·.1))
 | .own _ => ∃ o, h.get? a = some o
 | .xd fs => ∃ mA, h.Ns1 a mA ∧ ∀ f, RelO (fs.lookup f) (mA f)
 | .rng lo hi => ∃ t u v, h.get? a = some { cls := .type "range", data := .fields #[.int lo t, .int hi u, .int 1 v] }
 | .frz o u => h.get? a = some o ∧ ObjOk H h a u
 | .tbl ps => h.get? a = some { cls := .none, data := .fields ps }
 | .met f x => h.get? a = some (PySem.W.methodObj (.ref f) (.ref x))
 | .ext φ => φ h ∧ (∃ o, h.get? a = some o) ∧ ∀ h1 h2 : Heap, φ h1 → (∀ o, h1.get? a = some o → h2.get? a = some o) → φ h2
def HOk (H : Hp) (h : Heap) : Prop := ∀ a o, H a = some o → ObjOk P w H h a o
end
section
variable {P : Program} {w : World} {H H' : Hp} {h h' : Heap} {a : Addr} {o : HO}
theorem ObjOk.lt (x : ObjOk P w H h a o) : a < h.objs.size := by
 cases o with
 | lst xs => obtain ⟨_, _, _, _, e⟩ := x; exact Heap.lt_size e
 | tup xs => obtain ⟨_, _, _, p⟩ := x; exact p.lt
 | dK kvs => obtain ⟨_, _, _, _, o, _, _, e, _⟩ := x; exact Heap.lt_size e
 | dT kvs => obtain ⟨_, _, _, _, o, _, _, e, _⟩ := x; exact Heap.lt_size e
 | set S n => obtain ⟨o, _, _, _, e, _⟩ := x; exact Heap.lt_size e
 | ins C dx fs => obtain ⟨_, _, _, e, _⟩ := x; exact Heap.lt_size e
 | own y => obtain ⟨_, e⟩ := x; exact Heap.lt_size e
 | xd fs => obtain ⟨_, ⟨_, _, _, e, _⟩, _⟩ := x; exact Heap.lt_size e
 | rng lo hi => obtain ⟨_, _, _, e⟩ := x; exact Heap.lt_size e
 | frz ob u => obtain ⟨e, _⟩ := x; exact Heap.lt_size e
 | tbl ps => exact Heap.lt_size (show h.get? a = some _ from x)
 | met f y => exact Heap.lt_size (show h.get? a = some _ from x)
 | ext φ => obtain ⟨_, ⟨_, e⟩, _⟩ := x; exact Heap.lt_size e
theorem Paired.mapP {α β : Type} {F G : α → β → Prop} : ∀ {l₁ : List α} {l₂ : List β}, Paired F l₁ l₂ → (∀ a b, F a b → G a b) → Paired G l₁ l₂
 | _, _, .nil, _ => .nil
 | _, _, .cons r t, f => .cons (f _ _ r) (Paired.mapP t f)
theorem ObjOk.stay (x : ObjOk P w H h a o) (k : ∀ b u, (b = a ∨ H b = some (.own a)) → h.get? b = some u → h'.get? b = some u)
   (ho : ∀ b, H b = some (.own a) → H' b = some (.own a)) (ht : ∀ b xs, H b = some (.tup xs) → H' b = some (.tup xs)) : ObjOk P w H' h' a o := by
 induction o with
 | lst xs => obtain ⟨z, its, n, r, e⟩ := x; exact ⟨z, its, n, r, k _ _ (.inl rfl) e⟩
 | tup xs => obtain ⟨z, its, r, ob, e, c⟩ := x; exact ⟨z, its, r, ob, k _ _ (.inl rfl) e, c⟩
 | dK kvs => obtain ⟨z, y, vs, r, ob, es, ep, e, c⟩ := x; exact ⟨z, y, vs, r, ob, es, ep, k _ _ (.inl rfl) e, c⟩
 | dT kvs =>
   obtain ⟨z, y, xs, r, ob, es, ep, e, c⟩ := x
   exact ⟨z, y, xs, Paired.mapP r fun p q z => ⟨z.1, ht _ _ z.2.1, z.2.2⟩, ob, es, ep, k _ _ (.inl rfl) e, c⟩
 | set S n => obtain ⟨ob, es, ep, t, e, c⟩ := x; exact ⟨ob, es, ep, t, k _ _ (.inl rfl) e, c⟩
 | ins C dx fs =>
   obtain ⟨d, z, ne, e, mA, ⟨od, es, ep, e2, c⟩, r⟩ := x
   exact ⟨ho _ d, z, ne, k _ _ (.inl rfl) e, mA, ⟨od, es, ep, k _ _ (.inr d) e2, c⟩, r⟩
 | own y => obtain ⟨ob, e⟩ := x; exact ⟨ob, k _ _ (.inl rfl) e⟩
 | xd fs => obtain ⟨mA, ⟨od, es, ep, e, c⟩, r⟩ := x; exact ⟨mA, ⟨od, es, ep, k _ _ (.inl rfl) e, c⟩, r⟩
 | rng lo hi => obtain ⟨t, u, v, e⟩ := x; exact ⟨t, u, v, k _ _ (.inl rfl) e⟩
 | frz ob u ih => obtain ⟨e, q⟩ := x; exact ⟨k _ _ (.inl rfl) e, ih q⟩
 | tbl ps =>
   have e : h.get? a = some { cls := .none, data := .fields ps } := x
   show h'.get? a = some { cls := .none, data := .fields ps }
   exact k a _ (.inl rfl) e
 | met f y =>
   have e : h.get? a = some (PySem.W.methodObj (.ref f) (.ref y)) := x
   show h'.get? a = some (PySem.W.methodObj (.ref f) (.ref y))
   exact k a _ (.inl rfl) e
 | ext φ => obtain ⟨p, ⟨o, e⟩, st⟩ := x; exact ⟨st _ _ p fun o q => k _ _ (.inl rfl) q, ⟨o, k _ _ (.inl rfl) e⟩, st⟩
theorem HOk.lt (x : HOk P w H h) (e : H a = some o) : a < h.objs.size := (x a o e).lt
theorem HOk.fresh (x : HOk P w H h) (e : h.objs.size ≤ a) : H a = none := by
 cases q : H a with
 | none => rfl
 | some u => exact absurd (Nat.lt_of_lt_of_le (x.lt q) e) (Nat.lt_irrefl _)
theorem HOk.kept (x : HOk P w H h) (k : ∀ b u, h.get? b = some u → h'.get? b = some u) : HOk P w H h' := fun a o e =>
 (x a o e).stay (fun b u _ q => k b u q) (fun _ q => q) fun _ _ q => q
theorem HOk.laid (x : HOk P w H h) (k : ∀ b u, h.get? b = some u → h'.get? b = some u) (hp : h.objs.size ≤ a) (new : ObjOk P w (upd H a o) h' a o) : HOk P w (upd H a o) h' := fun b u e => by
 have hn := x.fresh hp
 by_cases hb : b = a
 · subst hb; rw [upd_same] at e; cases e; exact new
 · rw [upd_ne hb] at e
   exact (x b u e).stay (fun c v _ q => k c v q) (fun c q => by rw [upd_ne (ne_of_none q hn)]; exact q) fun c xs q => by rw [upd_ne (ne_of_none q hn)]; exact q
end
def Rd (H : Hp) (a : Addr) (u : HO) : Prop := H a = some u ∨ ∃ o, H a = some (.frz o u)
theorem Rd.of {H : Hp} {a : Addr} {u : HO} (h : H a = some u) : Rd H a u := .inl h
theorem Rd.ok {P : Program} {w : World} {H : Hp} {h : Heap} {a : Addr} {u : HO} (r : Rd H a u) (x : HOk P w H h) : ObjOk P w H h a u := by
 rcases r with r | ⟨o, r⟩
 · exact x a u r
 · obtain ⟨_, q⟩ := x a _ r
   exact q
def Mut : Option HO → Prop
 | some (.lst _) => True
 | some (.dK _) => True
 | some (.dT _) => True
 | some (.set _ _) => True
 | some (.ins _ _ _) => True
 | some (.ext _) => True
 | _ => False
section
variable {P : Program} {w : World} {H : Hp} {h h' : Heap} {x e : Addr} {o' : HO}
theorem HOk.write (ok : HOk P w H h) (mu : Mut (H x)) (he : e = x ∨ H e = some (.own x)) (k : ∀ b u, b ≠ e → h.get? b = some u → h'.get? b = some u) (heo : ∃ u, h'.get? e = some u)
   (new : ObjOk P w (upd H x o') h' x o') : HOk P w (upd H x o') h' := fun b u q => by
 have nown : ∀ c y, H c = some (.own y) → c ≠ x := fun c y r z => by subst z; rw [r] at mu; exact mu
 have ntup : ∀ c xs, H c = some (.tup xs) → c ≠ x := fun c xs r z => by subst z; rw [r] at mu; exact mu
 by_cases hb : b = x
 · subst hb; rw [upd_same] at q; cases q; exact new
 · rw [upd_ne hb] at q
   by_cases hbe : b = e
   · have q' : H b = some (.own x) := by
       rcases he with z | z
       · exact absurd (hbe.trans z) hb
       · rw [hbe]; exact z
     rw [q] at q'; cases q'
     obtain ⟨v, hv⟩ := heo
     exact ⟨v, by rw [hbe]; exact hv⟩
   · refine (ok b u q).stay (fun c v hc r => k c v ?_ r) (fun c r => by rw [upd_ne (nown c b r)]; exact r) fun c xs r => by rw [upd_ne (ntup c xs r)]; exact r
     rcases hc with rfl | hc
     · exact hbe
     · rintro rfl
       rcases he with z | z
       · exact nown c b hc z
       · rw [hc] at z; cases z; exact hb rfl
end
structure Un (fs ex : List Addr) (H H' : Hp) (h h' : Heap) : Prop where
 keep : ∀ b o, h.get? b = some o → H b = none → b ∉ fs → b ∉ ex → h'.get? b = some o
 slot : ∀ b o, h.get? b = some o → H b = none → b ∈ fs → b ∉ ex → ∃ sl, h'.get? b = some { o with slots := sl }
 free : ∀ b o, h.get? b = some o → H b = none → b ∉ ex → H' b = none
 there : ∀ b o, h.get? b = some o → b ∉ ex → ∃ o', h'.get? b = some o'
 tups : ∀ b xs, H b = some (.tup xs) → H' b = some (.tup xs)
 frzs : ∀ b o u, H b = some (.frz o u) → H' b = some (.frz o u)
 tbls : ∀ b ps, H b = some (.tbl ps) → ∃ more, H' b = some (.tbl (ps ++ more))
section
variable {fs fs' ex ex' : List Addr} {H H1 H2 : Hp} {h h1 h2 h' : Heap} {a x e : Addr} {o : HO}
theorem Un.any (u : Un fs ex H H1 h h1) {b : Addr} {ob : Obj} (q : h.get? b = some ob) (n : H b = none) (hx : b ∉ ex) : ∃ sl, h1.get? b = some { ob with slots := sl } := by
 by_cases hb : b ∈ fs
 · exact u.slot b ob q n hb hx
 · exact ⟨ob.slots, u.keep b ob q n hb hx⟩
theorem Un.trans (a : Un fs ex H H1 h h1) (b : Un fs ex H1 H2 h1 h2) : Un fs ex H H2 h h2 where
 keep := fun c ob q n hc hx => b.keep c ob (a.keep c ob q n hc hx) (a.free c ob q n hx) hc hx
 slot := fun c ob q n hc hx => by
   obtain ⟨sl, e1⟩ := a.slot c ob q n hc hx
   obtain ⟨sl', e2⟩ := b.slot c _ e1 (a.free c ob q n hx) hc hx
   exact ⟨sl', e2⟩
 free := fun c ob q n hx => by
   obtain ⟨o', e1⟩ := a.there c ob q hx
   exact b.free c o' e1 (a.free c ob q n hx) hx
 there := fun c ob q hx => by
   obtain ⟨o', e1⟩ := a.there c ob q hx
   exact b.there c o' e1 hx
 tups := fun c xs q => b.tups c xs (a.tups c xs q)
 frzs := fun c ob xs q => b.frzs c ob xs (a.frzs c ob xs q)
 tbls := fun c ps q => by
   obtain ⟨m1, e1⟩ := a.tbls c ps q
   obtain ⟨m2, e2⟩ := b.tbls c _ e1
   exact ⟨m1 ++ m2, by rw [e2, Array.append_assoc]⟩
theorem Un.kept (k : ∀ b u, h.get? b = some u → h'.get? b = some u) : Un fs ex H H h h' :=
 ⟨fun b ob q _ _ _ => k b ob q, fun b ob q _ _ _ => ⟨ob.slots, k b ob q⟩, fun _ _ _ n _ => n, fun b ob q _ => ⟨ob, k b ob q⟩, fun _ _ q => q, fun _ _ _ q => q, fun _ ps q => ⟨#[], by rw [q]; simp⟩⟩
theorem Un.refl : Un fs ex H H h h := Un.kept fun _ _ q => q
theorem Un.laid (k : ∀ b u, h.get? b = some u → h'.get? b = some u) (hp : h.objs.size ≤ a) (hn : H a = none) : Un fs ex H (upd H a o) h h' where
 keep := fun b u q _ _ _ => k b u q
 slot := fun b u q _ _ _ => ⟨u.slots, k b u q⟩
 free := fun b u q n _ => by rw [upd_ne (Nat.ne_of_lt (Nat.lt_of_lt_of_le (Heap.lt_size q) hp))]; exact n
 there := fun b u q _ => ⟨u, k b u q⟩
 tups := fun b xs q => by rw [upd_ne (ne_of_none q hn)]; exact q
 frzs := fun b u xs q => by rw [upd_ne (ne_of_none q hn)]; exact q
 tbls := fun b ps q => ⟨#[], by rw [upd_ne (ne_of_none q hn), q]; simp⟩
theorem Un.write (mu : Mut (H x)) (he : e = x ∨ H e = some (.own x)) (k : ∀ b u, b ≠ e → h.get? b = some u → h'.get? b = some u) (heo : ∃ u, h'.get? e = some u) : Un fs ex H (upd H x o) h h' := by
 have hx : ∀ b, H b = none → b ≠ x := fun b n z => by subst z; rw [n] at mu; exact mu
 have hb : ∀ b, H b = none → b ≠ e := fun b n z => by
   subst z
   rcases he with r | r
   · exact hx b n r
   · rw [n] at r; cases r
 have hm : ∀ b u, H b = some u → ¬ Mut (some u) → b ≠ x := fun b u q nm z => by subst z; rw [q] at mu; exact nm mu
 refine ⟨fun b u q n _ _ => k b u (hb b n) q, fun b u q n _ _ => ⟨u.slots, k b u (hb b n) q⟩, fun b u q n _ => by rw [upd_ne (hx b n)]; exact n, fun b u q _ => ?_,
   fun b xs q => by rw [upd_ne (hm b _ q fun z => z)]; exact q, fun b u xs q => by rw [upd_ne (hm b _ q fun z => z)]; exact q, fun b ps q => ⟨#[], by rw [upd_ne (hm b _ q fun z => z), q]; simp⟩⟩
 by_cases hbe : b = e
 · subst hbe; exact heo
 · exact ⟨u, k b u hbe q⟩
theorem Un.mono (u : Un fs ex H H1 h h1) (hs : ∀ b ∈ fs, b ∈ fs') (hx : ∀ b ∈ ex, b ∈ ex') : Un fs' ex' H H1 h h1 :=
 ⟨fun b ob q n hb he => u.keep b ob q n (fun z => hb (hs b z)) fun z => he (hx b z), fun _ _ q n _ he => u.any q n fun z => he (hx _ z), fun b ob q n he => u.free b ob q n fun z => he (hx b z), fun b ob q he => u.there b ob q fun z => he (hx b z), u.tups, u.frzs, u.tbls⟩
end
def trk (h : Heap) (H : Hp) : List Addr := (List.range h.objs.size).filter fun a => (H a).isSome
def hidT (h : Heap) (H : Hp) : Heap := PySem.W.hideAll h (trk h H)
theorem hidT_size (h : Heap) (H : Hp) : (hidT h H).objs.size = h.objs.size := PySem.W.hideAll_size _ _
theorem hidT_get {h : Heap} {H : Hp} {b : Addr} {o : Obj} (e : h.get? b = some o) (n : H b = none) : (hidT h H).get? b = some o :=
 PySem.W.hideAll_get _ e fun hm => by
   have q : (H b).isSome = true := (List.mem_filter.mp hm).2
   rw [n] at q; simp at q
theorem of_hidT {h : Heap} {H : Hp} {b : Addr} {o : Obj} (e : (hidT h H).get? b = some o) : h.get? b = some o ∧ H b = none := by
 have e' : h.get? b = some o := PySem.W.of_hideAll (trk h H) e
 refine ⟨e', ?_⟩
 cases q : H b with
 | none => rfl
 | some x =>
   have hm : b ∈ trk h H := List.mem_filter.mpr ⟨List.mem_range.mpr (Heap.lt_size e'), by simp [q]⟩
   have z : (hidT h H).get? b = none := PySem.W.hideAll_none (trk h H) hm
   rw [z] at e; cases e
def allNews (g h : Heap) (L : Addr) : List (Addr × Obj) := (List.range h.objs.size).filterMap fun a => if a = L ∨ (g.get? a).isSome = true then none else (h.get? a).map fun o => (a, o)
def rest (g h : Heap) (L d : Addr) : List (Addr × Obj) := (allNews g h L).filter fun p => decide (p.1 ≠ d)
end L2
namespace L2
open PySem PySem.Spec PyProof.Rows
structure Mod (K : PySem.W.Frag) (mg : Str → Option Value) (base : Heap) : Prop where
 kin : K.In base
 glob : base.Ns mainGlobals mg
 blt : ∃ mb, base.Ns builtinsNs mb ∧ ∀ x : Str, x ≠ "__name__" → mb x = bootBuiltins x
 nolimit : base.NoLimit
structure Cx where
 prog : Program
 w : World
 K : PySem.W.Frag
 mg : Str → Option Value
 base : Heap
 A : Around
 N : List Str
 s₀ : Shared
 H₀ : Hp
 env : Env
 outer : List Env
 stack : List Env
 ex : List Addr
 fn : Str → Bool
 calm : Bool
 pn : List (Addr × Obj)
 xe : Value → Shared → Prop
def frs (l : List Env) : List Addr := l.filterMap (·.frame)
abbrev Cx.fs (X : Cx) : List Addr := frs X.outer
def Vis (sc : Scope) (x : Str) : Prop := sc.names.lookup x = some .local ∨ sc.names.lookup x = some .cell ∨ sc.names.lookup x = some .free
def Loc (sc : Scope) (x : Str) : Prop := sc.names.lookup x = some .local ∨ sc.names.lookup x = some .cell
def Look (env : Env) (h : Heap) (m : Str → Option Value) (x : Str) (u : Value) : Prop :=
 (env.kindOf x = some .local ∧ m x = some u) ∨ ((env.kindOf x = some .cell ∨ env.kindOf x = some .free) ∧ ∃ c, env.cells.lookup x = some c ∧ h.IsCell c (some u))
structure Cx.Ok (X : Cx) : Prop where
 mod : Mod X.K X.mg X.base
 kind : X.env.scope.kind = .function
 glob : X.env.globals = mainGlobals
 blt : X.env.builtins = builtinsNs
 above : X.s₀.heap.objs.size ≤ X.env.locals
 inj : ∀ x y c, X.env.cells.lookup x = some c → X.env.cells.lookup y = some c → x = y
 has : ∀ x, (X.env.kindOf x = some .cell ∨ X.env.kindOf x = some .free) → ∃ c, X.env.cells.lookup x = some c
 cab : ∀ x c, X.fn x = true → X.env.cells.lookup x = some c → X.s₀.heap.objs.size ≤ c
 hd : X.calm = true → X.A.handled = none
 frames : X.A.frames = some X.stack
 stk : X.stack = X.outer ∨ (X.stack = X.env :: X.outer ∧ X.env.frame = some X.env.locals)
 exf : ∀ b ∈ X.ex, b ≠ X.env.locals ∧ ∀ x c, X.env.cells.lookup x = some c → c ≠ b
 bs : ∀ b o, X.base.get? b = some o → X.s₀.heap.get? b = some o ∧ X.H₀ b = none
 bsz : X.base.objs.size ≤ X.s₀.heap.objs.size
 noex : ∀ b o, X.base.get? b = some o → b ∉ X.ex
 exfs : ∀ b ∈ X.ex, b ∉ X.fs
 funs : X.s₀.heap.FunFrames X.base X.outer
 frf : ∀ b ∈ X.fs, X.H₀ b = none
structure Inv (X : Cx) (pins : List (Addr × Obj)) (σ : List (Option V)) (H : Hp) (s : Shared) : Prop where
 ok : X.Ok
 os : s.os = X.s₀.os
 bare : AllBare s.gens
 base : Un X.fs X.ex X.H₀ H X.s₀.heap s.heap
 loc : ∃ m, s.heap.Ns X.env.locals m ∧ ∀ (i : Nat) (x : Str) (v : V), X.N[i]? = some x → σ[i]? = some (some v) → Vis X.env.scope x → ∃ u, RelV v u ∧ Look X.env s.heap m x u
 cell : ∀ x c, X.env.cells.lookup x = some c → ∃ v, s.heap.IsCell c v
 free : H X.env.locals = none
 freeC : ∀ x c, X.env.cells.lookup x = some c → H c = none
 pin : ∀ p ∈ X.pn ++ pins, s.heap.get? p.1 = some p.2 ∧ H p.1 = none ∧ p.1 ≠ X.env.locals ∧ p.1 ∉ X.fs ∧ ∀ v, p.2.data ≠ .cell v
 hok : HOk X.prog X.w H s.heap
 len : σ.length = X.N.length
section
variable {X : Cx} {pins : List (Addr × Obj)} {σ : List (Option V)} {H H' : Hp} {s : Shared} {h' : Heap}
theorem Cx.Ok.nofr (ok : X.Ok) {b : Addr} {o : Obj} (e : X.base.get? b = some o) : b ∉ X.fs := fun hb => by
 have := (ok.funs.mem hb).1
 rw [e] at this; cases this
theorem Inv.bs (I : Inv X pins σ H s) : ∀ b o, X.base.get? b = some o → s.heap.get? b = some o ∧ H b = none := fun b o e =>
 ⟨I.base.keep b o (I.ok.bs b o e).1 (I.ok.bs b o e).2 (I.ok.nofr e) (I.ok.noex b o e), I.base.free b o (I.ok.bs b o e).1 (I.ok.bs b o e).2 (I.ok.noex b o e)⟩
theorem Inv.bk (I : Inv X pins σ H s) : ∀ b o, X.base.get? b = some o → s.heap.get? b = some o := fun b o e => (I.bs b o e).1
theorem Inv.mod (I : Inv X pins σ H s) : Mod X.K X.mg X.base := I.ok.mod
theorem Inv.kIn (I : Inv X pins σ H s) : X.K.In s.heap := I.ok.mod.kin.keeps I.bk
theorem Inv.nolimit (I : Inv X pins σ H s) : s.heap.NoLimit := I.ok.mod.nolimit.keeps I.bk
theorem Inv.fr (I : Inv X pins σ H s) : ∃ m, Fr X.base X.env.locals s.heap m :=
 let ⟨m, hn, _⟩ := I.loc
 ⟨m, hn, I.bk, Nat.le_trans I.ok.bsz I.ok.above⟩
theorem Inv.lt (I : Inv X pins σ H s) : X.env.locals < s.heap.objs.size := let ⟨_, hn, _⟩ := I.loc; hn.lt
theorem Inv.sz (I : Inv X pins σ H s) : X.s₀.heap.objs.size ≤ s.heap.objs.size := Nat.le_trans I.ok.above (Nat.le_of_lt I.lt)
theorem Inv.nofs (I : Inv X pins σ H s) {a : Addr} (h : s.heap.objs.size ≤ a) : a ∉ X.fs := fun hb => by
 obtain ⟨_, o, ho, _⟩ := I.ok.funs.mem hb
 exact absurd (Nat.lt_of_lt_of_le (Heap.lt_size ho) (Nat.le_trans I.sz h)) (Nat.lt_irrefl _)
theorem Inv.cne (I : Inv X pins σ H s) : ∀ x c, X.env.cells.lookup x = some c → c ≠ X.env.locals := fun x c e z => by
 obtain ⟨v, o, ho, hd⟩ := I.cell x c e
 obtain ⟨m, ⟨o', es, ep, ho', hd', _⟩, _⟩ := I.loc
 rw [z, ho'] at ho; cases ho; rw [hd'] at hd; cases hd
theorem Inv.funs (I : Inv X pins σ H s) : s.heap.FunFrames X.base X.outer := by
 have all : ∀ (l : List Env), (∀ b ∈ frs l, b ∈ X.fs) → X.s₀.heap.FunFrames X.base l → s.heap.FunFrames X.base l := by
   intro l
   induction l with
   | nil => intro _ _; trivial
   | cons env r ih =>
     intro hs hl
     obtain ⟨hk, ⟨L, o, hf, hn, ho, hd⟩, hr⟩ := hl
     have hL : L ∈ X.fs := hs L (by unfold frs; rw [List.filterMap_cons, hf]; exact List.mem_cons_self)
     obtain ⟨sl, e⟩ := I.base.slot L o ho (I.ok.frf L hL) hL fun z => I.ok.exfs L z hL
     exact ⟨hk, ⟨L, _, hf, hn, e, hd⟩, ih (fun b hb => hs b (by unfold frs; rw [List.filterMap_cons, hf]; exact List.mem_cons_of_mem _ hb)) hr⟩
 exact all X.outer (fun _ hb => hb) I.ok.funs
theorem Inv.stack (I : Inv X pins σ H s) : s.heap.FunFrames X.base X.stack := by
 rcases I.ok.stk with e | ⟨e, hf⟩
 · rw [e]; exact I.funs
 · rw [e]
   obtain ⟨m, hn, _⟩ := I.loc
   refine .cons (by rw [I.ok.kind]; decide) hf hn ?_ I.funs
   exact Heap.get?_none_of_le (Nat.le_trans I.ok.bsz I.ok.above)
theorem Inv.stkSub (I : Inv X pins σ H s) : ∀ b ∈ frs X.stack, b ∈ X.env.locals :: X.fs := fun b hb => by
 rcases I.ok.stk with e | ⟨e, hf⟩
 · rw [e] at hb; exact List.mem_cons_of_mem _ hb
 · rw [e] at hb
   unfold frs at hb
   rw [List.filterMap_cons, hf] at hb
   exact hb
theorem Inv.stkFree (I : Inv X pins σ H s) : ∀ b ∈ frs X.stack, H b = none := fun b hb => by
 rcases List.mem_cons.mp (I.stkSub b hb) with e | hb
 · rw [e]; exact I.free
 · obtain ⟨_, o, ho, _⟩ := I.ok.funs.mem hb
   exact I.base.free b o ho (I.ok.frf b hb) fun z => I.ok.exfs b z hb
theorem Inv.step {g' : Array GenState} {t' : Nat} {d' : Drawn} {ch : List Addr} (I : Inv X pins σ H s)
   (hch : ∀ b ∈ ch, (b ∈ X.ex ∨ X.s₀.heap.objs.size ≤ b) ∧ b ≠ X.env.locals ∧ (∀ x c, X.env.cells.lookup x = some c → c ≠ b) ∧ ∀ p ∈ X.pn ++ pins, p.1 ≠ b)
   (keep : ∀ b o, b ≠ X.env.locals → b ∉ X.fs → b ∉ ch → s.heap.get? b = some o → H b = none → h'.get? b = some o)
   (slot : ∀ b o, b ≠ X.env.locals → b ∈ X.fs → b ∉ ch → s.heap.get? b = some o → H b = none → ∃ sl, h'.get? b = some { o with slots := sl }) (free : ∀ b o, b ∉ ch → s.heap.get? b = some o → H b = none → H' b = none)
   (there : ∀ b o, b ∉ ch → s.heap.get? b = some o → ∃ o', h'.get? b = some o')
   (tups : ∀ b xs, H b = some (.tup xs) → H' b = some (.tup xs)) (frzs : ∀ b o u, H b = some (.frz o u) → H' b = some (.frz o u)) (tbls : ∀ b ps, H b = some (.tbl ps) → ∃ more, H' b = some (.tbl (ps ++ more)))
   (ns : ∀ m, s.heap.Ns X.env.locals m → h'.Ns X.env.locals m) (hok : HOk X.prog X.w H' h') (hg : AllBare g') :
   Inv X pins σ H' { s with heap := h', gens := g', drawn := d', toks := t' } := by
 have neL : ∀ b o, X.s₀.heap.get? b = some o → b ≠ X.env.locals := fun b o e => Nat.ne_of_lt (Nat.lt_of_lt_of_le (Heap.lt_size e) I.ok.above)
 have neC : ∀ b o, X.s₀.heap.get? b = some o → b ∉ X.ex → b ∉ ch := fun b o e hx hb => by
   rcases (hch b hb).1 with z | z
   · exact hx z
   · exact absurd (Nat.lt_of_lt_of_le (Heap.lt_size e) z) (Nat.lt_irrefl _)
 have cellK : ∀ x c, X.env.cells.lookup x = some c → ∀ v, s.heap.IsCell c v → h'.IsCell c v := fun x c e v ⟨o, ho, hd⟩ => by
   have nch : c ∉ ch := fun z => (hch c z).2.2.1 x c e rfl
   by_cases hc : c ∈ X.fs
   · obtain ⟨sl, q⟩ := slot c o (I.cne x c e) hc nch ho (I.freeC x c e)
     exact ⟨_, q, hd⟩
   · exact ⟨o, keep c o (I.cne x c e) hc nch ho (I.freeC x c e), hd⟩
 refine ⟨I.ok, I.os, hg, ⟨fun b o e n hb hx => ?_, fun b o e n hb hx => ?_, fun b o e n hx => ?_, fun b o e hx => ?_, fun b xs e => tups b xs (I.base.tups b xs e), fun b o xs e => frzs b o xs (I.base.frzs b o xs e), fun b ps e => ?_⟩, ?_, fun x c e => ?_, ?_, fun x c e => ?_, fun p hp => ?_, hok, I.len⟩
 · exact keep b o (neL b o e) hb (neC b o e hx) (I.base.keep b o e n hb hx) (I.base.free b o e n hx)
 · obtain ⟨sl, e1⟩ := I.base.slot b o e n hb hx
   obtain ⟨sl', e2⟩ := slot b _ (neL b o e) hb (neC b o e hx) e1 (I.base.free b o e n hx)
   exact ⟨sl', e2⟩
 · obtain ⟨o', e1⟩ := I.base.there b o e hx
   exact free b o' (neC b o e hx) e1 (I.base.free b o e n hx)
 · obtain ⟨o', e1⟩ := I.base.there b o e hx
   exact there b o' (neC b o e hx) e1
 · obtain ⟨m1, e1⟩ := I.base.tbls b ps e
   obtain ⟨m2, e2⟩ := tbls b _ e1
   exact ⟨m1 ++ m2, by rw [e2, Array.append_assoc]⟩
 · obtain ⟨m, hn, hl⟩ := I.loc
   refine ⟨m, ns m hn, fun i x v e1 e2 e3 => ?_⟩
   obtain ⟨u, r, l⟩ := hl i x v e1 e2 e3
   refine ⟨u, r, ?_⟩
   rcases l with l | ⟨k, c, e, z⟩
   · exact .inl l
   · exact .inr ⟨k, c, e, cellK x c e _ z⟩
 · obtain ⟨v, z⟩ := I.cell x c e
   exact ⟨v, cellK x c e v z⟩
 · obtain ⟨m, ⟨o, _, _, ho, _⟩, _⟩ := I.loc
   exact free _ o (fun z => (hch _ z).2.1 rfl) ho I.free
 · obtain ⟨v, o, ho, hd⟩ := I.cell x c e
   exact free c o (fun z => (hch c z).2.2.1 x c e rfl) ho (I.freeC x c e)
 · obtain ⟨e, n, ne, nf, d⟩ := I.pin p hp
   have nch : p.1 ∉ ch := fun z => (hch p.1 z).2.2.2 p hp rfl
   exact ⟨keep p.1 p.2 ne nf nch e n, free p.1 p.2 nch e n, ne, nf, d⟩
theorem Inv.un {t' : Nat} (I : Inv X pins σ H s) (u : Un X.fs [] H H' s.heap h') (hok : HOk X.prog X.w H' h') : Inv X pins σ H' { s with heap := h', toks := t' } := by
 obtain ⟨m, ⟨o, es, ep, ho, r⟩, _⟩ := id I.loc
 obtain ⟨sl, hL⟩ := u.any ho I.free (by simp)
 exact I.step (g' := s.gens) (d' := s.drawn) (ch := []) (fun _ z => nomatch z) (fun b o _ hb _ e n => u.keep b o e n hb (by simp)) (fun b o _ hb _ e n => u.slot b o e n hb (by simp)) (fun b o _ e n => u.free b o e n (by simp)) (fun b o _ e => u.there b o e (by simp)) u.tups u.frzs u.tbls (fun m' hm => by
   obtain ⟨o', es', ep', ho', r'⟩ := hm
   rw [ho] at ho'; cases ho'
   exact ⟨_, es', ep', hL, r'⟩) hok I.bare
theorem Inv.call {g' : Array GenState} {t' : Nat} {d' : Drawn} {ch : List Addr} (I : Inv X pins σ H s) (u : Un (frs X.stack) ch H H' s.heap h') (hok : HOk X.prog X.w H' h') (hg : AllBare g')
   (hch : ∀ b ∈ ch, (b ∈ X.ex ∨ X.s₀.heap.objs.size ≤ b) ∧ b ≠ X.env.locals ∧ (∀ x c, X.env.cells.lookup x = some c → c ≠ b) ∧ ∀ p ∈ X.pn ++ pins, p.1 ≠ b) :
   Inv X pins σ H' { s with heap := h', gens := g', drawn := d', toks := t' } := by
 obtain ⟨m, ⟨o, es, ep, ho, r⟩, _⟩ := id I.loc
 obtain ⟨sl, hL⟩ := u.any ho I.free fun z => (hch _ z).2.1 rfl
 exact I.step (ch := ch) hch (fun b o hL hb hc e n => u.keep b o e n (fun z => (List.mem_cons.mp (I.stkSub b z)).elim hL hb) hc) (fun b o _ _ hc e n => u.any e n hc) (fun b o hc e n => u.free b o e n hc) (fun b o hc e => u.there b o e hc) u.tups u.frzs u.tbls (fun m' hm => by
   obtain ⟨o', es', ep', ho', r'⟩ := hm
   rw [ho] at ho'; cases ho'
   exact ⟨_, es', ep', hL, r'⟩) hok hg
theorem Inv.turned {t' : Nat} {it : Addr} (I : Inv X pins σ H s) (k : ∀ b o, b ≠ it → s.heap.get? b = some o → h'.get? b = some o) (hn : H it = none) (hL : it ≠ X.env.locals)
   (h1 : it ∈ X.ex ∨ X.s₀.heap.objs.size ≤ it) (h2 : ∀ x c, X.env.cells.lookup x = some c → c ≠ it) (h3 : ∀ p ∈ X.pn ++ pins, p.1 ≠ it) : Inv X pins σ H { s with heap := h', toks := t' } := by
 have nit : ∀ b u, H b = some u → b ≠ it := fun b u e z => by rw [z, hn] at e; cases e
 refine I.step (g' := s.gens) (d' := s.drawn) (ch := [it]) (fun b hb => ?_) (fun b o _ _ hc e _ => k b o (fun z => hc (by simp [z])) e) (fun b o _ _ hc e _ => ⟨o.slots, k b o (fun z => hc (by simp [z])) e⟩) (fun _ _ _ _ n => n)
   (fun b o hc e => ⟨o, k b o (fun z => hc (by simp [z])) e⟩) (fun _ _ e => e) (fun _ _ _ e => e) (fun b ps e => ⟨#[], by rw [e]; simp⟩) (fun m hm => ?_) (fun b u e => ?_) I.bare
 · have e : b = it := by simpa using hb
   subst e
   exact ⟨h1, hL, h2, h3⟩
 · obtain ⟨o, es, ep, ho, r⟩ := hm
   exact ⟨o, es, ep, k _ o (Ne.symm hL) ho, r⟩
 · refine (I.hok b u e).stay (fun c v hc q => k c v ?_ q) (fun _ q => q) fun _ _ q => q
   rcases hc with z | z
   · rw [z]; exact nit b u e
   · exact nit c _ z
theorem Inv.tok (I : Inv X pins σ H s) (t : Nat) : Inv X pins σ H { s with toks := t } := I.un (h' := s.heap) (t' := t) Un.refl I.hok
theorem Inv.kept {t' : Nat} (I : Inv X pins σ H s) (k : ∀ b u, s.heap.get? b = some u → h'.get? b = some u) : Inv X pins σ H { s with heap := h', toks := t' } := I.un (Un.kept k) (I.hok.kept k)
theorem Inv.laid {a : Addr} {o : HO} {t' : Nat} (I : Inv X pins σ H s) (k : ∀ b u, s.heap.get? b = some u → h'.get? b = some u) (hp : s.heap.objs.size ≤ a) (new : ObjOk X.prog X.w (upd H a o) h' a o) :
   Inv X pins σ (upd H a o) { s with heap := h', toks := t' } := I.un (Un.laid k hp (I.hok.fresh hp)) (I.hok.laid k hp new)
theorem Inv.write {x e : Addr} {o : HO} {t' : Nat} (I : Inv X pins σ H s) (mu : Mut (H x)) (he : e = x ∨ H e = some (.own x)) (k : ∀ b u, b ≠ e → s.heap.get? b = some u → h'.get? b = some u) (heo : ∃ u, h'.get? e = some u)
   (new : ObjOk X.prog X.w (upd H x o) h' x o) : Inv X pins σ (upd H x o) { s with heap := h', toks := t' } := I.un (Un.write mu he k heo) (I.hok.write mu he k heo new)
theorem Inv.pins_of {pins' : List (Addr × Obj)} (I : Inv X pins σ H s) (h : ∀ p ∈ pins', s.heap.get? p.1 = some p.2 ∧ H p.1 = none ∧ p.1 ≠ X.env.locals ∧ p.1 ∉ X.fs ∧ ∀ v, p.2.data ≠ .cell v) : Inv X pins' σ H s :=
 ⟨I.ok, I.os, I.bare, I.base, I.loc, I.cell, I.free, I.freeC, fun p hp => (List.mem_append.mp hp).elim (fun z => I.pin p (List.mem_append_left _ z)) (h p), I.hok, I.len⟩
theorem nodup_ix {N : List Str} (hN : N.Nodup) {i j : Nat} {x : Str} (a : N[i]? = some x) (b : N[j]? = some x) : i = j := by
 obtain ⟨h1, e1⟩ := List.getElem?_eq_some_iff.mp a
 obtain ⟨h2, e2⟩ := List.getElem?_eq_some_iff.mp b
 exact (List.getElem_inj hN).mp (e1.trans e2.symm)
theorem store_ok2 {M : Model} {A : Around} {E : Value → Shared → Prop} {i : Nat} {x : Str} {v : V} {u : Value} {Q : Unit → Shared → Prop} (I : Inv X pins σ H s) (hN : X.N.Nodup) (hi : X.N[i]? = some x) (hx : Loc X.env.scope x) (r : RelV v u)
   (h : ∀ s', Inv X pins (σ.set i (some v)) H s' → (∃ a, Heap.SameBut a s.heap s'.heap ∧ (a = X.env.locals ∨ X.env.cells.lookup x = some a)) → Q () s') (hf : X.fn x = true ∨ X.env.scope.names.lookup x = some .local := by first | exact .inl rfl | exact .inr rfl | assumption) : wpAny M A (storeName X.env x u) Q E s := by
 obtain ⟨m, hn, hl⟩ := id I.loc
 have hcls : (X.env.scope.kind == .class || (X.env.scope.kind == .module && X.env.locals != X.env.globals)) = false := by rw [I.ok.kind]; rfl
 have hiσ : i < σ.length := by rw [I.len]; exact (List.getElem?_eq_some_iff.mp hi).1
 have cne := I.cne
 have tracked : ∀ {a : Addr} {h' : Heap}, (∃ o, s.heap.get? a = some o ∧ H a = none) → Heap.SameBut a s.heap h' → HOk X.prog X.w H h' := fun {a h'} ha hs b ob e => by
   obtain ⟨_, _, hfree⟩ := ha
   refine (I.hok b ob e).stay (fun c w' hc q => (hs.2 c ?_).trans q) (fun _ q => q) fun _ _ q => q
   rintro rfl
   rcases hc with rfl | hc
   · rw [hfree] at e; cases e
   · rw [hfree] at hc; cases hc
 rcases hx with hk | hk
 · refine wpAny_storeName_local hk hn (fun h' hn' hs => ?_) hcls
   obtain ⟨oL, _, _, hoL, _⟩ := id hn
   refine h _ ⟨I.ok, I.os, I.bare, ⟨fun b o e n hb hx => ?_, fun b o e n hb hx => ?_, I.base.free, fun b o e hx => ?_, I.base.tups, I.base.frzs, I.base.tbls⟩, ⟨_, hn', fun j y v' e1 e2 e3 => ?_⟩, fun y c e => ?_, I.free, I.freeC, fun p hp => ?_, tracked ⟨oL, hoL, I.free⟩ hs, by simpa using I.len⟩ ⟨_, hs, .inl rfl⟩
   · exact (hs.2 b (Nat.ne_of_lt (Nat.lt_of_lt_of_le (Heap.lt_size e) I.ok.above))).trans (I.base.keep b o e n hb hx)
   · obtain ⟨sl, e1⟩ := I.base.slot b o e n hb hx
     exact ⟨sl, (hs.2 b (Nat.ne_of_lt (Nat.lt_of_lt_of_le (Heap.lt_size e) I.ok.above))).trans e1⟩
   · obtain ⟨o', e1⟩ := I.base.there b o e hx
     exact ⟨o', (hs.2 b (Nat.ne_of_lt (Nat.lt_of_lt_of_le (Heap.lt_size e) I.ok.above))).trans e1⟩
   · by_cases hj : j = i
     · subst hj
       rw [hi] at e1; cases e1
       rw [List.getElem?_set_self hiσ] at e2
       cases e2
       exact ⟨u, r, .inl ⟨hk, by simp⟩⟩
     · rw [List.getElem?_set_ne (Ne.symm hj)] at e2
       obtain ⟨u', r', q⟩ := hl j y v' e1 e2 e3
       refine ⟨u', r', ?_⟩
       rcases q with ⟨k, e⟩ | ⟨k, c, e, z⟩
       · refine .inl ⟨k, ?_⟩
         have : y ≠ x := fun e => hj (nodup_ix hN e1 (e ▸ hi))
         simp [this, e]
       · exact .inr ⟨k, c, e, z.sameBut hs (cne y c e)⟩
   · obtain ⟨w', z⟩ := I.cell y c e
     exact ⟨w', z.sameBut hs (cne y c e)⟩
   · obtain ⟨e, n, ne, nf, d⟩ := I.pin p hp
     exact ⟨(hs.2 p.1 ne).trans e, n, ne, nf, d⟩
 · have hfn : X.fn x = true := by
     rcases hf with z | z
     · exact z
     · rw [z] at hk; cases hk
   obtain ⟨c, hc⟩ := I.ok.has x (.inl hk)
   obtain ⟨w', z⟩ := I.cell x c hc
   refine wpAny_storeName_cell I.ok.kind hk hc z (fun h' hc' hs => ?_)
   obtain ⟨oc, hoc, hocd⟩ := id z
   refine h { s with heap := h' } ⟨I.ok, I.os, I.bare, ⟨fun b o e n hb hx => ?_, fun b o e n hb hx => ?_, I.base.free, fun b o e hx => ?_, I.base.tups, I.base.frzs, I.base.tbls⟩, ⟨m, hn.sameBut hs (Ne.symm (cne x c hc)), fun j y v' e1 e2 e3 => ?_⟩, fun y c' e => ?_, I.free, I.freeC, fun p hp => ?_, tracked ⟨oc, hoc, I.freeC x c hc⟩ hs, by simpa using I.len⟩ ⟨c, hs, .inr hc⟩
   · exact (hs.2 b (Nat.ne_of_lt (Nat.lt_of_lt_of_le (Heap.lt_size e) (I.ok.cab x c hfn hc)))).trans (I.base.keep b o e n hb hx)
   · obtain ⟨sl, e1⟩ := I.base.slot b o e n hb hx
     exact ⟨sl, (hs.2 b (Nat.ne_of_lt (Nat.lt_of_lt_of_le (Heap.lt_size e) (I.ok.cab x c hfn hc)))).trans e1⟩
   · obtain ⟨o', e1⟩ := I.base.there b o e hx
     exact ⟨o', (hs.2 b (Nat.ne_of_lt (Nat.lt_of_lt_of_le (Heap.lt_size e) (I.ok.cab x c hfn hc)))).trans e1⟩
   · by_cases hj : j = i
     · subst hj
       rw [hi] at e1; cases e1
       rw [List.getElem?_set_self hiσ] at e2
       cases e2
       exact ⟨u, r, .inr ⟨.inl hk, c, hc, hc'⟩⟩
     · rw [List.getElem?_set_ne (Ne.symm hj)] at e2
       obtain ⟨u', r', q⟩ := hl j y v' e1 e2 e3
       refine ⟨u', r', ?_⟩
       rcases q with q | ⟨k, c', e, z'⟩
       · exact .inl q
       · refine .inr ⟨k, c', e, z'.sameBut hs ?_⟩
         rintro rfl
         exact hj (nodup_ix hN e1 (I.ok.inj _ _ _ e hc ▸ hi))
   · by_cases hcc : c' = c
     · subst hcc; exact ⟨_, hc'⟩
     · obtain ⟨w2, z2⟩ := I.cell y c' e
       exact ⟨w2, z2.sameBut hs hcc⟩
   · obtain ⟨e, n, ne, nf, d⟩ := I.pin p hp
     refine ⟨(hs.2 p.1 ?_).trans e, n, ne, nf, d⟩
     intro q
     rw [q, hoc] at e
     have q' : oc = p.2 := Option.some.inj e
     exact d w' (by rw [← q']; exact hocd)
theorem store_ok {M : Model} {A : Around} {E : Value → Shared → Prop} {i : Nat} {x : Str} {v : V} {u : Value} {Q : Unit → Shared → Prop} (I : Inv X pins σ H s) (hN : X.N.Nodup) (hi : X.N[i]? = some x) (hx : Loc X.env.scope x) (r : RelV v u)
   (h : ∀ s', Inv X pins (σ.set i (some v)) H s' → Q () s') (hf : X.fn x = true ∨ X.env.scope.names.lookup x = some .local := by first | exact .inl rfl | exact .inr rfl | assumption) : wpAny M A (storeName X.env x u) Q E s :=
 store_ok2 I hN hi hx r (fun s' I' _ => h s' I') hf
theorem Inv.call' {s' : Shared} {ch : List Addr} (I : Inv X pins σ H s) (ho : s'.os = s.os) (u : Un (frs X.stack) ch H H' s.heap s'.heap) (hok : HOk X.prog X.w H' s'.heap) (hg : AllBare s'.gens)
   (hch : ∀ b ∈ ch, (b ∈ X.ex ∨ X.s₀.heap.objs.size ≤ b) ∧ b ≠ X.env.locals ∧ (∀ x c, X.env.cells.lookup x = some c → c ≠ b) ∧ ∀ p ∈ X.pn ++ pins, p.1 ≠ b) : Inv X pins σ H' s' := by
 obtain ⟨h', g', d', t', o'⟩ := s'
 have e : o' = s.os := ho
 subst e
 exact I.call (g' := g') (t' := t') (d' := d') u hok hg hch
end
abbrev XK := Value → Option Addr → Hp → Prop
abbrev St := List (Option V)
abbrev VK := V → Hp → Prop
abbrev TE := St → Hp → VK → Prop
abbrev TT := St → Hp → (Bool → Hp → Prop) → Prop
abbrev TA := St → Hp → (List V → Hp → Prop) → Prop
structure Ends where
 nx : St → Hp → Prop
 rt : VK
 bk : St → Hp → Prop := fun _ _ => False
 ct : St → Hp → Prop := fun _ _ => False
abbrev TS := Ends → St → Hp → Prop
def EP (X : Cx) (pins : List (Addr × Obj)) (σ : St) (Q : VK) (u : Value) (s' : Shared) : Prop := ∃ v H', Inv X pins σ H' s' ∧ RelV v u ∧ Q v H'
def TP (X : Cx) (pins : List (Addr × Obj)) (σ : St) (Q : Bool → Hp → Prop) (b : Bool) (s' : Shared) : Prop := ∃ H', Inv X pins σ H' s' ∧ Q b H'
def AP (X : Cx) (pins : List (Addr × Obj)) (σ : St) (Q : List V → Hp → Prop) (us : List Value) (s' : Shared) : Prop := ∃ vs H', Inv X pins σ H' s' ∧ Vals vs us ∧ Q vs H'
def SP (X : Cx) (pins : List (Addr × Obj)) (D : Ends) (f : Flow) (s' : Shared) : Prop :=
 match f with
 | .next => ∃ σ' H', Inv X pins σ' H' s' ∧ D.nx σ' H'
 | .brk => ∃ σ' H', Inv X pins σ' H' s' ∧ D.bk σ' H'
 | .cont => ∃ σ' H', Inv X pins σ' H' s' ∧ D.ct σ' H'
 | .ret u => ∃ v σ' H', Inv X pins σ' H' s' ∧ RelV v u ∧ D.rt v H'
def PE (X : Cx) (e : Expr) (t : TE) : Prop :=
 ∀ (pins : List (Addr × Obj)) (s : Shared) (σ : St) (H : Hp) (Q : VK), Inv X pins σ H s → t σ H Q → wpAny (model X.prog X.w) X.A (eval e X.env) (EP X pins σ Q) X.xe s
def PT (X : Cx) (e : Expr) (t : TT) : Prop :=
 ∀ (pins : List (Addr × Obj)) (s : Shared) (σ : St) (H : Hp) (Q : Bool → Hp → Prop), Inv X pins σ H s → t σ H Q → wpAny (model X.prog X.w) X.A (isTrue e X.env (eval e X.env)) (TP X pins σ Q) X.xe s
def PW (X : Cx) (e : Expr) (t : TT) : Prop :=
 ∀ (whole : Sem Value) (pins : List (Addr × Obj)) (s : Shared) (σ : St) (H : Hp) (Q : Bool → Hp → Prop), Inv X pins σ H s → t σ H Q → wpAny (model X.prog X.w) X.A (isTrue e X.env whole) (TP X pins σ Q) X.xe s
theorem PW.pt {X : Cx} {e : Expr} {t : TT} (h : PW X e t) : PT X e t := h _
def PA (X : Cx) (es : List Expr) (t : TA) : Prop :=
 ∀ (pos : Pos) (pins : List (Addr × Obj)) (s : Shared) (σ : St) (H : Hp) (Q : List V → Hp → Prop), Inv X pins σ H s → t σ H Q → wpAny (model X.prog X.w) X.A (spliced (backTo pos (starEach es X.env))) (AP X pins σ Q) X.xe s
def PS (X : Cx) (st : Stmt) (t : TS) : Prop :=
 ∀ (pins : List (Addr × Obj)) (s : Shared) (σ : St) (H : Hp) (D : Ends), Inv X pins σ H s → t D σ H → wpAny (model X.prog X.w) X.A (exec st X.env) (SP X pins D) X.xe s
def PSs (X : Cx) (st : List Stmt) (t : TS) : Prop :=
 ∀ (pins : List (Addr × Obj)) (s : Shared) (σ : St) (H : Hp) (D : Ends), Inv X pins σ H s → t D σ H → wpAny (model X.prog X.w) X.A (execs st X.env) (SP X pins D) X.xe s
theorem thn {α : Type} {t : Sem α} {Q Q' : α → Shared → Prop} {M : Model} {A : Around} {E : Value → Shared → Prop} {s : Shared} (h : wpAny M A t Q E s) (hQ : ∀ a s, Q a s → Q' a s) : wpAny M A t Q' E s := wpAny_mono h hQ fun _ _ x => x
end L2
namespace L2
open PySem PySem.Spec PyProof.Rows
section
variable {X : Cx}
def tVar (i : Nat) : TE := fun σ H Q => ∃ v, σ[i]? = some (some v) ∧ Q v H
def tC (v : V) : TE := fun _ H Q => Q v H
theorem pe_var {i : Nat} {x : Str} {pos : Pos} (hN : X.N[i]? = some x) (hv : Vis X.env.scope x) (hd : (x == ("__debug__" : Str)) = false := by decide) (hcd : (x == ("__classdict__" : Str)) = false := by decide) : PE X (.Name x pos) (tVar i) := by
 intro pins s σ H Q I h
 obtain ⟨v, e, h⟩ := h
 obtain ⟨m, hn, hl⟩ := I.loc
 obtain ⟨u, r, l⟩ := hl i x v hN e hv
 have fin : EP X pins σ Q u s := ⟨v, H, I, r, h⟩
 rcases l with ⟨hk, hm⟩ | ⟨hk, c, hc, hcell⟩
 · exact wpAny_Name (wpAny_loadName_local I.ok.kind hk hn hm fin) hd
 · rcases hk with hk | hk
   · exact wpAny_Name (wpAny_loadName_cell I.ok.kind hk hc hcell fin) hd
   · exact wpAny_Name (wpAny_loadName_free I.ok.kind hk hc hcell fin hcd) hd
theorem pe_int {i j pos} : PE X (.Constant (.int i) j pos) (tC (.int i)) := fun _ _ _ H _ I h => wpAny_Constant_int ⟨.int i, H, I.tok _, ⟨_, rfl⟩, h⟩
theorem pe_bl {b j pos} : PE X (.Constant (.bool b) j pos) (tC (.bl b)) := fun _ _ _ H _ I h => Constant_bool ⟨.bl b, H, I, rfl, h⟩
theorem pe_non {j pos} : PE X (.Constant .none j pos) (tC .non) := fun _ _ _ H _ I h => Constant_none ⟨.non, H, I, rfl, h⟩
theorem pe_str {x j pos} : PE X (.Constant (.str x) j pos) (tC (.str x)) := fun _ _ _ H _ I h => Calls.Constant_str ⟨.str x, H, I.tok _, ⟨_, rfl⟩, h⟩
def Gl (X : Cx) (x : Str) : Prop := X.env.kindOf x = some .globalImplicit
theorem ld_glob {E : Value → Shared → Prop} {pins : List (Addr × Obj)} {s : Shared} {σ : St} {H : Hp} {x : Str} {u : Value} {pos : Pos} {Q : Value → Shared → Prop} (I : Inv X pins σ H s) (hg : Gl X x) (hm : X.mg x = some u) (h : Q u s)
   (hd : (x == ("__debug__" : Str)) = false := by decide) : wpAny (model X.prog X.w) X.A (eval (.Name x pos) X.env) Q E s :=
 Calls.Name_function_global I.ok.kind hg (Calls.loadGlobal_global (by rw [I.ok.glob]; exact I.mod.glob.keeps I.bk) hm h) hd
theorem ld_blt {E : Value → Shared → Prop} {pins : List (Addr × Obj)} {s : Shared} {σ : St} {H : Hp} {x : Str} {u : Value} {pos : Pos} {Q : Value → Shared → Prop} (I : Inv X pins σ H s) (hg : Gl X x) (hm : X.mg x = none) (hv : bootBuiltins x = some u) (h : Q u s)
   (hn : x ≠ "__name__" := by decide) (hd : (x == ("__debug__" : Str)) = false := by decide) : wpAny (model X.prog X.w) X.A (eval (.Name x pos) X.env) Q E s := by
 obtain ⟨mb, h1, h2⟩ := I.mod.blt
 exact Calls.Name_function_global I.ok.kind hg (Calls.loadGlobal_builtin (by rw [I.ok.glob]; exact I.mod.glob.keeps I.bk) hm (by rw [I.ok.blt]; exact h1.keeps I.bk) ((h2 x hn).trans hv) h) hd
theorem pe_glob {x : Str} {v : V} {u : Value} {pos : Pos} (hg : Gl X x) (hm : X.mg x = some u) (r : RelV v u) (hd : (x == ("__debug__" : Str)) = false := by decide) : PE X (.Name x pos) (tC v) :=
 fun _ _ _ H _ I h => ld_glob I hg hm ⟨v, H, I, r, h⟩ hd
theorem pe_bltn {x : Str} {v : V} {u : Value} {pos : Pos} (hg : Gl X x) (hm : X.mg x = none) (hv : bootBuiltins x = some u) (r : RelV v u) (hn : x ≠ "__name__" := by decide) (hd : (x == ("__debug__" : Str)) = false := by decide) : PE X (.Name x pos) (tC v) :=
 fun _ _ _ H _ I h => ld_blt I hg hm hv ⟨v, H, I, r, h⟩ hn hd
variable {a b : Expr} {ta tb : TE} {pos : Pos}
def tB (t : TE) : TT := fun σ H Q => t σ H fun x H1 => ∃ c, x = .bl c ∧ Q c H1
theorem pt_val {e : Expr} {t : TE} (h : PE X e t) (he : ∀ whole, isTrue e X.env whole = (do let v ← whole; standAt e.pos; holding [v] (truthy v)) := by intro _; rfl) : PT X e (tB t) := by
 intro pins s σ H Q I hw
 refine isTrue_plain (thn (h pins s σ H _ I hw) fun v s1 ⟨x, H1, I1, r1, q1⟩ => ?_) (he _)
 obtain ⟨d, rfl, q⟩ := q1
 cases r1
 exact wpAny_truthy_bool ⟨H1, I1, q⟩
variable {tA tB' : TT} {rest : List Expr}
def tAnd (t u : TT) : TT := fun σ H Q => t σ H fun c H1 => if c = true then u σ H1 Q else Q false H1
def tOr (t u : TT) : TT := fun σ H Q => t σ H fun c H1 => if c = true then Q true H1 else u σ H1 Q
def tNot (t : TT) : TT := fun σ H Q => t σ H fun c H1 => Q (!c) H1
theorem pw_and1 (ha : PT X a tA) : PW X (.BoolOp .And [a] pos) tA := by
 intro wh pins s σ H Q I h
 refine isTrue_and (thn (ha pins s σ H Q I h) fun c s1 e => ?_)
 cases c with
 | true => exact isTrue_and_nil e
 | false => exact e
theorem pw_or1 (ha : PT X a tA) : PW X (.BoolOp .Or [a] pos) tA := by
 intro wh pins s σ H Q I h
 refine isTrue_or (thn (ha pins s σ H Q I h) fun c s1 e => ?_)
 cases c with
 | false => exact isTrue_or_nil e
 | true => exact e
theorem pw_and (ha : PT X a tA) (hb : PW X (.BoolOp .And (b :: rest) pos) tB') : PW X (.BoolOp .And (a :: b :: rest) pos) (tAnd tA tB') := by
 intro wh pins s σ H Q I h
 refine isTrue_and (thn (ha pins s σ H _ I h) fun c s1 ⟨H1, I1, q1⟩ => ?_)
 cases c with
 | true => exact hb wh pins s1 σ H1 Q I1 q1
 | false => exact ⟨H1, I1, q1⟩
theorem pw_or (ha : PT X a tA) (hb : PW X (.BoolOp .Or (b :: rest) pos) tB') : PW X (.BoolOp .Or (a :: b :: rest) pos) (tOr tA tB') := by
 intro wh pins s σ H Q I h
 refine isTrue_or (thn (ha pins s σ H _ I h) fun c s1 ⟨H1, I1, q1⟩ => ?_)
 cases c with
 | true => exact ⟨H1, I1, q1⟩
 | false => exact hb wh pins s1 σ H1 Q I1 q1
theorem pt_not (ha : PT X a tA) : PT X (.UnaryOp .Not a pos) (tNot tA) := by
 intro pins s σ H Q I h
 exact isTrue_not (ha pins s σ H (fun c H1 => Q (!c) H1) I h)
def tAndV (ta tb : TE) : TE := fun σ H Q => ta σ H fun x H1 => ∃ c, x = .bl c ∧ if c = true then tb σ H1 Q else Q (.bl false) H1
def tNotV (ta : TE) : TE := fun σ H Q => ta σ H fun x H1 => ∃ c, x = .bl c ∧ Q (.bl (!c)) H1
theorem pe_one {op} {t : TE} (h : PE X a t) : PE X (.BoolOp op [a] pos) t := fun pins s σ H Q I hw => BoolOp_one (h pins s σ H Q I hw)
theorem pe_and (ha : PE X a ta) (hb : PE X (.BoolOp .And (b :: rest) pos) tb) : PE X (.BoolOp .And (a :: b :: rest) pos) (tAndV ta tb) := by
 intro pins s σ H Q I h
 refine BoolOp_and (thn (ha pins s σ H _ I h) fun v s1 ⟨x, H1, I1, r1, q1⟩ => ?_)
 obtain ⟨c, rfl, q1⟩ := q1
 cases r1
 refine wpAny_truthy_bool ?_
 cases c with
 | true => exact hb pins s1 σ H1 Q I1 q1
 | false => exact ⟨.bl false, H1, I1, rfl, q1⟩
theorem pe_not (ha : PE X a ta) : PE X (.UnaryOp .Not a pos) (tNotV ta) := by
 intro pins s σ H Q I h
 refine UnaryOp_ (thn (ha pins s σ H _ I h) fun v s1 ⟨x, H1, I1, r1, q1⟩ => ?_)
 obtain ⟨c, rfl, q1⟩ := q1
 cases r1
 exact not_of (wpAny_truthy_bool ⟨.bl (!c), H1, I1, rfl, q1⟩)
def tIf (t : TT) (ta tb : TE) : TE := fun σ H Q => t σ H fun c H1 => if c = true then ta σ H1 Q else tb σ H1 Q
theorem pe_ifExp {c : Expr} (hc : PT X c tA) (ha : PE X a ta) (hb : PE X b tb) : PE X (.IfExp c a b pos) (tIf tA ta tb) := by
 intro pins s σ H Q I h
 refine wpAny_IfExp (thn (hc pins s σ H _ I h) fun d s1 ⟨H1, I1, q1⟩ => ?_)
 cases d with
 | true => exact ha pins s1 σ H1 Q I1 q1
 | false => exact hb pins s1 σ H1 Q I1 q1
end
end L2
namespace L2
open PySem PySem.Spec PyProof.Rows
def SqL (K : PySem.W.Frag) (H : Hp) (a : Addr) (xs : List V) : Prop :=
 Rd H a (.lst xs) ∨
   ∃ (o : Obj) (its : Array Value) (n : Nat), K.lookup a = some o ∧ o.cls = .type "list" ∧ o.dict = none ∧ o.data = .seq its n ∧ its.size ≤ sizeLine ∧ Vals xs its.toList
def SqT (K : PySem.W.Frag) (H : Hp) (a : Addr) (xs : List V) : Prop :=
 Rd H a (.tup xs) ∨
   ∃ (o : Obj) (its : Array Value) (n : Nat), K.lookup a = some o ∧ o.cls = .type "tuple" ∧ o.data = .seq its n ∧ its.size ≤ sizeLine ∧ Vals xs its.toList
def absV : Value → Option V
 | .none => some .non
 | .bool b => some (.bl b)
 | .int i _ => some (.int i)
 | .str x _ => some (.str x)
 | .bytes b _ => some (.byt b)
 | .float b _ => some (.flt b)
 | .ref a => some (.ref a)
 | .type n => some (.ty n)
 | _ => none
theorem RelV.abs {x : V} {u : Value} (r : RelV x u) : absV u = some x := by
 cases x with
 | non => cases r; rfl
 | bl _ => cases r; rfl
 | int _ => obtain ⟨t, rfl⟩ := r; rfl
 | str _ => obtain ⟨t, rfl⟩ := r; rfl
 | byt _ => obtain ⟨t, rfl⟩ := r; rfl
 | flt _ => obtain ⟨t, rfl⟩ := r; rfl
 | ref _ => cases r; rfl
 | ty _ => cases r; rfl
theorem RelV.inj {x y : V} {u : Value} (r : RelV x u) (q : RelV y u) : x = y := Option.some.inj (r.abs.symm.trans q.abs)
theorem Vals.inj : ∀ {xs ys : List V} {us : List Value}, Vals xs us → Vals ys us → xs = ys
 | _, _, _, .nil, .nil => rfl
 | _, _, _, .cons r t, .cons r' t' => by rw [r.inj r', Vals.inj t t']
section
variable {X : Cx} {pins : List (Addr × Obj)} {σ : St} {H : Hp} {s : Shared} {a : Addr} {xs ys : List V}
theorem SqL.of {K : PySem.W.Frag} (h : H a = some (.lst xs)) : SqL K H a xs := .inl (.inl h)
theorem SqT.of {K : PySem.W.Frag} (h : H a = some (.tup xs)) : SqT K H a xs := .inl (.inl h)
theorem Inv.list (I : Inv X pins σ H s) (h : SqL X.K H a xs) : ∃ its : List Value, Vals xs its ∧ PlainL s.heap a its.toArray ∧ xs.length ≤ sizeLine := by
 rcases h with h | ⟨o, its, n, hk, hc, hd, hs, hz, r⟩
 · obtain ⟨z, its, n, r, e⟩ := h.ok I.hok
   exact ⟨its, r, ⟨_, n, e, rfl, rfl, rfl⟩, z⟩
 · refine ⟨its.toList, r, ⟨o, n, I.kIn a o hk, hc, hd, by simpa using hs⟩, ?_⟩
   have e := r.length
   simp only [Array.length_toList] at e
   omega
theorem Inv.tuple (I : Inv X pins σ H s) (h : SqT X.K H a xs) : ∃ its : List Value, Vals xs its ∧ IsTup s.heap a its.toArray ∧ xs.length ≤ sizeLine := by
 rcases h with h | ⟨o, its, n, hk, hc, hs, hz, r⟩
 · obtain ⟨z, its, r, p⟩ := h.ok I.hok
   exact ⟨its, r, p, z⟩
 · refine ⟨its.toList, r, ⟨o, I.kIn a o hk, hc, n, by simpa using hs⟩, ?_⟩
   have e := r.length
   simp only [Array.length_toList] at e
   omega
theorem Inv.list_inj (I : Inv X pins σ H s) (h : SqL X.K H a xs) (h' : SqL X.K H a ys) : xs = ys := by
 obtain ⟨its, r, ⟨o, n, e, _, _, d⟩, _⟩ := I.list h
 obtain ⟨its', r', ⟨o', n', e', _, _, d'⟩, _⟩ := I.list h'
 rw [e] at e'; cases e'
 rw [d] at d'
 injection d' with d1 _
 have : its = its' := by simpa using congrArg Array.toList d1
 subst this
 exact r.inj r'
theorem Inv.tuple_inj (I : Inv X pins σ H s) (h : SqT X.K H a xs) (h' : SqT X.K H a ys) : xs = ys := by
 obtain ⟨its, r, ⟨o, e, _, n, d⟩, _⟩ := I.tuple h
 obtain ⟨its', r', ⟨o', e', _, n', d'⟩, _⟩ := I.tuple h'
 rw [e] at e'; cases e'
 rw [d] at d'
 injection d' with d1 _
 have : its = its' := by simpa using congrArg Array.toList d1
 subst this
 exact r.inj r'
end
abbrev Cx.wish (X : Cx) (E : Value → Shared → Prop) : Cx := { X with xe := E }
abbrev Cx.nox (X : Cx) : Cx := X.wish fun _ _ => False
theorem Cx.Ok.wish {X : Cx} (ok : X.Ok) (E : Value → Shared → Prop) : (X.wish E).Ok :=
 ⟨ok.mod, ok.kind, ok.glob, ok.blt, ok.above, ok.inj, ok.has, ok.cab, ok.hd, ok.frames, ok.stk, ok.exf, ok.bs, ok.bsz, ok.noex, ok.exfs, ok.funs, ok.frf⟩
theorem Cx.Ok.unwish {X : Cx} {E : Value → Shared → Prop} (ok : (X.wish E).Ok) : X.Ok :=
 ⟨ok.mod, ok.kind, ok.glob, ok.blt, ok.above, ok.inj, ok.has, ok.cab, ok.hd, ok.frames, ok.stk, ok.exf, ok.bs, ok.bsz, ok.noex, ok.exfs, ok.funs, ok.frf⟩
section
variable {X : Cx} {pins : List (Addr × Obj)} {σ : St} {H : Hp} {s : Shared} {E : Value → Shared → Prop}
theorem Inv.wish (I : Inv X pins σ H s) (E : Value → Shared → Prop) : Inv (X.wish E) pins σ H s := ⟨I.ok.wish E, I.os, I.bare, I.base, I.loc, I.cell, I.free, I.freeC, I.pin, I.hok, I.len⟩
theorem Inv.unwish (I : Inv (X.wish E) pins σ H s) : Inv X pins σ H s := ⟨I.ok.unwish, I.os, I.bare, I.base, I.loc, I.cell, I.free, I.freeC, I.pin, I.hok, I.len⟩
theorem SP.unwish {D : Ends} {f : Flow} {s' : Shared} (h : SP (X.wish E) pins D f s') : SP X pins D f s' := by
 cases f with
 | next => obtain ⟨σ', H', I, q⟩ := h; exact ⟨σ', H', I.unwish, q⟩
 | brk => obtain ⟨σ', H', I, q⟩ := h; exact ⟨σ', H', I.unwish, q⟩
 | cont => obtain ⟨σ', H', I, q⟩ := h; exact ⟨σ', H', I.unwish, q⟩
 | ret u => obtain ⟨v, σ', H', I, r, q⟩ := h; exact ⟨v, σ', H', I.unwish, r, q⟩
theorem PE.nox {e : Expr} {t : TE} (h : PE X.nox e t) : PE X e t := fun pins s σ H Q I hw =>
 wpAny_mono (h pins s σ H Q (I.wish _) hw) (fun _ _ ⟨v, H', I', r, q⟩ => ⟨v, H', I'.unwish, r, q⟩) fun _ _ z => False.elim z
theorem PT.nox {e : Expr} {t : TT} (h : PT X.nox e t) : PT X e t := fun pins s σ H Q I hw =>
 wpAny_mono (h pins s σ H Q (I.wish _) hw) (fun _ _ ⟨H', I', q⟩ => ⟨H', I'.unwish, q⟩) fun _ _ z => False.elim z
theorem PSs.nox {st : List Stmt} {t : TS} (h : PSs X.nox st t) : PSs X st t := fun pins s σ H D I hw =>
 wpAny_mono (h pins s σ H D (I.wish _) hw) (fun _ _ q => q.unwish) fun _ _ z => False.elim z
end
section
variable {X : Cx} {st : Stmt} {rest : List Stmt} {t u : TS} {e : Expr} {te : TE} {pos : Pos}
def tNext : TS := fun D σ H => D.nx σ H
def tSeq (t u : TS) : TS := fun D σ H => t { D with nx := u D } σ H
theorem pss_nil : PSs X [] tNext := fun _ _ σ H _ I h => wpAny_execs_nil ⟨σ, H, I, h⟩
theorem pss_cons (h1 : PS X st t) (h2 : PSs X rest u) : PSs X (st :: rest) (tSeq t u) := by
 intro pins s σ H D I h
 refine wpAny_execs_cons (thn (h1 pins s σ H { D with nx := u D } I h) fun f s1 q => ?_)
 cases f with
 | next =>
   obtain ⟨σ', H', I', q⟩ := q
   exact h2 pins s1 σ' H' D I' q
 | ret v => exact q
 | brk => exact q
 | cont => exact q
theorem pss_one (h1 : PS X st t) : PSs X [st] t := by
 intro pins s σ H D I h
 refine wpAny_execs_cons (thn (h1 pins s σ H D I h) fun f s1 q => ?_)
 cases f with
 | next => exact wpAny_execs_nil q
 | ret v => exact q
 | brk => exact q
 | cont => exact q
theorem Inv.quiet {pins : List (Addr × Obj)} {σ : St} {H : Hp} {s : Shared} (I : Inv X pins σ H s) : interactive X.env = false := by simp [interactive, I.ok.kind]
def tDrop (te : TE) : TS := fun D σ H => te σ H fun _ H1 => D.nx σ H1
theorem ps_expr (he : PE X e te) (hs : swapsWith e none pos.line X.env = pure false := by rfl) : PS X (.Expr e pos) (tDrop te) := by
 intro pins s σ H D I h
 exact wpAny_Expr_any (thn (he pins s σ H _ I h) fun v s1 ⟨x, H1, I1, r1, q1⟩ => ⟨σ, H1, I1, q1⟩) I.quiet hs
def tRet (te : TE) : TS := fun D σ H => te σ H D.rt
theorem ps_ret (he : PE X e te) : PS X (.Return (some e) pos) (tRet te) := by
 intro pins s σ H D I h
 exact wpAny_Return_some (thn (he pins s σ H _ I h) fun v s1 ⟨x, H1, I1, r1, q1⟩ => ⟨x, σ, H1, I1, r1, q1⟩)
def tIfS (c : TT) (t u : TS) : TS := fun D σ H => c σ H fun b H1 => if b = true then t D σ H1 else u D σ H1
theorem ps_if {c : Expr} {a b : List Stmt} {tc : TT} (hc : PT X c tc) (ha : PSs X a t) (hb : PSs X b u) : PS X (.If c a b pos) (tIfS tc t u) := by
 intro pins s σ H D I h
 refine wpAny_If (thn (hc pins s σ H _ I h) fun d s1 ⟨H1, I1, q1⟩ => ?_)
 cases d with
 | true => exact ha pins s1 σ H1 D I1 q1
 | false => exact hb pins s1 σ H1 D I1 q1
end
abbrev TG := V → St → Hp → (St → Hp → Prop) → Prop
abbrev TGs := List V → St → Hp → (St → Hp → Prop) → Prop
def PG (X : Cx) (target : Expr) (t : TG) : Prop :=
 ∀ (pins : List (Addr × Obj)) (s : Shared) (σ : St) (H : Hp) (v : V) (u : Value) (Q : St → Hp → Prop), Inv X pins σ H s → RelV v u → t v σ H Q →
   wpAny (model X.prog X.w) X.A (assign target X.env u) (fun _ s' => ∃ σ' H', Inv X pins σ' H' s' ∧ Q σ' H') X.xe s
def PGs (X : Cx) (ts : List Expr) (t : TGs) : Prop :=
 ∀ (pins : List (Addr × Obj)) (s : Shared) (σ : St) (H : Hp) (vs : List V) (us : List Value) (Q : St → Hp → Prop), Inv X pins σ H s → Vals vs us → t vs σ H Q →
   wpAny (model X.prog X.w) X.A (assignInOrder ((assignEach ts X.env).map (·.2)) us) (fun _ s' => ∃ σ' H', Inv X pins σ' H' s' ∧ Q σ' H') X.xe s
abbrev TSet := V → V → V → Hp → (Hp → Prop) → Prop
def PSet (X : Cx) (t : TSet) : Prop :=
 ∀ (pins : List (Addr × Obj)) (s : Shared) (σ : St) (H : Hp) (o i v : V) (ov iv u : Value) (Q : Hp → Prop), Inv X pins σ H s → RelV o ov → RelV i iv → RelV v u → t o i v H Q →
   wpAny (model X.prog X.w) X.A (setItem ov iv u) (fun _ s' => ∃ H', Inv X pins σ H' s' ∧ Q H') X.xe s
section
variable {X : Cx} {pos : Pos}
def gName (i : Nat) : TG := fun v σ H Q => Q (σ.set i (some v)) H
theorem pg_name {i : Nat} {x : Str} (hN : X.N.Nodup) (hi : X.N[i]? = some x) (hx : Loc X.env.scope x) (hf : X.fn x = true ∨ X.env.scope.names.lookup x = some .local := by first | exact .inl rfl | exact .inr rfl | assumption) : PG X (.Name x pos) (gName i) := by
 intro pins s σ H v u Q I r h
 exact wpAny_assign_Name (store_ok I hN hi hx r (fun s' I' => ⟨_, H, I', h⟩) hf)
def gNil : TGs := fun vs σ H Q => vs = [] ∧ Q σ H
def gCons (t : TG) (u : TGs) : TGs := fun vs σ H Q => ∃ v r, vs = v :: r ∧ t v σ H fun σ' H' => u r σ' H' Q
theorem pgs_nil : PGs X [] gNil := by
 intro pins s σ H vs us Q I r h
 obtain ⟨e, h⟩ := h
 subst e
 cases r
 exact assignInOrder_nil ⟨σ, H, I, h⟩
theorem pgs_cons {e : Expr} {es : List Expr} {t : TG} {u : TGs} (h1 : PG X e t) (h2 : PGs X es u)
   (hs : (assignEach (e :: es) X.env).map (·.2) = assign e X.env :: (assignEach es X.env).map (·.2) := by rfl) : PGs X (e :: es) (gCons t u) := by
 intro pins s σ H vs us Q I r h
 obtain ⟨v, vr, e1, h⟩ := h
 subst e1
 cases r with
 | cons r rr =>
   rw [hs]
   refine assignInOrder_cons (thn (h1 pins s σ H _ _ _ I r h) fun _ s1 ⟨σ1, H1, I1, q1⟩ => ?_)
   exact h2 pins s1 σ1 H1 _ _ Q I1 rr q1
def gTup (K : PySem.W.Frag) (n : Nat) (t : TGs) : TG := fun v σ H Q => ∃ a xs, v = .ref a ∧ SqT K H a xs ∧ xs.length = n ∧ t xs σ H Q
theorem pg_tup {es : List Expr} {k : Nat} {t : TGs} {n : Nat} (hc : X.calm = true) (h : PGs X es t)
   (hn : (assignEach es X.env).length = n := by rfl) (hst : (assignEach es X.env).findIdx? (·.1) = none := by rfl) : PG X (.Tuple es k pos) (gTup X.K n t) := by
 intro pins s σ H v u Q I r hw
 obtain ⟨a, xs, e1, hq, hl, hw⟩ := hw
 subst e1
 cases r
 obtain ⟨its, rv, ht, hz⟩ := I.tuple hq
 refine assign_Tuple_tuple (I.ok.hd hc) ht (by simp [hn, ← hl, rv.length]) hst fun h' hx => ?_
 have I1 : Inv X pins σ H { s with heap := h' } := I.kept (t' := s.toks) fun b o e => hx b o (Nat.ne_of_lt (Heap.lt_size e)) e
 exact h pins _ σ H xs _ Q I1 (by simpa using rv) hw
def gSub (to ti : TE) (t : TSet) : TG := fun v σ H Q => to σ H fun o H1 => ti σ H1 fun i H2 => t o i v H2 fun H3 => Q σ H3
theorem pg_sub {o i : Expr} {to ti : TE} {t : TSet} (ho : PE X o to) (hi : PE X i ti) (hs : PSet X t)
   (ha : ∀ v, assign (.Subscript o i pos) X.env v = (do
     let ov ← holding [v] (eval o X.env)
     let iv ← holding [v, ov] (eval i X.env)
     standAt pos
     holding [v, ov, iv] (setItem ov iv v)
     release [v, ov, iv] []) := by intro _; rfl) : PG X (.Subscript o i pos) (gSub to ti t) := by
 intro pins s σ H v u Q I r h
 rw [ha]
 refine wpAny_bind (wpAny_holding (thn (ho pins s σ H _ I h) fun ov s1 ⟨x, H1, I1, r1, q1⟩ => ?_))
 refine wpAny_bind (wpAny_holding (thn (hi pins s1 σ H1 _ I1 q1) fun iv s2 ⟨y, H2, I2, r2, q2⟩ => ?_))
 refine wpAny_bind (wpAny_standAt (wpAny_bind (wpAny_holding (thn (hs pins s2 σ H2 x y v ov iv u _ I2 r1 r2 r q2) fun _ s3 ⟨H3, I3, q3⟩ => ?_))))
 exact wpAny_release ⟨σ, H3, I3, q3⟩
def tAsg (te : TE) (g : TG) : TS := fun D σ H => te σ H fun x H1 => g x σ H1 D.nx
theorem ps_asg {tg e : Expr} {te : TE} {g : TG} (he : PE X e te) (hg : PG X tg g) (hs : swapsWithSole [tg] e pos.line X.env = pure false := by rfl) (hw : swappedStores [tg] e X.env = pure none := by rfl)
   (h1 : (assignEach [tg] X.env).map (·.2) = [assign tg X.env] := by rfl) : PS X (.Assign [tg] e pos) (tAsg te g) := by
 intro pins s σ H D I h
 refine wpAny_Assign_stores (thn (he pins s σ H _ I h) fun v s1 ⟨x, H1, I1, r1, q1⟩ => ?_) hs hw
 rw [h1]
 exact thn (hg pins s1 σ H1 x v _ I1 r1 q1) fun _ s2 q => q
theorem ps_set {i : Nat} {x : Str} {e : Expr} {te : TE} {pos' : Pos} (hN : X.N.Nodup) (hi : X.N[i]? = some x) (hx : Loc X.env.scope x) (he : PE X e te) (hs : swapsWith e (some (.Name x pos')) pos.line X.env = pure false := by rfl) (hf : X.fn x = true ∨ X.env.scope.names.lookup x = some .local := by first | exact .inl rfl | exact .inr rfl | assumption) :
   PS X (.Assign [.Name x pos'] e pos) (tAsg te (gName i)) := by
 intro pins s σ H D I h
 refine wpAny_Assign_Name (thn (he pins s σ H _ I h) fun v s1 ⟨y, H1, I1, r1, q1⟩ => ?_) hs
 exact store_ok I1 hN hi hx r1 (fun s2 I2 => ⟨_, H1, I2, q1⟩) hf
end
section
variable {X : Cx} {pos : Pos}
end
structure It where
 go : Nat → Hp → Prop
 yld : Nat → Hp → V → Hp → Prop
 stop : Nat → Hp → Prop
def FpOk (X : Cx) (pins : List (Addr × Obj)) (H : Hp) (b : Addr) : Prop :=
 H b = none ∧ b ≠ X.env.locals ∧ b ∉ X.fs ∧ (b ∈ X.ex ∨ X.s₀.heap.objs.size ≤ b) ∧ (∀ x c, X.env.cells.lookup x = some c → c ≠ b) ∧ ∀ p ∈ X.pn ++ pins, p.1 ≠ b
theorem Inv.fpOk {X : Cx} {pins : List (Addr × Obj)} {σ : St} {H H' : Hp} {s : Shared} {b : Addr} (I : Inv X pins σ H s) (hb : s.heap.objs.size ≤ b) (hn : H' b = none) : FpOk X pins H' b := by
 refine ⟨hn, Nat.ne_of_gt (Nat.lt_of_lt_of_le I.lt hb), I.nofs hb, .inr (Nat.le_trans I.sz hb), fun x c e z => ?_, fun p hp z => ?_⟩
 · obtain ⟨v, q⟩ := I.cell x c e
   exact absurd (Nat.lt_of_lt_of_le q.lt (by rw [z]; exact hb)) (Nat.lt_irrefl _)
 · exact absurd (Nat.lt_of_lt_of_le (Heap.lt_size (I.pin p hp).1) (by rw [z]; exact hb)) (Nat.lt_irrefl _)
structure Turn (P : Program) (w : World) (K : PySem.W.Frag) (tg : Expr) (J : It) (fp : List Addr) (it : Addr) (tn : Nat → Heap → Prop) : Prop where
 mem : it ∈ fp
 obj : ∀ i h, tn i h → ∀ b ∈ fp, ∃ o, h.get? b = some o ∧ ∀ v, o.data ≠ .cell v
 keep : ∀ i h h', tn i h → (∀ b ∈ fp, ∀ o, h.get? b = some o → h'.get? b = some o) → tn i h'
 item : ∀ (X : Cx), X.prog = P → X.w = w → X.K = K → X.calm = true → ∀ (i : Nat) (pins : List (Addr × Obj)) (s : Shared) (σ : St) (H : Hp) (E : Value → Shared → Prop), Inv X pins σ H s → (∀ b ∈ fp, FpOk X pins H b) → tn i s.heap → J.go i H →
   wpAny (model P w) X.A (pyNext (.ref it)) (fun r s1 => ∃ u, r = some u ∧
     wpAny (model P w) X.A (letOwnedTupleGo tg (.ref it) u) (fun _ s2 => ∃ x H', Inv X pins σ H' s2 ∧ RelV x u ∧ J.yld i H x H' ∧ tn (i + 1) s2.heap ∧ ∀ b ∈ fp, H' b = none) E s1) E s
 done : ∀ (X : Cx), X.prog = P → X.w = w → X.K = K → X.calm = true → ∀ (i : Nat) (pins : List (Addr × Obj)) (s : Shared) (σ : St) (H : Hp) (E : Value → Shared → Prop), Inv X pins σ H s → (∀ b ∈ fp, FpOk X pins H b) → tn i s.heap → J.stop i H →
   wpAny (model P w) X.A (pyNext (.ref it)) (fun r s1 => r = none ∧ Inv X pins σ H s1) E s
 self : ∀ (A : Around) (i : Nat) (s : Shared) (Q : Value → Shared → Prop) (E : Value → Shared → Prop), tn i s.heap → Q (.ref it) s → wpAny (model P w) A (pyIter (.ref it)) Q E s
abbrev TI := St → Hp → (It → Hp → Prop) → Prop
def PIE (X : Cx) (pins : List (Addr × Obj)) (σ : St) (tg : Expr) (R : It → Hp → Prop) (itv : Value) (s2 : Shared) : Prop :=
 ∃ (it : Addr) (fp : List Addr) (tn : Nat → Heap → Prop) (J : It) (H' : Hp), itv = .ref it ∧ Inv X pins σ H' s2 ∧ Turn X.prog X.w X.K tg J fp it tn ∧ tn 0 s2.heap ∧ (∀ b ∈ fp, FpOk X pins H' b) ∧ R J H'
def PI (X : Cx) (tg iter : Expr) (wi : TI) : Prop :=
 ∀ (pins : List (Addr × Obj)) (s : Shared) (σ : St) (H : Hp) (R : It → Hp → Prop), Inv X pins σ H s → wi σ H R →
   wpAny (model X.prog X.w) X.A (eval iter X.env) (fun v s1 => wpAny (model X.prog X.w) X.A (pyIter v) (PIE X pins σ tg R) X.xe s1) X.xe s
theorem go_of {M : Model} {A : Around} {E : Value → Shared → Prop} {s : Shared} {tg : Expr} {it : Addr} {u : Value} {o : Obj} {n : String} {vs : Array Value} {Q : Unit → Shared → Prop} (ho : s.heap.get? it = some o) (hc : o.cls = .type n) (hd : o.data = .fields vs)
   (hn : ["enumerate", "zip", "dict_itemiterator", "dict_reverseitemiterator", "odict_iterator", "itertools.zip_longest", "itertools.pairwise"].contains n = false) (hQ : Q () s) : wpAny M A (letOwnedTupleGo tg (.ref it) u) Q E s := by
 unfold letOwnedTupleGo
 cases tg <;> first
   | exact wpAny_pure hQ
   | (cases u <;> first
       | exact wpAny_pure hQ
       | (refine wpAny_bind (wpAny_load ho ?_)
          rw [hc, hd]
          show wpAny M A (if (["enumerate", "zip", "dict_itemiterator", "dict_reverseitemiterator", "odict_iterator", "itertools.zip_longest", "itertools.pairwise"].contains n && vs[0]? == some (rawInt _)) = true then _ else _) Q E s
          rw [if_neg (by intro h; rw [hn, Bool.false_and] at h; cases h)]
          exact wpAny_pure hQ))
def Itl (K : PySem.W.Frag) (a : Addr) : It :=
 ⟨fun i H => ∃ xs x, SqL K H a xs ∧ xs[i]? = some x, fun i H x H' => H' = H ∧ ∀ xs, SqL K H a xs → xs[i]? = some x, fun i H => ∃ xs, SqL K H a xs ∧ xs.length ≤ i⟩
def Itr (lo : Int) (n : Nat) : It := ⟨fun i _ => i < n, fun i H x H' => H' = H ∧ x = .int (lo + i), fun i _ => n ≤ i⟩
theorem turn_list {P : Program} {w : World} {K : PySem.W.Frag} {tg : Expr} (a it : Addr) : Turn P w K tg (Itl K a) [it] it (fun i h => h.IsListIter it a i) where
 mem := by simp
 obj := fun i h st b hb => by
   have e : b = it := by simpa using hb
   subst e
   obtain ⟨o, e, c, d⟩ := st
   exact ⟨o, e, fun v z => by rw [d] at z; cases z⟩
 keep := fun i h h' st k => st.at fun o e => k it (by simp) o e
 item := by
   intro X hP hw hK hc i pins s σ H E I hf st hg
   subst hP hw hK
   obtain ⟨xs, x, hq, hx⟩ := hg
   obtain ⟨its, rv, p, hz⟩ := I.list hq
   obtain ⟨u, hu, ru⟩ := rv.get hx
   obtain ⟨f0, f1, f2, f3, f4, f5⟩ := hf it (by simp)
   refine wpAny_pyNext_list_item st p.isList (x := u) (by simpa using hu) fun h' st' sb => ?_
   have I1 : Inv X pins σ H { s with heap := h' } := I.turned (t' := s.toks) (fun b o hb e => (sb.2 b hb).trans e) f0 f1 f3 f4 f5
   obtain ⟨o, e, c, d⟩ := id st'
   exact ⟨u, rfl, go_of (s := { s with heap := h' }) e c d (by decide) ⟨x, H, I1, ru, ⟨rfl, fun ys hy => by rw [I.list_inj hy hq]; exact hx⟩, st', fun b hb => (hf b hb).1⟩⟩
 done := by
   intro X hP hw hK hc i pins s σ H E I hf st hg
   subst hP hw hK
   obtain ⟨xs, hq, hx⟩ := hg
   obtain ⟨its, rv, p, hz⟩ := I.list hq
   obtain ⟨f0, f1, f2, f3, f4, f5⟩ := hf it (by simp)
   have hl := rv.length
   exact wpAny_pyNext_list_end (I.ok.hd hc) st p.isList (by simp; omega) fun h' eb => ⟨rfl, I.turned (t' := s.toks) (fun b o hb e => eb b o hb e) f0 f1 f3 f4 f5⟩
 self := fun _ _ _ _ _ st h => wpAny_pyIter_listiter st h
theorem turn_range {P : Program} {w : World} {K : PySem.W.Frag} {tg : Expr} (it : Addr) (lo : Int) (n : Nat) : Turn P w K tg (Itr lo n) [it] it (fun i h => IsRangeIter h it (lo + (i : Nat) * 1) ((n : Int) - (i : Nat)) 1) where
 mem := by simp
 obj := fun i h st b hb => by
   have e : b = it := by simpa using hb
   subst e
   exact ⟨_, st, fun v z => by
     have z' : Data.fields _ = Data.cell v := z
     cases z'⟩
 keep := fun i h h' st k => k it (by simp) _ st
 item := by
   intro X hP hw hK hc i pins s σ H E I hf st hg
   subst hP hw hK
   obtain ⟨f0, f1, f2, f3, f4, f5⟩ := hf it (by simp)
   have W := Walks.range (prog := X.prog) (w := X.w) (I.ok.hd hc) it lo 1 n
   refine W.item i s _ _ hg st fun v h' tk hv st' kk => ?_
   obtain ⟨t, rfl⟩ := hv
   have I1 : Inv X pins σ H { s with heap := h', toks := tk } := I.turned (fun b o hb e => kk b o (by simpa using hb) e) f0 f1 f3 f4 f5
   refine ⟨_, rfl, go_of (s := { s with heap := h', toks := tk }) (n := "range_iterator") st' rfl rfl (by decide) ⟨.int (lo + i), H, I1, ⟨t, ?_⟩, ⟨rfl, rfl⟩, st', fun b hb => (hf b hb).1⟩⟩
   rw [Int.mul_one]
 done := by
   intro X hP hw hK hc i pins s σ H E I hf st hg
   subst hP hw hK
   obtain ⟨f0, f1, f2, f3, f4, f5⟩ := hf it (by simp)
   exact wpAny_pyNext_range_end (I.ok.hd hc) st (by have : n ≤ i := hg; omega) fun h' eb => ⟨rfl, I.turned (t' := s.toks) (fun b o hb e => eb b o hb e) f0 f1 f3 f4 f5⟩
 self := fun _ _ _ _ _ st h => wpAny_pyIter_rangeiter st h
end L2
namespace L2
open PySem PySem.Spec PyProof.Rows
section
variable {X : Cx} {tg : Expr}
def iList (K : PySem.W.Frag) (tl : TE) : TI := fun σ H R => tl σ H fun x H1 => ∃ a, x = .ref a ∧ (∃ xs, SqL K H1 a xs) ∧ R (Itl K a) H1
theorem pi_list {l : Expr} {tl : TE} (hl : PE X l tl) : PI X tg l (iList X.K tl) := by
 intro pins s σ H R I h
 refine thn (hl pins s σ H _ I h) fun v s1 ⟨x, H1, I1, r1, q1⟩ => ?_
 obtain ⟨a, e, ⟨xs, hq⟩, q⟩ := q1
 subst e
 cases r1
 obtain ⟨its, rv, p, hz⟩ := I1.list hq
 refine wpAny_pyIter_list p.isList ?_
 refine ⟨s1.heap.objs.size, [s1.heap.objs.size], _, _, H1, rfl, I1.kept (t' := s1.toks) fun b o e => Heap.get?_push_of_some _ e, turn_list a _, ⟨_, Heap.get?_push_size _ rfl, rfl, rfl⟩, fun b hb => ?_, q⟩
 have e : b = s1.heap.objs.size := by simpa using hb
 subst e
 exact I1.fpOk (Nat.le_refl _) (I1.hok.fresh (Nat.le_refl _))
theorem range_it {pins : List (Addr × Obj)} {σ : St} {H : Hp} {s : Shared} {R : It → Hp → Prop} {E : Value → Shared → Prop} {lo hi : Int} {t u v : Tok} {tk : Nat} (I : Inv X pins σ H s) (h1 : -(2 ^ 62) ≤ lo) (h2 : lo < 2 ^ 62) (h3 : -(2 ^ 62) ≤ hi) (h4 : hi < 2 ^ 62)
   (q : R (Itr lo (hi - lo).toNat) H) : wpAny (model X.prog X.w) X.A (pyIter (.ref s.heap.objs.size)) (PIE X pins σ tg R) E { s with heap := s.heap.push { cls := .type "range", data := .fields #[.int lo t, .int hi u, .int 1 v] }, toks := tk } := by
 refine wpAny_pyIter_range (IsRange.new ..) (small_one h1 h2 h3 h4) ?_
 have I1 : Inv X pins σ H { s with heap := s.heap.push { cls := .type "range", data := .fields #[.int lo t, .int hi u, .int 1 v] }, toks := tk } := I.kept fun b o e => Heap.get?_push_of_some _ e
 refine ⟨(s.heap.push { cls := .type "range", data := .fields #[.int lo t, .int hi u, .int 1 v] }).objs.size, [(s.heap.push { cls := .type "range", data := .fields #[.int lo t, .int hi u, .int 1 v] }).objs.size], _, _, H, rfl,
   I1.kept (t' := tk) fun b o e => Heap.get?_push_of_some _ e, turn_range _ lo (hi - lo).toNat, ?_, fun b hb => ?_, q⟩
 · have e1 : lo + ((0 : Nat) : Int) * 1 = lo := by simp
   have e2 : (((hi - lo).toNat : Nat) : Int) - ((0 : Nat) : Int) = Builtin.Range.rangeSize lo hi 1 := by rw [rangeSize_one]; split <;> omega
   show IsRangeIter _ _ (lo + ((0 : Nat) : Int) * 1) ((((hi - lo).toNat : Nat) : Int) - ((0 : Nat) : Int)) 1
   rw [e1, e2]
   exact Heap.get?_push_size _ rfl
 · have e : b = (s.heap.push { cls := .type "range", data := .fields #[.int lo t, .int hi u, .int 1 v] }).objs.size := by simpa using hb
   subst e
   exact I1.fpOk (Nat.le_refl _) (I1.hok.fresh (Nat.le_refl _))
def iRng1 (ta : TA) : TI := fun σ H R => ta σ H fun vs H1 => ∃ j : Int, vs = [.int j] ∧ -(2 ^ 62) ≤ j ∧ j < 2 ^ 62 ∧ R (Itr 0 j.toNat) H1
theorem pi_range1 {a : Expr} {ta : TA} {p pos : Pos} (hg : Gl X "range") (hm : X.mg "range" = none) (ha : PA X [a] ta) (hs : starEach [a] X.env = [(false, eval a X.env)] := by rfl) : PI X tg (.Call (.Name "range" p) [a] [] pos) (iRng1 ta) := by
 intro pins s σ H R I h
 refine Call_ (ld_blt I hg hm boot_range (PyProof.Rows.callWith_type1 (thn (ha pos pins s σ H _ I h) fun us s1 ⟨vs, H1, I1, r1, q1⟩ => ?_) hs rfl))
 obtain ⟨j, e, q1, q2, q⟩ := q1
 subst e
 cases r1 with
 | cons r rr =>
   cases rr
   obtain ⟨t, rfl⟩ := r
   exact call_range_1 (range_it I1 (by omega) (by omega) q1 q2 (by simpa using q))
def tFor (wi : TI) (g : TG) (tb : TS) : TS := fun D σ H => wi σ H fun J H1 => ∃ W : Nat → Nat → St → Hp → Prop, (∃ m, W 0 m σ H1) ∧ ∀ i m σ H, W i m σ H →
 (J.stop i H ∧ D.nx σ H) ∨ (J.go i H ∧ ∃ N : St → Hp → Prop, (∀ σ' H', N σ' H' → ∃ m', m' < m ∧ W (i + 1) m' σ' H') ∧ ∀ x H', J.yld i H x H' → g x σ H' fun σ2 H2 => tb { D with nx := N, ct := N, bk := D.nx } σ2 H2)
def pinsAt (fp : List Addr) (h : Heap) : List (Addr × Obj) := fp.filterMap fun b => (h.get? b).map fun o => (b, o)
theorem mem_pinsAt {fp : List Addr} {h : Heap} {b : Addr} {o : Obj} (hb : b ∈ fp) (e : h.get? b = some o) : (b, o) ∈ pinsAt fp h := List.mem_filterMap.mpr ⟨b, hb, by rw [e]; rfl⟩
theorem of_pinsAt {fp : List Addr} {h : Heap} {p : Addr × Obj} (hp : p ∈ pinsAt fp h) : p.1 ∈ fp ∧ h.get? p.1 = some p.2 := by
 obtain ⟨b, hb, e⟩ := List.mem_filterMap.mp hp
 cases q : h.get? b with
 | none => rw [q] at e; cases e
 | some o =>
   rw [q] at e
   have e' : (b, o) = p := Option.some.inj e
   subst e'
   exact ⟨hb, q⟩
theorem Inv.pinned {pins : List (Addr × Obj)} {σ : St} {H : Hp} {s : Shared} {fp : List Addr} (I : Inv X pins σ H s) (hf : ∀ b ∈ fp, FpOk X pins H b) (ho : ∀ b ∈ fp, ∃ o, s.heap.get? b = some o ∧ ∀ v, o.data ≠ .cell v) : Inv X (pins ++ pinsAt fp s.heap) σ H s :=
 I.pins_of fun p hp => (List.mem_append.mp hp).elim (fun z => I.pin p (List.mem_append_right _ z)) fun z => by
   obtain ⟨hb, e⟩ := of_pinsAt z
   obtain ⟨f0, f1, f2, _⟩ := hf p.1 hb
   obtain ⟨o, e', d⟩ := ho p.1 hb
   rw [e] at e'; cases e'
   exact ⟨e, f0, f1, f2, d⟩
theorem Inv.unpinned {pins pl : List (Addr × Obj)} {σ : St} {H : Hp} {s : Shared} (I : Inv X (pins ++ pl) σ H s) : Inv X pins σ H s := I.pins_of fun p hp => I.pin p (List.mem_append_right _ (List.mem_append_left _ hp))
theorem ps_for {iter : Expr} {body : List Stmt} {wi : TI} {g : TG} {tb : TS} {pos : Pos} (hp : PassesOwn (model X.prog X.w) X.A X.env X.xe) (hc : X.calm = true) (hi : PI X tg iter wi) (hg : PG X tg g) (hb : PSs X body tb)
   (hs : ∀ x, foldedSetIterable iter X.env x = pure x := by intro _; rfl) : PS X (.For tg iter body [] pos) (tFor wi g tb) := by
 intro pins s σ H D I h
 refine wpAny_For (thn (hi pins s σ H _ I h) fun v s1 h1 => thn h1 fun itv s2 h2 => ?_) hs
 obtain ⟨it, fp, tn, J, H2, e, I2, T, st2, f2, W, ⟨m0, w0⟩, turn⟩ := h2
 subst e
 -- what stays true of the iterator's objects through the loop
 have stat : ∀ {H' : Hp}, (∀ b ∈ fp, H' b = none) → ∀ b ∈ fp, FpOk X pins H' b := fun hn b hb => ⟨hn b hb, (f2 b hb).2⟩
 refine codeAny_forLoop_any (fun n s' => ∃ i σ' H', Inv X pins σ' H' s' ∧ tn i s'.heap ∧ (∀ b ∈ fp, H' b = none) ∧ W i n σ' H') ?_ m0 ⟨0, σ, H2, I2, st2, fun b hb => (f2 b hb).1, w0⟩
 rintro n s3 ⟨i, σ3, H3, I3, st3, fr3, w3⟩
 rcases turn i n σ3 H3 w3 with ⟨stop, qn⟩ | ⟨go, N, hN, step⟩
 · refine wpAny_passesOwn hp (thn (T.done X rfl rfl rfl hc i pins s3 σ3 H3 X.xe I3 (stat fr3) st3 stop) fun r s4 ⟨hr, I4⟩ => ?_)
   subst hr
   exact wpAny_execs_nil ⟨σ3, H3, I4, qn⟩
 · refine wpAny_passesOwn hp (thn (T.item X rfl rfl rfl hc i pins s3 σ3 H3 X.xe I3 (stat fr3) st3 go) fun r s4 ⟨u, hr, h4⟩ => ?_)
   subst hr
   refine wpAny_passesOwn hp (thn h4 fun _ s5 ⟨x, H5, I5, r5, y5, st5, fr5⟩ => ?_)
   have I5' := I5.pinned (stat fr5) (T.obj _ _ st5)
   refine wpAny_passesOwn hp (thn (hg _ s5 σ3 H5 x u _ I5' r5 (step x H5 y5)) fun _ s6 ⟨σ6, H6, I6, q6⟩ => ?_)
   refine wpAny_passesOwn hp (thn (hb _ s6 σ6 H6 _ I6 q6) fun f s7 q7 => ?_)
   have again : ∀ {σ7 : St} {H7 : Hp}, Inv X (pins ++ pinsAt fp s5.heap) σ7 H7 s7 → N σ7 H7 → ∃ m, m < n ∧ ∃ i σ' H', Inv X pins σ' H' s7 ∧ tn i s7.heap ∧ (∀ b ∈ fp, H' b = none) ∧ W i m σ' H' := fun {σ7 H7} I7 n7 => by
     obtain ⟨m', hm, w7⟩ := hN σ7 H7 n7
     refine ⟨m', hm, i + 1, σ7, H7, I7.unpinned, T.keep _ _ _ st5 fun b hb o e => (I7.pin (b, o) (List.mem_append_right _ (List.mem_append_right _ (mem_pinsAt hb e)))).1, fun b hb => ?_, w7⟩
     obtain ⟨o, e, d⟩ := T.obj _ _ st5 b hb
     exact (I7.pin (b, o) (List.mem_append_right _ (List.mem_append_right _ (mem_pinsAt hb e)))).2.1
   cases f with
   | next => obtain ⟨σ7, H7, I7, n7⟩ := q7; exact again I7 n7
   | cont => obtain ⟨σ7, H7, I7, n7⟩ := q7; exact again I7 n7
   | brk => obtain ⟨σ7, H7, I7, q7⟩ := q7; exact ⟨σ7, H7, I7.unpinned, q7⟩
   | ret v => obtain ⟨x7, σ7, H7, I7, r7, q7⟩ := q7; exact ⟨x7, σ7, H7, I7.unpinned, r7, q7⟩
end
theorem for_list {K : PySem.W.Frag} {a : Addr} {xs : List V} {g : TG} {tb : TS} {D : Ends} {σ : St} {H : Hp} (Pv : Nat → St → Hp → Prop) (h0 : Pv 0 σ H) (hl : ∀ i σ H, i ≤ xs.length → Pv i σ H → SqL K H a xs)
   (hs : ∀ i x σ H, xs[i]? = some x → Pv i σ H → g x σ H fun σ2 H2 => tb { D with nx := Pv (i + 1), ct := Pv (i + 1), bk := D.nx } σ2 H2) (hd : ∀ σ H, Pv xs.length σ H → D.nx σ H) :
   ∃ W : Nat → Nat → St → Hp → Prop, (∃ m, W 0 m σ H) ∧ ∀ i m σ H, W i m σ H →
     ((Itl K a).stop i H ∧ D.nx σ H) ∨ ((Itl K a).go i H ∧ ∃ N : St → Hp → Prop, (∀ σ' H', N σ' H' → ∃ m', m' < m ∧ W (i + 1) m' σ' H') ∧ ∀ x H', (Itl K a).yld i H x H' → g x σ H' fun σ2 H2 => tb { D with nx := N, ct := N, bk := D.nx } σ2 H2) := by
 refine ⟨fun i m σ H => m = xs.length - i ∧ i ≤ xs.length ∧ Pv i σ H, ⟨xs.length, by simp, Nat.zero_le _, h0⟩, ?_⟩
 rintro i m σ H ⟨rfl, hi, p⟩
 have q := hl i σ H hi p
 by_cases hlt : i < xs.length
 · refine .inr ⟨⟨xs, xs[i], q, by simp [hlt]⟩, Pv (i + 1), fun σ' H' p' => ⟨xs.length - (i + 1), by omega, rfl, hlt, p'⟩, fun x H' y => ?_⟩
   obtain ⟨e, y⟩ := y
   subst e
   exact hs i x σ _ (y xs q) p
 · have e : i = xs.length := by omega
   subst e
   exact .inl ⟨⟨xs, q, Nat.le_refl _⟩, hd σ H p⟩
theorem for_range {lo : Int} {n : Nat} {g : TG} {tb : TS} {D : Ends} {σ : St} {H : Hp} (Pv : Nat → St → Hp → Prop) (h0 : Pv 0 σ H)
   (hs : ∀ i σ H, i < n → Pv i σ H → g (.int (lo + i)) σ H fun σ2 H2 => tb { D with nx := Pv (i + 1), ct := Pv (i + 1), bk := D.nx } σ2 H2) (hd : ∀ σ H, Pv n σ H → D.nx σ H) :
   ∃ W : Nat → Nat → St → Hp → Prop, (∃ m, W 0 m σ H) ∧ ∀ i m σ H, W i m σ H →
     ((Itr lo n).stop i H ∧ D.nx σ H) ∨ ((Itr lo n).go i H ∧ ∃ N : St → Hp → Prop, (∀ σ' H', N σ' H' → ∃ m', m' < m ∧ W (i + 1) m' σ' H') ∧ ∀ x H', (Itr lo n).yld i H x H' → g x σ H' fun σ2 H2 => tb { D with nx := N, ct := N, bk := D.nx } σ2 H2) := by
 refine ⟨fun i m σ H => m = n - i ∧ i ≤ n ∧ Pv i σ H, ⟨n, by simp, Nat.zero_le _, h0⟩, ?_⟩
 rintro i m σ H ⟨rfl, hi, p⟩
 by_cases hlt : i < n
 · refine .inr ⟨hlt, Pv (i + 1), fun σ' H' p' => ⟨n - (i + 1), by omega, rfl, hlt, p'⟩, fun x H' y => ?_⟩
   obtain ⟨e, y⟩ := y
   subst e y
   exact hs i σ _ hlt p
 · have e : i = n := by omega
   subst e
   exact .inl ⟨Nat.le_refl _, hd σ H p⟩
end L2
namespace L2
open PySem PySem.Spec PyProof.Rows
abbrev R2 := V → V → Hp → VK → Prop
def OpR (X : Cx) (f : Value → Value → Sem Value) (r : R2) : Prop :=
 ∀ (pins : List (Addr × Obj)) (s : Shared) (σ : St) (H : Hp) (x y : V) (v u : Value) (Q : VK), Inv X pins σ H s → RelV x v → RelV y u → r x y H Q →
   wpAny (model X.prog X.w) X.A (f v u) (EP X pins σ Q) X.xe s
def UnR (X : Cx) (f : Value → Sem Value) (r : V → Hp → VK → Prop) : Prop :=
 ∀ (pins : List (Addr × Obj)) (s : Shared) (σ : St) (H : Hp) (x : V) (v : Value) (Q : VK), Inv X pins σ H s → RelV x v → r x H Q →
   wpAny (model X.prog X.w) X.A (f v) (EP X pins σ Q) X.xe s
def CallR (X : Cx) (f : Value) (r : List V → Hp → VK → Prop) : Prop :=
 ∀ (pins : List (Addr × Obj)) (s : Shared) (σ : St) (H : Hp) (xs : List V) (us : List Value) (Q : VK), Inv X pins σ H s → Vals xs us → r xs H Q →
   wpAny (model X.prog X.w) X.A (call f us) (EP X pins σ Q) X.xe s
def tOp (r : R2) (ta tb : TE) : TE := fun σ H Q => ta σ H fun x H1 => tb σ H1 fun y H2 => r x y H2 Q
def tUn (r : V → Hp → VK → Prop) (ta : TE) : TE := fun σ H Q => ta σ H fun x H1 => r x H1 Q
def rI (C : Int → Int → Prop) (g : Int → Int → V) : R2 := fun x y H Q => ∃ i j, x = .int i ∧ y = .int j ∧ C i j ∧ Q (g i j) H
def rI0 (g : Int → Int → V) : R2 := fun x y H Q => ∃ i j, x = .int i ∧ y = .int j ∧ Q (g i j) H
def rU (g : Int → V) : V → Hp → VK → Prop := fun x H Q => ∃ i, x = .int i ∧ Q (g i) H
section
variable {X : Cx} {a b c : Expr} {ta tb tc : TE} {pos : Pos}
theorem binT (ha : PE X a ta) (hb : PE X b tb) {pins : List (Addr × Obj)} {s : Shared} {σ : St} {H : Hp} {R : V → V → Hp → Prop} (I : Inv X pins σ H s)
   (h : ta σ H fun x H1 => tb σ H1 fun y H2 => R x y H2) {Q : Value → Shared → Prop} {f : Value → Value → Sem Value}
   (hf : ∀ v u s2 x y H2, Inv X pins σ H2 s2 → RelV x v → RelV y u → R x y H2 → wpAny (model X.prog X.w) X.A (f v u) Q X.xe s2) :
   wpAny (model X.prog X.w) X.A (eval a X.env) (fun v s₁ => wpAny (model X.prog X.w) X.A (eval b X.env) (fun u s₂ => wpAny (model X.prog X.w) X.A (f v u) Q X.xe s₂) X.xe s₁) X.xe s := by
 refine thn (ha pins s σ H _ I h) fun v s1 ⟨x, H1, I1, r1, q1⟩ => ?_
 refine thn (hb pins s1 σ H1 _ I1 q1) fun u s2 ⟨y, H2, I2, r2, q2⟩ => ?_
 exact hf v u s2 x y H2 I2 r1 r2 q2
theorem pe_op {op : Operator} {r : R2} (ho : OpR X (binaryOp op) r) (ha : PE X a ta) (hb : PE X b tb) : PE X (.BinOp a op b pos) (tOp r ta tb) := by
 intro pins s σ H Q I h
 exact wpAny_BinOp (binT ha hb I h fun v u s2 x y H2 I2 rx ry q => ho pins s2 σ H2 x y v u Q I2 rx ry q)
theorem pe_un {op : UnaryOp} {r : V → Hp → VK → Prop} (ho : UnR X (unaryOp op) r) (ha : PE X a ta) : PE X (.UnaryOp op a pos) (tUn r ta) := by
 intro pins s σ H Q I h
 exact UnaryOp_ (thn (ha pins s σ H _ I h) fun v s1 ⟨x, H1, I1, r1, q1⟩ => ho pins s1 σ H1 x v Q I1 r1 q1)
theorem opI {f : Value → Value → Sem Value} {C : Int → Int → Prop} {g : Int → Int → Int}
   (rule : ∀ (i j : Int) (t u : Tok) (s : Shared) (Q : Value → Shared → Prop) (E : Value → Shared → Prop), C i j → Q (.int (g i j) s.toks) { s with toks := s.toks + 1 } → wpAny (model X.prog X.w) X.A (f (.int i t) (.int j u)) Q E s) :
   OpR X f (rI C fun i j => .int (g i j)) := by
 intro pins s σ H x y v u Q I rx ry h
 obtain ⟨i, j, rfl, rfl, hc, q⟩ := h
 obtain ⟨t, rfl⟩ := rx
 obtain ⟨t', rfl⟩ := ry
 exact rule i j t t' s _ _ hc ⟨.int (g i j), H, I.tok _, ⟨_, rfl⟩, q⟩
theorem opI0 {f : Value → Value → Sem Value} {g : Int → Int → Int}
   (rule : ∀ (i j : Int) (t u : Tok) (s : Shared) (Q : Value → Shared → Prop) (E : Value → Shared → Prop), Q (.int (g i j) s.toks) { s with toks := s.toks + 1 } → wpAny (model X.prog X.w) X.A (f (.int i t) (.int j u)) Q E s) :
   OpR X f (rI0 fun i j => .int (g i j)) := by
 intro pins s σ H x y v u Q I rx ry h
 obtain ⟨i, j, rfl, rfl, q⟩ := h
 obtain ⟨t, rfl⟩ := rx
 obtain ⟨t', rfl⟩ := ry
 exact rule i j t t' s _ _ ⟨.int (g i j), H, I.tok _, ⟨_, rfl⟩, q⟩
theorem opB0 {f : Value → Value → Sem Value} {g : Int → Int → Bool}
   (rule : ∀ (i j : Int) (t u : Tok) (s : Shared) (Q : Value → Shared → Prop) (E : Value → Shared → Prop), Q (.bool (g i j)) s → wpAny (model X.prog X.w) X.A (f (.int i t) (.int j u)) Q E s) :
   OpR X f (rI0 fun i j => .bl (g i j)) := by
 intro pins s σ H x y v u Q I rx ry h
 obtain ⟨i, j, rfl, rfl, q⟩ := h
 obtain ⟨t, rfl⟩ := rx
 obtain ⟨t', rfl⟩ := ry
 exact rule i j t t' s _ _ ⟨.bl (g i j), H, I, rfl, q⟩
def CDiv (i j : Int) : Prop := 0 < j ∧ j < 1073741824
def CPow (i j : Int) : Prop := 0 ≤ j ∧ j ≤ 1000000 ∧ i.natAbs < 2 ^ 64
def CMul (i j : Int) : Prop := (-(2 ^ 64) < i ∧ i < 2 ^ 64) ∨ (-(2 ^ 64) < j ∧ j < 2 ^ 64)
theorem CMul.ok {i j : Int} (h : CMul i j) : IntMulOk i j := by
 rcases h with ⟨h1, h2⟩ | ⟨h1, h2⟩
 · exact .of_left (intBits_le_64 h1 h2)
 · exact .of_right (intBits_le_64 h1 h2)
theorem op_add : OpR X (binaryOp .Add) (rI0 fun i j => .int (i + j)) := opI0 fun _ _ _ _ _ _ _ q => add_int q
theorem op_sub : OpR X (binaryOp .Sub) (rI0 fun i j => .int (i - j)) := opI0 fun _ _ _ _ _ _ _ q => sub_int q
theorem op_fdiv : OpR X (binaryOp .FloorDiv) (rI CDiv fun i j => .int (i / j)) := opI fun i j _ _ _ _ _ hc q => by
 have h1 : (0 : Int) < j := hc.1
 have h2 : j < 1073741824 := hc.2
 exact floordiv_int (by omega) (by rw [Int.fdiv_eq_ediv_of_nonneg i (by omega)]; exact q) (.inl (PyProof.noPylong_small (by omega)))
theorem op_mod : OpR X (binaryOp .Mod) (rI (fun _ j => 0 < j) fun i j => .int (i % j)) := opI fun i j _ _ _ _ _ hc q => by
 have h1 : (0 : Int) < j := hc
 exact mod_int' (by omega) (by rw [Int.fmod_eq_emod_of_nonneg i (by omega)]; exact q)
theorem op_pow : OpR X (binaryOp .Pow) (rI CPow fun i j => .int (i ^ j.toNat)) := opI fun _ _ _ _ _ _ _ hc q => pow_int_small hc.1 hc.2.1 hc.2.2 q
theorem unI {f : Value → Sem Value} {g : Int → Int}
   (rule : ∀ (i : Int) (t : Tok) (s : Shared) (Q : Value → Shared → Prop) (E : Value → Shared → Prop), Q (.int (g i) s.toks) { s with toks := s.toks + 1 } → wpAny (model X.prog X.w) X.A (f (.int i t)) Q E s) :
   UnR X f (rU fun i => .int (g i)) := by
 intro pins s σ H x v Q I rx h
 obtain ⟨i, rfl, q⟩ := h
 obtain ⟨t, rfl⟩ := rx
 exact rule i t s _ _ ⟨.int (g i), H, I.tok _, ⟨_, rfl⟩, q⟩
theorem un_neg : UnR X (unaryOp .USub) (rU fun i => .int (-i)) := unI fun _ _ _ _ _ q => neg_int q
end
def scal : V → V → Bool
 | .non, .non => true | .non, .int _ => true | .int _, .non => true | .non, .bl _ => true | .bl _, .non => true | .non, .str _ => true | .str _, .non => true
 | .int _, .int _ => true | .bl _, .bl _ => true | .str _, .str _ => true | .byt _, .byt _ => true
 | .int _, .str _ => true | .str _, .int _ => true | .bl _, .str _ => true | .str _, .bl _ => true
 | _, _ => false
def rEq : R2 := fun x y H Q => scal x y = true ∧ Q (.bl (decide (x = y))) H
def rNe : R2 := fun x y H Q => scal x y = true ∧ Q (.bl (!decide (x = y))) H
theorem dec_int {i j : Int} : decide (V.int i = V.int j) = (i == j) := by
 rw [Bool.eq_iff_iff]
 simp
theorem dec_bl {i j : Bool} : decide (V.bl i = V.bl j) = (i == j) := by
 rw [Bool.eq_iff_iff]
 simp
theorem dec_str {i j : Str} : decide (V.str i = V.str j) = (i == j) := by
 rw [Bool.eq_iff_iff]
 simp
theorem dec_byt {i j : Array UInt8} : decide (V.byt i = V.byt j) = (i.toList == j.toList) := by
 rw [Bool.eq_iff_iff]
 cases i
 cases j
 simp
section
variable {X : Cx} {a b c : Expr} {ta tb tc : TE} {pos : Pos}
theorem fin_bl {pins : List (Addr × Obj)} {σ : St} {H : Hp} {s : Shared} {Q : VK} {k k' : Bool} (I : Inv X pins σ H s) (q : Q (.bl k) H) (e : k = k') : EP X pins σ Q (.bool k') s := by
 subst e
 exact ⟨.bl k, H, I, rfl, q⟩
theorem op_eq : OpR X (compareOp .Eq) rEq := by
 intro pins s σ H x y v u Q I rx ry h
 obtain ⟨hs, q⟩ := h
 cases x with
 | non =>
   cases rx
   cases y with
   | non => cases ry; exact PySem.EqNone.eq_none_none (fin_bl I q (by simp))
   | bl j => cases ry; exact PySem.EqNone.eq_none_bool (fin_bl I q (by simp))
   | int j => obtain ⟨t', rfl⟩ := ry; exact PySem.EqNone.eq_none_int (fin_bl I q (by simp))
   | str j => obtain ⟨t', rfl⟩ := ry; exact PySem.EqNone.eq_none_str (fin_bl I q (by simp))
   | _ => exact absurd (show false = true from hs) Bool.false_ne_true
 | bl i =>
   cases rx
   cases y with
   | non => cases ry; exact PySem.EqNone.eq_bool_none (fin_bl I q (by simp))
   | bl j => cases ry; exact eq_bool (fin_bl I q dec_bl)
   | str j => obtain ⟨t', rfl⟩ := ry; exact PySem.EqMixed.eq_bool_str (fin_bl I q (by simp))
   | _ => exact absurd (show false = true from hs) Bool.false_ne_true
 | int i =>
   obtain ⟨t, rfl⟩ := rx
   cases y with
   | non => cases ry; exact PySem.EqNone.eq_int_none (fin_bl I q (by simp))
   | int j => obtain ⟨t', rfl⟩ := ry; exact eq_int (fin_bl I q dec_int)
   | str j => obtain ⟨t', rfl⟩ := ry; exact PySem.EqMixed.eq_int_str (fin_bl I q (by simp))
   | _ => exact absurd (show false = true from hs) Bool.false_ne_true
 | str i =>
   obtain ⟨t, rfl⟩ := rx
   cases y with
   | non => cases ry; exact PySem.EqNone.eq_str_none (fin_bl I q (by simp))
   | bl j => cases ry; exact PySem.EqMixed.eq_str_bool (fin_bl I q (by simp))
   | int j => obtain ⟨t', rfl⟩ := ry; exact PySem.EqMixed.eq_str_int (fin_bl I q (by simp))
   | str j => obtain ⟨t', rfl⟩ := ry; exact eq_str (fin_bl I q dec_str)
   | _ => exact absurd (show false = true from hs) Bool.false_ne_true
 | byt i =>
   obtain ⟨t, rfl⟩ := rx
   cases y with
   | byt j => obtain ⟨t', rfl⟩ := ry; exact PySem.W.eq_bytes (fin_bl I q dec_byt)
   | _ => exact absurd (show false = true from hs) Bool.false_ne_true
 | _ => cases y <;> exact absurd (show false = true from hs) Bool.false_ne_true
theorem op_ne : OpR X (compareOp .NotEq) rNe := by
 intro pins s σ H x y v u Q I rx ry h
 obtain ⟨hs, q⟩ := h
 cases x with
 | non =>
   cases rx
   cases y with
   | non => cases ry; exact PySem.EqNone.ne_none_none (fin_bl I q (by simp))
   | bl j => cases ry; exact PySem.EqNone.ne_none_bool (fin_bl I q (by simp))
   | int j => obtain ⟨t', rfl⟩ := ry; exact PySem.EqNone.ne_none_int (fin_bl I q (by simp))
   | str j => obtain ⟨t', rfl⟩ := ry; exact PySem.EqNone.ne_none_str (fin_bl I q (by simp))
   | _ => exact absurd (show false = true from hs) Bool.false_ne_true
 | bl i =>
   cases rx
   cases y with
   | non => cases ry; exact PySem.EqNone.ne_bool_none (fin_bl I q (by simp))
   | bl j => cases ry; exact ne_bool (fin_bl I q (congrArg not dec_bl))
   | str j => obtain ⟨t', rfl⟩ := ry; exact PySem.EqMixed.ne_bool_str (fin_bl I q (by simp))
   | _ => exact absurd (show false = true from hs) Bool.false_ne_true
 | int i =>
   obtain ⟨t, rfl⟩ := rx
   cases y with
   | non => cases ry; exact PySem.EqNone.ne_int_none (fin_bl I q (by simp))
   | int j => obtain ⟨t', rfl⟩ := ry; exact ne_int (fin_bl I q (congrArg not dec_int))
   | str j => obtain ⟨t', rfl⟩ := ry; exact PySem.EqMixed.ne_int_str (fin_bl I q (by simp))
   | _ => exact absurd (show false = true from hs) Bool.false_ne_true
 | str i =>
   obtain ⟨t, rfl⟩ := rx
   cases y with
   | non => cases ry; exact PySem.EqNone.ne_str_none (fin_bl I q (by simp))
   | bl j => cases ry; exact PySem.EqMixed.ne_str_bool (fin_bl I q (by simp))
   | int j => obtain ⟨t', rfl⟩ := ry; exact PySem.EqMixed.ne_str_int (fin_bl I q (by simp))
   | str j => obtain ⟨t', rfl⟩ := ry; exact ne_str (fin_bl I q (congrArg not dec_str))
   | _ => exact absurd (show false = true from hs) Bool.false_ne_true
 | byt i =>
   obtain ⟨t, rfl⟩ := rx
   cases y with
   | byt j => obtain ⟨t', rfl⟩ := ry; exact PySem.W.ne_bytes (fin_bl I q (congrArg not dec_byt))
   | _ => exact absurd (show false = true from hs) Bool.false_ne_true
 | _ => cases y <;> exact absurd (show false = true from hs) Bool.false_ne_true
theorem op_lt : OpR X (compareOp .Lt) (rI0 fun i j => .bl (decide (i < j))) := opB0 fun _ _ _ _ _ _ _ q => lt_int q
theorem op_le : OpR X (compareOp .LtE) (rI0 fun i j => .bl (decide (i ≤ j))) := opB0 fun _ _ _ _ _ _ _ q => le_int q
theorem op_isN : OpR X (compareOp .Is) (fun x y H Q => y = .non ∧ Q (.bl (decide (x = .non))) H) := by
 intro pins s σ H x y v u Q I rx ry h
 obtain ⟨rfl, q⟩ := h
 cases ry
 refine is_none_gen (fin_bl I q ?_)
 cases x <;> first
   | (cases rx; rfl)
   | (obtain ⟨t, rfl⟩ := rx; rfl)
theorem op_notN : OpR X (compareOp .IsNot) (fun x y H Q => y = .non ∧ Q (.bl (!decide (x = .non))) H) := by
 intro pins s σ H x y v u Q I rx ry h
 obtain ⟨rfl, q⟩ := h
 cases ry
 refine isnot_none_gen (fin_bl I q ?_)
 cases x <;> first
   | (cases rx; rfl)
   | (obtain ⟨t, rfl⟩ := rx; rfl)
theorem OpR.or {f : Value → Value → Sem Value} {r r' : R2} (h : OpR X f r) (h' : OpR X f r') : OpR X f (fun x y H Q => r x y H Q ∨ r' x y H Q) := by
 intro pins s σ H x y v u Q I rx ry q
 rcases q with q | q
 · exact h pins s σ H x y v u Q I rx ry q
 · exact h' pins s σ H x y v u Q I rx ry q
theorem nomark (b : Expr) {op : CmpOp} (h : op ≠ .In := by decide) (h2 : op ≠ .NotIn := by decide) : behindInMarks op b = false := by
 have e1 : (op == CmpOp.In) = false := by cases op <;> first | rfl | exact absurd rfl h
 have e2 : (op == CmpOp.NotIn) = false := by cases op <;> first | rfl | exact absurd rfl h2
 cases b <;> simp [behindInMarks, e1, e2]
theorem pe_cmpR {op : CmpOp} {r : R2} (ho : OpR X (compareOp op) r) (ha : PE X a ta) (hb : PE X b tb) (hm : behindInMarks op b = false) : PE X (.Compare a [op] [b] pos) (tOp r ta tb) := by
 intro pins s σ H Q I h
 exact wpAny_Compare1 (binT ha hb I h fun v u s2 x y H2 I2 rx ry q => ho pins s2 σ H2 x y v u Q I2 rx ry q) hm
def tTest (t : TE) : TT := fun σ H Q => t σ H fun x H' => ∃ k, x = .bl k ∧ Q k H'
theorem pt_cmpR {op : CmpOp} {r : R2} (ho : OpR X (compareOp op) r) (ha : PE X a ta) (hb : PE X b tb) (hm : behindInMarks op b = false) : PT X (.Compare a [op] [b] pos) (tTest (tOp r ta tb)) := by
 intro pins s σ H Q I h
 refine wpAny_isTrue_Compare1 (thn (ha pins s σ H _ I h) fun v s1 ⟨x, H1, I1, r1, q1⟩ => thn (hb pins s1 σ H1 _ I1 q1) fun u s2 ⟨y, H2, I2, r2, q2⟩ =>
   thn (ho pins s2 σ H2 x y v u _ I2 r1 r2 q2) fun c s3 ⟨z, H3, I3, r3, k, e, q3⟩ => ?_) hm
 subst e
 cases r3
 exact wpAny_truthy_bool ⟨H3, I3, q3⟩
theorem line63 : (sizeLine : Nat) < 2 ^ 63 := by rw [sizeLine_eq]; decide
theorem op_add_str : OpR X (binaryOp .Add) (fun x y H Q => ∃ i j, x = .str i ∧ y = .str j ∧ i.length + j.length ≤ sizeLine ∧ Q (.str (i ++ j)) H) := by
 intro pins s σ H x y v u Q I rx ry h
 obtain ⟨i, j, rfl, rfl, hz, q⟩ := h
 obtain ⟨t, rfl⟩ := rx
 obtain ⟨t', rfl⟩ := ry
 exact add_str (fun t' tk => ⟨.str (i ++ j), H, I.tok _, ⟨_, rfl⟩, q⟩) hz
theorem vals1 {x : V} {us : List Value} (r : Vals [x] us) : ∃ u, us = [u] ∧ RelV x u := by
 cases r with
 | cons r1 r2 => cases r2; exact ⟨_, rfl, r1⟩
theorem vals2 {x y : V} {us : List Value} (r : Vals [x, y] us) : ∃ u w', us = [u, w'] ∧ RelV x u ∧ RelV y w' := by
 cases r with
 | cons r1 r2 =>
   cases r2 with
   | cons r3 r4 => cases r4; exact ⟨_, _, rfl, r1, r3⟩
theorem call_max2 (hc : X.calm = true) : CallR X (.builtin "max") (fun xs H Q => ∃ i j, xs = [.int i, .int j] ∧ Q (.int (if j > i then j else i)) H) := by
 intro pins s σ H xs us Q I r h
 obtain ⟨i, j, rfl, q⟩ := h
 obtain ⟨u, w', rfl, ⟨t, rfl⟩, ⟨t', rfl⟩⟩ := vals2 r
 refine max_two_ints (I.ok.hd hc) fun h' tk k => ⟨_, H, I.kept k, ?_, q⟩
 by_cases hj : j > i
 · rw [if_pos hj, if_pos hj]; exact ⟨_, rfl⟩
 · rw [if_neg hj, if_neg hj]; exact ⟨_, rfl⟩
theorem call_int1 : CallR X (.type "int") (fun xs H Q => (∃ i, xs = [.int i] ∧ Q (.int i) H) ∨ ∃ k, xs = [.bl k] ∧ Q (.int (if k then 1 else 0)) H) := by
 intro pins s σ H xs us Q I r h
 rcases h with ⟨i, rfl, q⟩ | ⟨k, rfl, q⟩
 · obtain ⟨u, rfl, t, rfl⟩ := vals1 r
   exact call_int_int ⟨.int i, H, I, ⟨_, rfl⟩, q⟩
 · obtain ⟨u, rfl, r1⟩ := vals1 r
   cases r1
   exact call_int_bool ⟨.int (if k then 1 else 0), H, I.tok _, ⟨_, rfl⟩, q⟩
end
end L2
namespace L2
open PySem PySem.Spec PyProof.Rows
structure ObjM (h : Heap) (x dx C : Addr) (mA : Str → Option Value) : Prop where
 obj : h.get? x = some (PySem.W.instObj C dx)
 ns : h.Ns1 dx mA
 ne : dx ≠ x
theorem lookIn_ns {h : Heap} {dx : Addr} {mA : Str → Option Value} (n : h.Ns1 dx mA) : ∃ od, h.get? dx = some od ∧ ∀ name, PySem.W.lookIn name od = some (mA name) := by
 obtain ⟨o, es, ep, ho, hd, hk, _, hm⟩ := n
 refine ⟨o, ho, fun name => ?_⟩
 have e := hm name
 unfold nsFind findBy at e
 rw [← Array.find?_toList] at e
 unfold PySem.W.lookIn
 rw [hd]
 dsimp only
 split
 · rename_i y q
   rw [q] at e
   exact congrArg some e
 · rename_i q
   rw [q] at e
   have a : es.toList.any (·.refKey) = false := by
     rw [List.any_eq_false]
     intro y hy
     obtain ⟨z, t, hkey⟩ := hk y (Array.mem_toList_iff.mp hy)
     simp [DictEntry.refKey, hkey]
   have a' : ¬ es.toList.any (·.refKey) = true := by rw [a]; exact Bool.false_ne_true
   rw [if_neg a']
   exact congrArg some e
theorem ObjM.look {h : Heap} {x dx C : Addr} {mA : Str → Option Value} (I : ObjM h x dx C mA) : ∃ od, PySem.W.InstAt h x (PySem.W.instObj C dx) C (some od) ∧ ∀ name, PySem.W.lookIn name od = some (mA name) :=
 let ⟨od, ho, hl⟩ := lookIn_ns I.ns
 ⟨od, ⟨I.obj, rfl, rfl, ho⟩, hl⟩
section
variable {prog : Program} {w : World} {A : Around} {E : Value → Shared → Prop} {s : Shared} {K : PySem.W.Frag} {x dx C f : Addr} {mA : Str → Option Value} {name : Str} {v : Value}
theorem get_map {expr : Bool} {Q : Value → Shared → Prop} (X : K.In s.heap) (I : ObjM s.heap x dx C mA) (hg : PySem.W.plainGet K C name = true) (hh : PySem.W.hasDictIn K C = true)
   (ha : PySem.W.findIn K (.ref C) name = some none) (hv : mA name = some v) (hv' : PySem.W.handedIn v = true) (h : Q v { s with toks := s.toks + 1 }) :
   wpAny (model prog w) A (getAttr (.ref x) name expr) Q E s := by
 obtain ⟨od, J, hl⟩ := I.look
 exact PySem.W.get_value X J (PySem.W.plainGet_of hg).1 (PySem.W.findObj_own hh ha rfl (by rw [hl, hv])) hv' h
theorem get_meth {pl : Sem Bool} {Q : Value × List Value → Shared → Prop} (X : K.In s.heap) (I : ObjM s.heap x dx C mA) (hg : PySem.W.plainGet K C name = true)
   (hf : PySem.W.findIn K (.ref C) name = some (some (.ref f))) (ht : PySem.W.isFn K (.ref f) = true) (hv : mA name = none) (h : Q (.ref f, [.ref x]) s) :
   wpAny (model prog w) A (getMethod (.ref x) name pl) Q E s := by
 obtain ⟨od, J, hl⟩ := I.look
 exact PySem.W.method_fn X J (PySem.W.plainGet_of hg).1 (PySem.W.plainGet_of hg).2 hf (beq_iff_eq.mp ht) (by show (PySem.W.lookIn name od).map (·.isSome) = some false; rw [hl, hv]; rfl) h
theorem set_map {ns : List Str} {Q : Unit → Shared → Prop} (X : K.In s.heap) (I : ObjM s.heap x dx C mA)
   (hs : PySem.W.findIn K (.ref C) "__setattr__" = some (some (.builtin "object.__setattr__"))) (hp : PySem.W.plainOver K C = true) (ht : PySem.W.takerIn K C name = some none) (hh : PySem.W.hasDictIn K C = true)
   (hw : PySem.Within mA ns) (hsz : ns.length ≤ sizeLine)
   (h : ∀ h', ObjM h' x dx C (fun y => if y = name then some v else mA y) → Heap.SameBut dx s.heap h' → Q () { s with heap := h', toks := s.toks + 2 }) :
   wpAny (model prog w) A (setAttr (.ref x) name v) Q E s := by
 obtain ⟨od, J, hl⟩ := I.look
 refine PySem.W.set_plain X J hs (PySem.W.osa_open (s := { s with toks := s.toks + 1 }) (r := none) X J hp ht fun b => ?_)
 obtain ⟨cd, hc, hd'⟩ := PySem.W.any_some hh
 have hx : s.heap.get? x = some ⟨.ref C, some dx, .plain, #[]⟩ := I.obj
 refine wpAny_bind (wpAny_pure (wpAny_bind (wpAny_bind (wpAny_loadPart hx (wpAny_bind (PySem.W.Looks.here (s := { s with toks := s.toks + 1 }) (PySem.W.looks_clsIn X hc) ?_))))))
 rw [hd']
 refine wpAny_pure (a := some dx) (wpAny_bind (wpAny_pure (wpAny_bind ?_)))
 refine wpAny_nsSet1 (s := { s with toks := s.toks + 1 }) I.ns fun h' hn2 hs2 => ?_
 obtain ⟨oD, esD, epD, hoD, hdD, hcD⟩ := hn2.count (PySem.Within.cons name v hw)
 refine wpAny_bind (wpAny_lookBehind hoD (by rw [hdD]; exact pastItsLine_dict (Nat.le_trans hcD (by rw [List.length_cons]; omega))) ?_)
 exact wpAny_pure (h _ ⟨(hs2.2 _ (Ne.symm I.ne)).trans I.obj, hn2, I.ne⟩ hs2)
theorem make_map {R : Result → Shared → Prop} {vs : List Value} {kw : List (Str × Value)} (X : K.In s.heap) (hm : PySem.W.makesIn K C = true)
   (hi : PySem.W.findIn K (.ref C) "__init__" = some (some (.ref f))) (hf : PySem.W.typeIn K (.ref f) = some (.type "function"))
   (h : codeAny (model prog w) (A.under (.builtin "type.__call__" ⟨.ref C :: vs, kw⟩)) (.call (.ref f) ⟨.ref (s.heap.objs.size + 1) :: vs, kw⟩) (PySem.W.InitBack (s.heap.objs.size + 1) R)
     { s with heap := (s.heap.push PySem.W.emptyDict).push (PySem.W.instObj C s.heap.objs.size) }) :
   codeAny (model prog w) A (.call (.ref C) ⟨vs, kw⟩) R s := by
 obtain ⟨hh, g, d, t, os⟩ := s
 exact PySem.W.make_core (PySem.W.makes_of X hm) (PySem.W.looks_findIn X hi) (fun self => PySem.W.bind_fn X self hf) (.inl rfl) h
end
def putF (f : Str) (v : V) : List (Str × V) → List (Str × V)
 | [] => [(f, v)]
 | (g, x) :: r => if g = f then (g, v) :: r else (g, x) :: putF f v r
theorem lookup_putF (f g : Str) (v : V) : ∀ fs : List (Str × V), (putF f v fs).lookup g = if g = f then some v else fs.lookup g
 | [] => by
   show List.lookup g [(f, v)] = _
   by_cases h : g = f
   · have hb : (g == f) = true := beq_iff_eq.mpr h
     simp only [List.lookup, hb, if_pos h]
   · have hb : (g == f) = false := beq_eq_false_iff_ne.mpr h
     simp only [List.lookup, hb, if_neg h]
 | (k, x) :: r => by
   have ih := lookup_putF f g v r
   rw [show putF f v ((k, x) :: r) = (if k = f then (k, v) :: r else (k, x) :: putF f v r) from rfl]
   by_cases hk : k = f
   · rw [if_pos hk]
     by_cases h : g = k
     · have hb : (g == k) = true := beq_iff_eq.mpr h
       simp only [List.lookup, hb, if_pos (h.trans hk)]
     · have hb : (g == k) = false := beq_eq_false_iff_ne.mpr h
       simp only [List.lookup, hb, if_neg (fun e : g = f => h (e.trans hk.symm))]
   · rw [if_neg hk]
     by_cases h : g = k
     · have hb : (g == k) = true := beq_iff_eq.mpr h
       simp only [List.lookup, hb, if_neg (fun e : g = f => hk (h.symm.trans e))]
     · have hb : (g == k) = false := beq_eq_false_iff_ne.mpr h
       simp only [List.lookup, hb]
       exact ih
theorem keys_putF (f : Str) (v : V) : ∀ fs : List (Str × V), f ∈ (putF f v fs).map (·.1) ∧ ∀ g, g ∈ fs.map (·.1) → g ∈ (putF f v fs).map (·.1)
 | [] => ⟨by simp [putF], fun g h => by simp at h⟩
 | (k, x) :: r => by
   obtain ⟨i1, i2⟩ := keys_putF f v r
   rw [show putF f v ((k, x) :: r) = (if k = f then (k, v) :: r else (k, x) :: putF f v r) from rfl]
   by_cases hk : k = f
   · rw [if_pos hk]
     subst hk
     exact ⟨by simp, fun g h => by simpa using h⟩
   · rw [if_neg hk]
     refine ⟨?_, fun g h => ?_⟩
     · rw [List.map_cons]
       exact List.mem_cons_of_mem _ i1
     · rw [List.map_cons] at h ⊢
       rcases List.mem_cons.mp h with e | e
       · exact List.mem_cons.mpr (.inl e)
       · exact List.mem_cons_of_mem _ (i2 g e)
theorem length_putF (f : Str) (v : V) : ∀ fs : List (Str × V), (putF f v fs).length ≤ fs.length + 1
 | [] => by simp [putF]
 | (k, x) :: r => by
   have ih := length_putF f v r
   rw [show putF f v ((k, x) :: r) = (if k = f then (k, v) :: r else (k, x) :: putF f v r) from rfl]
   by_cases hk : k = f
   · rw [if_pos hk, List.length_cons, List.length_cons]; omega
   · rw [if_neg hk, List.length_cons, List.length_cons]; omega
theorem RelO.some_of {v : V} {o : Option Value} (r : RelO (some v) o) : ∃ u, o = some u ∧ RelV v u := by
 cases o with
 | none => exact (show False from r).elim
 | some u => exact ⟨u, rfl, r⟩
theorem RelO.none_of {o : Option Value} (r : RelO none o) : o = none := by
 cases o with
 | none => rfl
 | some u => exact (show False from r).elim
theorem handed_of {v : V} {u : Value} (r : RelV v u) : PySem.W.handedIn u = true := by
 cases v with
 | non => cases (show u = Value.none from r); rfl
 | bl b => cases (show u = Value.bool b from r); rfl
 | int i => obtain ⟨t, e⟩ := (show ∃ t, u = Value.int i t from r); cases e; rfl
 | str x => obtain ⟨t, e⟩ := (show ∃ t, u = Value.str x t from r); cases e; rfl
 | byt b => obtain ⟨t, e⟩ := (show ∃ t, u = Value.bytes b t from r); cases e; rfl
 | flt b => obtain ⟨t, e⟩ := (show ∃ t, u = Value.float b t from r); cases e; rfl
 | ref a => cases (show u = Value.ref a from r); rfl
 | ty n => cases (show u = Value.type n from r); rfl
section
variable {P : Program} {w : World} {H H' : Hp} {h h' : Heap} {a C dx : Addr} {fs fs' : List (Str × V)}
theorem ins_get (hok : HOk P w H h) (e : H a = some (.ins C dx fs)) : ∃ mA, ObjM h a dx C mA ∧ (∀ f, RelO (fs.lookup f) (mA f)) ∧ PySem.Within mA (fs.map (·.1)) ∧ fs.length ≤ 1000 ∧ H dx = some (.own a) := by
 obtain ⟨d, z, ne, ob, mA, n, r, q⟩ := (show ObjOk P w H h a (.ins C dx fs) from hok a _ e)
 exact ⟨mA, ⟨ob, n, ne⟩, r, q, z, d⟩
end
structure Cls (K : PySem.W.Frag) (C : Addr) : Prop where
 pg : PySem.W.plainGet K C Str.empty = true
 hd : PySem.W.hasDictIn K C = true
 po : PySem.W.plainOver K C = true
 sa : PySem.W.findIn K (.ref C) "__setattr__" = some (some (.builtin "object.__setattr__"))
theorem Cls.get {K : PySem.W.Frag} {C : Addr} (c : Cls K C) (f : Str) : PySem.W.plainGet K C f = true := c.pg
def NoAttr (K : PySem.W.Frag) (C : Addr) (f : Str) : Prop := PySem.W.findIn K (.ref C) f = some none
theorem NoAttr.taker {K : PySem.W.Frag} {C : Addr} {f : Str} (n : NoAttr K C f) : PySem.W.takerIn K C f = some none := by
 unfold PySem.W.takerIn
 rw [show PySem.W.findIn K (.ref C) f = some none from n]
 rfl
structure Meth (K : PySem.W.Frag) (C : Addr) (m : Str) (f : Addr) : Prop where
 at_ : PySem.W.findIn K (.ref C) m = some (some (.ref f))
 fn : PySem.W.isFn K (.ref f) = true
 kp : PySem.W.keepIn K (.ref f) = true
section
variable {X : Cx} {pins : List (Addr × Obj)} {σ : St} {H : Hp} {s : Shared} {a C dx : Addr} {fs : List (Str × V)} {f : Str} {v : V} {A : Around} {E : Value → Shared → Prop}
theorem getattr_ok {b : Bool} {Q : Value → Shared → Prop} (I : Inv X pins σ H s) (e : H a = some (.ins C dx fs)) (c : Cls X.K C) (n : NoAttr X.K C f) (l : fs.lookup f = some v)
   (h : ∀ u s', Inv X pins σ H s' → RelV v u → Q u s') : wpAny (model X.prog X.w) A (getAttr (.ref a) f b) Q E s := by
 obtain ⟨mA, O, r, _, _, _⟩ := ins_get I.hok e
 obtain ⟨u, hu, ru⟩ := RelO.some_of (v := v) (o := mA f) (by rw [← l]; exact r f)
 exact get_map I.kIn O (c.get f) c.hd n hu (handed_of ru) (h u _ (I.tok _) ru)
theorem getmeth_ok {m : Str} {g : Addr} {pl : Sem Bool} {Q : Value × List Value → Shared → Prop} (I : Inv X pins σ H s) (e : H a = some (.ins C dx fs)) (c : Cls X.K C) (k : Meth X.K C m g) (l : fs.lookup m = none)
   (h : Q (.ref g, [.ref a]) s) : wpAny (model X.prog X.w) A (getMethod (.ref a) m pl) Q E s := by
 obtain ⟨mA, O, r, _, _, _⟩ := ins_get I.hok e
 have hn : mA m = none := RelO.none_of (by rw [← l]; exact r m)
 exact get_meth I.kIn O (c.get m) k.at_ k.fn hn h
theorem setattr_ok {y : V} {u : Value} {Q : Unit → Shared → Prop} (I : Inv X pins σ H s) (e : H a = some (.ins C dx fs)) (c : Cls X.K C) (n : NoAttr X.K C f) (hl : fs.length < 1000) (ry : RelV y u)
   (h : ∀ s', Inv X pins σ (upd H a (.ins C dx (putF f y fs))) s' → Q () s') : wpAny (model X.prog X.w) A (setAttr (.ref a) f u) Q E s := by
 obtain ⟨mA, O, r, wi, _, ho⟩ := ins_get I.hok e
 have hz : (fs.map (·.1)).length ≤ sizeLine := by rw [List.length_map, sizeLine_eq]; omega
 refine set_map I.kIn O c.sa c.po n.taker c.hd wi hz fun h' O' sb => h _ ?_
 have hd : ∃ o, h'.get? dx = some o := let ⟨o, _, _, e', _⟩ := O'.ns; ⟨o, e'⟩
 refine I.write (x := a) (e := dx) (by rw [e]; exact True.intro) (.inr ho) (fun b q hb z => (sb.2 b hb).trans z) hd ?_
 refine ⟨by rw [upd_ne O.ne]; exact ho, ?_, O.ne, O'.obj, _, O'.ns, fun g => ?_, fun g hg => ?_⟩
 · have := length_putF f y fs; omega
 · show RelO ((putF f y fs).lookup g) (if g = f then some u else mA g)
   rw [lookup_putF]
   by_cases q : g = f
   · rw [if_pos q, if_pos q]; exact ry
   · rw [if_neg q, if_neg q]; exact r g
 · by_cases q : g = f
   · rw [q]; exact (keys_putF f y fs).1
   · refine (keys_putF f y fs).2 g (wi g fun z => hg ?_)
     show (if g = f then some u else mA g) = none
     rw [if_neg q]; exact z
theorem Inv.made (I : Inv X pins σ H s) : Inv X pins σ (upd (upd H s.heap.objs.size (.own (s.heap.objs.size + 1))) (s.heap.objs.size + 1) (.ins C s.heap.objs.size []))
   { s with heap := (s.heap.push PySem.W.emptyDict).push (PySem.W.instObj C s.heap.objs.size) } := by
 have e1 : (s.heap.push PySem.W.emptyDict).get? s.heap.objs.size = some PySem.W.emptyDict := Heap.get?_push_size s.heap rfl
 have e2 : ((s.heap.push PySem.W.emptyDict).push (PySem.W.instObj C s.heap.objs.size)).get? (s.heap.objs.size + 1) = some (PySem.W.instObj C s.heap.objs.size) := by
   have := Heap.get?_push_size (s.heap.push PySem.W.emptyDict) (o := PySem.W.instObj C s.heap.objs.size) rfl
   rwa [Heap.size_push] at this
 have e3 : (s.heap.push PySem.W.emptyDict).Ns s.heap.objs.size (fun _ => none) := ⟨PySem.W.emptyDict, #[], _, e1, rfl, (fun e he => absurd he (by simp)), fun _ => rfl⟩
 have I1 := I.laid (a := s.heap.objs.size) (o := .own (s.heap.objs.size + 1)) (h' := s.heap.push PySem.W.emptyDict) (t' := s.toks) (fun b u q => Heap.get?_push_of_some _ q) (Nat.le_refl _) ⟨_, e1⟩
 refine I1.laid (a := s.heap.objs.size + 1) (o := .ins C s.heap.objs.size []) (t' := s.toks) (fun b u q => Heap.get?_push_of_some _ q) (Nat.le_of_eq (Heap.size_push _ _)) ?_
 have ne : s.heap.objs.size ≠ s.heap.objs.size + 1 := Nat.ne_of_lt (Nat.lt_succ_self _)
 refine ⟨by rw [upd_ne ne, upd_same], Nat.zero_le _, ne, e2, fun _ => none, (Heap.Ns1.of_empty e3).at fun o q => Heap.get?_push_of_some _ q, fun _ => True.intro, fun y hy => absurd rfl hy⟩
theorem attr_of {prog : Program} {w : World} {env : Env} {e : Expr} {f : Str} {pos : Pos} {s : Shared} {Q : Value → Shared → Prop} (hb : attributeBase e f env (eval e env) = eval e env)
   (h : wpAny (model prog w) A (eval e env) (fun o s₁ => wpAny (model prog w) A (getAttr o f true) Q E s₁) E s) : wpAny (model prog w) A (eval (.Attribute e f pos) env) Q E s :=
 Attribute_any_ h (by rw [arm_eval_Attribute, hb])
end
def tFld (K : PySem.W.Frag) (ta : TE) (f : Str) : TE := fun σ H Q => ta σ H fun x H1 => ∃ a C dx fs v, x = .ref a ∧ H1 a = some (.ins C dx fs) ∧ Cls K C ∧ NoAttr K C f ∧ fs.lookup f = some v ∧ Q v H1
def sFld (K : PySem.W.Frag) (ta tv : TE) (f : Str) : TS := fun D σ H => tv σ H fun y H1 => ta σ H1 fun x H2 => ∃ a C dx fs, x = .ref a ∧ H2 a = some (.ins C dx fs) ∧ Cls K C ∧ NoAttr K C f ∧ fs.length < 1000 ∧
 D.nx σ (upd H2 a (.ins C dx (putF f y fs)))
section
variable {X : Cx} {o e value : Expr} {f : Str} {pos pos' tpos : Pos} {ta tv : TE}
theorem pe_fld (he : PE X e ta) (hb : attributeBase e f X.env (eval e X.env) = eval e X.env) : PE X (.Attribute e f pos) (tFld X.K ta f) := by
 intro pins s σ H Q I h
 refine attr_of hb (thn (he pins s σ H _ I h) fun u s1 ⟨x, H1, I1, rx, a, C, dx, fs, v, ex, ea, c, n, l, q⟩ => ?_)
 subst ex
 obtain rfl : u = Value.ref a := rx
 exact getattr_ok I1 ea c n l fun u' s2 I2 ru => ⟨v, H1, I2, ru, q⟩
theorem ps_fld (ha : PE X o ta) (hv : PE X value tv) (hs : swapsWith value (some (.Attribute o f pos')) pos.line X.env = pure false) : PS X (.Assign [.Attribute o f pos'] value pos) (sFld X.K ta tv f) := by
 intro pins s σ H D I h
 refine plainObj_wpAny_Assign_Attribute (thn (hv pins s σ H _ I h) fun u s1 ⟨y, H1, I1, ry, q⟩ => thn (ha pins s1 σ H1 _ I1 q) fun ov s2 ⟨x, H2, I2, rx, a, C, dx, fs, ex, ea, c, n, l, q2⟩ => ?_) hs
 subst ex
 obtain rfl : ov = Value.ref a := rx
 exact setattr_ok I2 ea c n l ry fun s3 I3 => ⟨σ, _, I3, q2⟩
end
section
variable {X : Cx} {pins : List (Addr × Obj)} {σ : St} {H : Hp} {s : Shared} {A : Around} {E : Value → Shared → Prop} {Q : Value → Shared → Prop} {c : Value} {b : Bool}
inductive TyOf (K : PySem.W.Frag) (H : Hp) : V → Value → Prop where
 | non : TyOf K H .non (.type "NoneType")
 | bl (x : Bool) : TyOf K H (.bl x) (.type "bool")
 | int (i : Int) : TyOf K H (.int i) (.type "int")
 | str (x : Str) : TyOf K H (.str x) (.type "str")
 | flt (x : UInt64) : TyOf K H (.flt x) (.type "float")
 | lst {a : Addr} {xs : List V} (e : H a = some (.lst xs)) : TyOf K H (.ref a) (.type "list")
 | frz {a : Addr} {o : Obj} {xs : List V} (e : H a = some (.frz o (.lst xs))) : TyOf K H (.ref a) (.type "list")
 | tup {a : Addr} {xs : List V} (e : H a = some (.tup xs)) : TyOf K H (.ref a) (.type "tuple")
 | dK {a : Addr} {kvs : List (Key × V)} (e : H a = some (.dK kvs)) : TyOf K H (.ref a) (.type "dict")
 | dT {a : Addr} {kvs : List (List Key × V)} (e : H a = some (.dT kvs)) : TyOf K H (.ref a) (.type "dict")
 | ins {a C dx : Addr} {fs : List (Str × V)} (e : H a = some (.ins C dx fs)) (cl : Cls K C) (ha : PySem.W.findIn K (.ref C) "__class__" = some (some (.builtin "object.__class__")))
     (hn : PySem.W.specialIn K (.builtin "object.__class__") "__get__" = some (some (.builtin "getset_descriptor.__get__"))) (htk : PySem.W.takesIn K (.builtin "object.__class__") = some true)
     (hm : PySem.W.mroIn K C (.type "object") = some true) : TyOf K H (.ref a) (.ref C)
theorem isinst_ok {x : V} {u t : Value} (I : Inv X pins σ H s) (rx : RelV x u) (ty : TyOf X.K H x t) (e : PySem.W.kitOne X.K t c = some b) (h : ∀ tk, Q (.bool b) { s with toks := tk }) :
   wpAny (model X.prog X.w) A (call (.builtin "isinstance") [u, c]) Q E s := by
 cases ty with
 | non => cases (show u = Value.none from rx); exact PySem.W.kia_one PySem.W.kitx_none I.kIn True.intro e (fun z => nomatch z) h
 | bl y => cases (show u = Value.bool y from rx); exact PySem.W.kia_one PySem.W.kitx_bool I.kIn True.intro e (fun z => nomatch z) h
 | int i => obtain ⟨t, q⟩ := (show ∃ t, u = Value.int i t from rx); cases q; exact PySem.W.kia_one PySem.W.kitx_int I.kIn True.intro e (fun z => nomatch z) h
 | str y => obtain ⟨t, q⟩ := (show ∃ t, u = Value.str y t from rx); cases q; exact PySem.W.kia_one PySem.W.kitx_str I.kIn True.intro e (fun z => nomatch z) h
 | flt y => obtain ⟨t, q⟩ := (show ∃ t, u = Value.float y t from rx); cases q; exact PySem.W.kia_one PySem.W.kitx_float I.kIn True.intro e (fun z => nomatch z) h
 | @lst a xs ea =>
   cases (show u = Value.ref a from rx)
   obtain ⟨_, _, n, _, h1⟩ := (show ObjOk X.prog X.w H s.heap a (.lst xs) from I.hok a _ ea)
   exact PySem.W.kia_one PySem.W.kitx_list I.kIn ⟨_, h1, rfl⟩ e (fun z => nomatch z) h
 | @frz a ob xs ea =>
   cases (show u = Value.ref a from rx)
   obtain ⟨_, _, _, n, _, h1⟩ := (show ObjOk X.prog X.w H s.heap a (.frz ob (.lst xs)) from I.hok a _ ea)
   exact PySem.W.kia_one PySem.W.kitx_list I.kIn ⟨_, h1, rfl⟩ e (fun z => nomatch z) h
 | @tup a xs ea =>
   cases (show u = Value.ref a from rx)
   obtain ⟨_, _, _, p⟩ := (show ObjOk X.prog X.w H s.heap a (.tup xs) from I.hok a _ ea)
   obtain ⟨o, h1, h2, _⟩ := p
   exact PySem.W.kia_one PySem.W.kitx_tuple I.kIn ⟨o, h1, h2⟩ e (fun z => nomatch z) h
 | @dK a kvs ea =>
   cases (show u = Value.ref a from rx)
   obtain ⟨_, _, vs, _, p⟩ := (show ObjOk X.prog X.w H s.heap a (.dK kvs) from I.hok a _ ea)
   obtain ⟨o, es, ep, h1, h2, _⟩ := p
   exact PySem.W.kia_one PySem.W.kitx_dict I.kIn ⟨o, h1, h2.1⟩ e (fun z => nomatch z) h
 | @dT a kvs ea =>
   cases (show u = Value.ref a from rx)
   obtain ⟨_, _, xs, _, o, es, ep, h1, h2, _⟩ := (show ObjOk X.prog X.w H s.heap a (.dT kvs) from I.hok a _ ea)
   exact PySem.W.kia_one PySem.W.kitx_dict I.kIn ⟨o, h1, h2.1⟩ e (fun z => nomatch z) h
 | @ins a C dx fs ea cl ha hn htk hm =>
   cases (show u = Value.ref a from rx)
   obtain ⟨mA, O, _⟩ := ins_get I.hok ea
   obtain ⟨od, J, _⟩ := O.look
   exact PySem.W.kia_one (PySem.W.kitx_own (cl.get _) cl.hd ha hn htk hm) I.kIn J e (fun z => nomatch z) h
end
end L2
namespace L2
open PySem PySem.Spec PyProof.Rows
structure Room (cm : Bool) (k : Nat) (A : Around) : Prop where
 hd : cm = true → A.handled = none
 dp : A.depth + 3 * k + 5 < recursionLimit
 un : A.units + 16 * k + 200 < cLine
theorem Room.mono {cm : Bool} {j k : Nat} {A : Around} (r : Room cm k A) (h : j ≤ k) : Room cm j A := ⟨r.hd, by have := r.dp; omega, by have := r.un; omega⟩
theorem Room.deeper {cm : Bool} {k : Nat} {A : Around} (r : Room cm (k + 1) A) (env : Env) : Room cm k (A.deeper env) :=
 ⟨r.hd, by have := r.dp; show A.depth + 1 + 3 * k + 5 < _; omega, by have := r.un; show A.units + 3 + 16 * k + 200 < _; omega⟩
theorem Room.in1 {cm : Bool} {k : Nat} {A : Around} (r : Room cm (k + 1) A) : Room cm k A.in1 :=
 ⟨r.hd, by have := r.dp; show A.depth + 3 * k + 5 < _; omega, by have := r.un; show A.units + 1 + 16 * k + 200 < _; omega⟩
theorem make_depth {A : Around} {C : Addr} {us : List Value} {kw : List (Str × Value)} : (A.under (.builtin "type.__call__" ⟨.ref C :: us, kw⟩)).depth = A.depth + 1 := by
 first | rfl | simp [Around.under, Code.weight, Code.isCreation, Code.isGuard, Code.isCaller, Code.frames, Code.isFrame, guardIds]
theorem make_units {A : Around} {C : Addr} {us : List Value} {kw : List (Str × Value)} : (A.under (.builtin "type.__call__" ⟨.ref C :: us, kw⟩)).units = A.units + 1 := by
 first | rfl | simp [Around.under, Code.cUnits, Code.frames, Code.isFrame]
theorem Room.make {cm : Bool} {k : Nat} {A : Around} (r : Room cm (k + 1) A) (C : Addr) (us : List Value) (kw : List (Str × Value)) : Room cm k (A.under (.builtin "type.__call__" ⟨.ref C :: us, kw⟩)) :=
 ⟨r.hd, by have := r.dp; rw [make_depth]; omega, by have := r.un; rw [make_units]; omega⟩
theorem Room.depth {cm : Bool} {k : Nat} {A : Around} (r : Room cm k A) : A.depth < recursionLimit := by have := r.dp; omega
theorem Room.units {cm : Bool} {k : Nat} {A : Around} (r : Room cm k A) : A.units + 64 < cLine := by have := r.un; omega
def tNil : TA := fun _ H Q => Q [] H
def tCons (ta : TE) (tr : TA) : TA := fun σ H Q => ta σ H fun x H1 => tr σ H1 fun xs H2 => Q (x :: xs) H2
section
variable {X : Cx} {e : Expr} {es : List Expr} {te : TE} {t : TA} {pos : Pos}
theorem pa_nil : PA X [] tNil := fun _ _ _ _ H Q I h => Calls.spliced_nil ⟨[], H, I, .nil, h⟩
theorem pa_cons (ha : PE X e te) (hr : PA X es t) (hs : starEach (e :: es) X.env = (false, eval e X.env) :: starEach es X.env := by rfl) : PA X (e :: es) (tCons te t) := by
 intro pos pins s σ H Q I h
 rw [hs]
 show wpAny _ _ (spliced ((false, eval e X.env) :: backTo pos (starEach es X.env))) _ _ s
 refine Calls.spliced_cons (thn (ha pins s σ H _ I h) fun u s1 ⟨x, H1, I1, r1, q1⟩ => ?_)
 exact thn (hr pos pins s1 σ H1 _ I1 q1) fun us s2 ⟨xs, H2, I2, r2, q2⟩ => ⟨x :: xs, H2, I2, .cons r1 r2, q2⟩
def tTup (t : TA) : TE := fun σ H Q => t σ H fun xs H1 => xs.length ≤ sizeLine ∧ ∀ p, H1 p = none → Q (.ref p) (upd H1 p (.tup xs))
def tLst (t : TA) : TE := fun σ H Q => t σ H fun xs H1 => xs.length ≤ sizeLine ∧ ∀ p, H1 p = none → Q (.ref p) (upd H1 p (.lst xs))
theorem pe_tup {x1} (h : PA X es t) : PE X (.Tuple es x1 pos) (tTup t) := by
 intro pins s σ H Q I hq
 refine wpAny_Tuple_spliced (thn (h pos pins s σ H _ I hq) fun us s1 ⟨xs, H1, I1, r, z, q⟩ => ⟨by rw [← r.length]; exact z, ?_⟩)
 have hf : H1 s1.heap.objs.size = none := I1.hok.fresh (Nat.le_refl _)
 refine ⟨.ref s1.heap.objs.size, upd H1 s1.heap.objs.size (.tup xs), I1.laid (t' := s1.toks) (fun b u e => Heap.get?_push_of_some _ e) (Nat.le_refl _) ?_, rfl, q _ hf⟩
 exact ⟨z, us, r, ⟨_, Heap.get?_push_size _ rfl, rfl, _, rfl⟩⟩
theorem pe_lst (h : PA X es t) : PE X (.List es pos) (tLst t) := by
 intro pins s σ H Q I hq
 refine wpAny_List_spliced (thn (h pos pins s σ H _ I hq) fun us s1 ⟨xs, H1, I1, r, z, q⟩ => ⟨by rw [← r.length]; exact z, ?_⟩)
 have hf : H1 s1.heap.objs.size = none := I1.hok.fresh (Nat.le_refl _)
 refine ⟨.ref s1.heap.objs.size, upd H1 s1.heap.objs.size (.lst xs), I1.laid (t' := s1.toks) (fun b u e => Heap.get?_push_of_some _ e) (Nat.le_refl _) ?_, rfl, q _ hf⟩
 exact ⟨z, us, 0, r, Heap.get?_push_size _ rfl⟩
end
abbrev Sp := List V → Hp → VK → XK → Prop
abbrev CXT := List Env → Hp → Shared → XK → Value → Shared → Prop
structure Env0 (P : Program) (w : World) (K : PySem.W.Frag) (mg : Str → Option Value) (base : Heap) (A : Around) (outer : List Env) (s : Shared) (H : Hp) : Prop where
 frames : A.frames = some outer
 mod : Mod K mg base
 bs : ∀ b o, base.get? b = some o → s.heap.get? b = some o ∧ H b = none
 bsz : base.objs.size ≤ s.heap.objs.size
 funs : s.heap.FunFrames base outer
 frf : ∀ b ∈ frs outer, H b = none
 hok : HOk P w H s.heap
 bare : AllBare s.gens
def CE (outer : List Env) (P : Program) (w : World) (H : Hp) (s : Shared) (Q : VK) (u : Value) (s' : Shared) : Prop :=
 ∃ v H', s'.os = s.os ∧ AllBare s'.gens ∧ Un (frs outer) [] H H' s.heap s'.heap ∧ HOk P w H' s'.heap ∧ RelV v u ∧ Q v H'
def CR (CX : CXT) (outer : List Env) (P : Program) (w : World) (H : Hp) (s : Shared) (Q : VK) (E : XK) (r : Result) (s' : Shared) : Prop :=
 match r with
 | .ok (.ret u) => CE outer P w H s Q u s'
 | .ok _ => False
 | .error e => CX outer H s E e s'
structure FnOk (P : Program) (w : World) (K : PySem.W.Frag) (mg : Str → Option Value) (base : Heap) (CX : CXT) (cm : Bool) (k : Nat) (f : Addr) (fd : FuncData) (ps : List Str) (sp : Sp) : Prop where
 len : ∀ vs H Q E, sp vs H Q E → vs.length = ps.length
 run : ∀ (A : Around) (outer : List Env) (s : Shared) (H : Hp) (args : Args) (us : List Value) (vs : List V) (Q : VK) (E : XK), Room cm k A → Env0 P w K mg base A outer s H → BindsTo s fd args (ps.zip us) → Vals vs us → sp vs H Q E →
   codeAny (model P w) A (.call (.ref f) args) (CR CX outer P w H s Q E) s
theorem FnOk.mono {cm : Bool} {P : Program} {w : World} {K : PySem.W.Frag} {mg : Str → Option Value} {base : Heap} {CX : CXT} {j k : Nat} {f : Addr} {fd : FuncData} {ps : List Str} {sp : Sp} (F : FnOk P w K mg base CX cm j f fd ps sp) (h : j ≤ k) :
   FnOk P w K mg base CX cm k f fd ps sp := ⟨F.len, fun A outer s H args us vs Q E hr => F.run A outer s H args us vs Q E (hr.mono h)⟩
theorem FnOk.imp {cm : Bool} {P : Program} {w : World} {K : PySem.W.Frag} {mg : Str → Option Value} {base : Heap} {CX : CXT} {k : Nat} {f : Addr} {fd : FuncData} {ps : List Str} {sp sp' : Sp} (F : FnOk P w K mg base CX cm k f fd ps sp)
   (h : ∀ vs H Q E, sp' vs H Q E → sp vs H Q E) : FnOk P w K mg base CX cm k f fd ps sp' :=
 ⟨fun vs H Q E q => F.len vs H Q E (h _ _ _ _ q), fun A outer s H args us vs Q E hr he hb hv hs => F.run A outer s H args us vs Q E hr he hb hv (h _ _ _ _ hs)⟩
theorem Env0.make {P : Program} {w : World} {K : PySem.W.Frag} {mg : Str → Option Value} {base : Heap} {A : Around} {outer : List Env} {s : Shared} {H : Hp} (e : Env0 P w K mg base A outer s H) (C : Addr) (us : List Value) (kw : List (Str × Value)) :
   Env0 P w K mg base (A.under (.builtin "type.__call__" ⟨.ref C :: us, kw⟩)) outer s H := ⟨by first | exact e.frames | (simpa [Around.under, Code.envs, Code.isFrame, pushEnvs] using e.frames), e.mod, e.bs, e.bsz, e.funs, e.frf, e.hok, e.bare⟩
theorem Env0.in1 {P : Program} {w : World} {K : PySem.W.Frag} {mg : Str → Option Value} {base : Heap} {A : Around} {outer : List Env} {s : Shared} {H : Hp} (e : Env0 P w K mg base A outer s H) :
   Env0 P w K mg base A.in1 outer s H := ⟨e.frames, e.mod, e.bs, e.bsz, e.funs, e.frf, e.hok, e.bare⟩
section
variable {X : Cx} {pins : List (Addr × Obj)} {σ : St} {H : Hp} {s s' : Shared}
theorem Inv.env0 (I : Inv X pins σ H s) : Env0 X.prog X.w X.K X.mg X.base X.A X.stack s H :=
 ⟨I.ok.frames, I.ok.mod, I.bs, Nat.le_trans I.ok.bsz I.sz, I.stack, I.stkFree, I.hok, I.bare⟩
theorem Inv.after {Q : VK} {u : Value} (I : Inv X pins σ H s) (h : CE X.stack X.prog X.w H s Q u s') : EP X pins σ Q u s' := by
 obtain ⟨v, H', os, bare, un, hok, r, q⟩ := h
 obtain ⟨hh, g, d, t, os'⟩ := s'
 obtain rfl : os' = s.os := os
 exact ⟨v, H', I.call (h' := hh) (g' := g) (d' := d) (t' := t) (ch := []) un hok bare (fun b z => absurd z (by simp)), r, q⟩
end
def tCall (sp : Sp) (dvs : List V) (E : XK) (t : TA) : TE := fun σ H Q => t σ H fun vs H1 => sp (vs ++ dvs) H1 Q E
def tMeth (C : Addr) (m : Str) (sp : Sp) (dvs : List V) (E : XK) (ta : TE) (t : TA) : TE := fun σ H Q => ta σ H fun x H1 => ∃ a dx fs, x = .ref a ∧ H1 a = some (.ins C dx fs) ∧ fs.lookup m = none ∧
 t σ H1 fun vs H2 => sp (x :: (vs ++ dvs)) H2 Q E
def tMake (C : Addr) (sp : Sp) (dvs : List V) (E : XK) (t : TA) : TE := fun σ H Q => t σ H fun vs H1 => ∀ x dx, H1 x = none → H1 dx = none → dx ≠ x →
 sp (.ref x :: (vs ++ dvs)) (upd (upd H1 dx (.own x)) x (.ins C dx [])) (fun v H2 => v = .non ∧ Q (.ref x) H2) E
def Binds (K : PySem.W.Frag) (fd : FuncData) (ps : List Str) (ds : List Value) : Prop :=
 ∀ (s : Shared) (us : List Value), K.In s.heap → (us ++ ds).length = ps.length → BindsTo s fd ⟨us, []⟩ (ps.zip (us ++ ds))
theorem Binds.all {K : PySem.W.Frag} {fd : FuncData} {ps : List Str} (h : ∀ us : List Value, us.length = ps.length → bindArgs fd ⟨us, []⟩ = pure (ps.zip us)) : Binds K fd ps [] := fun s us _ hl => by
 rw [List.append_nil] at hl ⊢
 exact .of_eq (h us hl)
def Passes (CX : CXT) (X : Cx) (E : XK) : Prop := ∀ (pins : List (Addr × Obj)) (σ : St) (H : Hp) (s : Shared) (e : Value) (s' : Shared), Inv X pins σ H s → CX X.stack H s E e s' → X.xe e s'
section
variable {X : Cx} {CX : CXT} {cm : Bool} {k : Nat} {f C : Addr} {fd : FuncData} {ps : List Str} {sp : Sp} {dvs : List V} {ds : List Value} {E : XK} {x m : Str} {p pos apos : Pos} {e o : Expr} {es : List Expr} {ta : TE} {t : TA}
theorem run_fn {pins : List (Addr × Obj)} {σ : St} {H : Hp} {s : Shared} {Q : VK} {us : List Value} {vs : List V} (F : FnOk X.prog X.w X.K X.mg X.base CX cm k f fd ps sp) (hr : Room cm k X.A) (hb : Binds X.K fd ps ds) (hd : Vals dvs ds) (hx : Passes CX X E)
   (I : Inv X pins σ H s) (r : Vals vs us) (h : sp (vs ++ dvs) H Q E) : wpAny (model X.prog X.w) X.A (call (.ref f) us) (EP X pins σ Q) X.xe s := by
 have r2 : Vals (vs ++ dvs) (us ++ ds) := r.append hd
 have hl : (us ++ ds).length = ps.length := by rw [← r2.length]; exact F.len _ _ _ _ h
 refine wpAny_call (codeAny_mono (F.run X.A X.stack s H ⟨us, []⟩ (us ++ ds) (vs ++ dvs) Q E hr I.env0 (hb s us I.kIn hl) r2 h) fun r s' hq => ?_)
 cases r with
 | error e => exact hx pins σ H s e s' I hq
 | ok fl =>
   cases fl with
   | ret u => exact I.after hq
   | next => exact False.elim hq
   | brk => exact False.elim hq
   | cont => exact False.elim hq
theorem pe_call (F : FnOk X.prog X.w X.K X.mg X.base CX cm k f fd ps sp) (hr : Room cm k X.A) (hg : Gl X x) (hm : X.mg x = some (.ref f)) (hk : PySem.W.keepIn X.K (.ref f) = true) (hb : Binds X.K fd ps ds) (hd : Vals dvs ds) (hx : Passes CX X E)
   (ha : PA X (e :: es) t) (hdb : (x == ("__debug__" : Str)) = false := by decide) (he : starEach (e :: es) X.env = (false, eval e X.env) :: starEach es X.env := by rfl) (hpl : (backTo pos (starEach es X.env)).any (·.1) = false := by rfl) :
   PE X (.Call (.Name x p) (e :: es) [] pos) (tCall sp dvs E t) := by
 intro pins s σ H Q I h
 refine wpAny_Call_Name_kw (ld_glob I hg hm ?_ hdb)
 refine PySem.W.callWith_K (h₀ := X.base) I.ok.mod.kin hk (thn (ha pos pins s σ H _ I h) fun us s1 ⟨vs, H1, I1, r, q⟩ => ⟨I1.kIn, ?_⟩) he hpl
 exact run_fn F hr hb hd hx I1 r q
theorem pe_meth {pl : Sem Bool} (he : PE X o ta) (c : Cls X.K C) (hm : Meth X.K C m f) (F : FnOk X.prog X.w X.K X.mg X.base CX cm k f fd ps sp) (hr : Room cm k X.A) (hb : Binds X.K fd ps ds) (hd : Vals dvs ds) (hx : Passes CX X E) (ha : PA X (e :: es) t)
   (hst : starEach (e :: es) X.env = (false, eval e X.env) :: starEach es X.env := by rfl) (hpl : (backTo pos (starEach es X.env)).any (·.1) = false := by rfl)
   (ht : eval (.Call (.Attribute o m apos) (e :: es) [] pos) X.env = (do
     let ov ← eval o X.env
     standAt apos.atName
     let (f, first) ← holding [ov] (getMethod ov m pl)
     callWith pos f first (backTo pos (starEach (e :: es) X.env)) (backToKw pos (keywordEach [] X.env))) := by rfl) :
   PE X (.Call (.Attribute o m apos) (e :: es) [] pos) (tMeth C m sp dvs E ta t) := by
 intro pins s σ H Q I h
 refine PySem.W.methodCall_KW (pl := pl) (thn (he pins s σ H _ I h) fun u s1 ⟨x, H1, I1, rx, a, dx, fs, ex, ea, l, q⟩ => ?_) ht
 subst ex
 obtain rfl : u = Value.ref a := rx
 refine getmeth_ok I1 ea c hm l ?_
 refine PySem.W.callWith_K (first := [.ref a]) (h₀ := X.base) I.ok.mod.kin hm.kp (thn (ha pos pins s1 σ H1 _ I1 q) fun us s2 ⟨vs, H2, I2, r, q2⟩ => ⟨I2.kIn, ?_⟩) hst hpl
 exact run_fn (us := .ref a :: us) (vs := .ref a :: vs) F hr hb hd hx I2 (.cons rfl r) q2
theorem pe_meth0 {pl : Sem Bool} (he : PE X o ta) (c : Cls X.K C) (hm : Meth X.K C m f) (F : FnOk X.prog X.w X.K X.mg X.base CX cm k f fd ps sp) (hr : Room cm k X.A) (hb : Binds X.K fd ps ds) (hd : Vals dvs ds) (hx : Passes CX X E)
   (ht : eval (.Call (.Attribute o m apos) [] [] pos) X.env = (do
     let ov ← eval o X.env
     standAt apos.atName
     let (f, first) ← holding [ov] (getMethod ov m pl)
     callWith pos f first (backTo pos (starEach [] X.env)) (backToKw pos (keywordEach [] X.env))) := by rfl) :
   PE X (.Call (.Attribute o m apos) [] [] pos) (tMeth C m sp dvs E ta tNil) := by
 intro pins s σ H Q I h
 refine PySem.W.methodCall_KW (pl := pl) (thn (he pins s σ H _ I h) fun u s1 ⟨x, H1, I1, rx, a, dx, fs, ex, ea, l, q⟩ => ?_) ht
 subst ex
 obtain rfl : u = Value.ref a := rx
 refine getmeth_ok I1 ea c hm l ?_
 exact PySem.W.callWith_K0 (first := [.ref a]) I1.kIn hm.kp (run_fn (us := [.ref a]) (vs := [.ref a]) F hr hb hd hx I1 (.cons rfl .nil) q)
structure Mk (K : PySem.W.Frag) (C f : Addr) : Prop where
 makes : PySem.W.makesIn K C = true
 init : PySem.W.findIn K (.ref C) "__init__" = some (some (.ref f))
 fn : PySem.W.isFn K (.ref f) = true
 kp : PySem.W.keepIn K (.ref C) = true
theorem run_make {pins : List (Addr × Obj)} {σ : St} {H : Hp} {s : Shared} {Q : VK} {us : List Value} {vs : List V} (M : Mk X.K C f) (F : FnOk X.prog X.w X.K X.mg X.base CX cm k f fd ps sp) (hr : Room cm (k + 1) X.A) (hb : Binds X.K fd ps ds) (hd : Vals dvs ds)
   (hx : Passes CX X E) (I : Inv X pins σ H s) (r : Vals vs us)
   (h : ∀ x dx, H x = none → H dx = none → dx ≠ x → sp (.ref x :: (vs ++ dvs)) (upd (upd H dx (.own x)) x (.ins C dx [])) (fun v H2 => v = .non ∧ Q (.ref x) H2) E) :
   wpAny (model X.prog X.w) X.A (call (.ref C) us) (EP X pins σ Q) X.xe s := by
 have hq := h (s.heap.objs.size + 1) s.heap.objs.size (I.hok.fresh (Nat.le_succ _)) (I.hok.fresh (Nat.le_refl _)) (Nat.ne_of_lt (Nat.lt_succ_self _))
 have I2 := Inv.made (C := C) I
 have r2 : Vals (V.ref (s.heap.objs.size + 1) :: (vs ++ dvs)) (Value.ref (s.heap.objs.size + 1) :: (us ++ ds)) := .cons rfl (r.append hd)
 have hl : (Value.ref (s.heap.objs.size + 1) :: us ++ ds).length = ps.length := by
   have e := r2.length
   rw [F.len _ _ _ _ hq] at e
   exact e.symm
 refine wpAny_call (make_map (f := f) I.kIn M.makes M.init (beq_iff_eq.mp M.fn) (codeAny_mono (F.run _ X.stack _ _ ⟨Value.ref (s.heap.objs.size + 1) :: us, []⟩ (Value.ref (s.heap.objs.size + 1) :: (us ++ ds)) _ _ E (hr.make C us [])
   (I2.env0.make C us []) (hb _ (Value.ref (s.heap.objs.size + 1) :: us) I2.kIn hl) r2 hq) fun r s' hq' => ?_))
 cases r with
 | error e => exact hx pins σ _ _ e s' I2 hq'
 | ok fl =>
   cases fl with
   | ret u =>
     obtain ⟨v, H', I3, rv, ev, q3⟩ := I2.after hq'
     subst ev
     exact ⟨rv, ⟨V.ref (s.heap.objs.size + 1), H', I3, rfl, q3⟩⟩
   | next => exact False.elim hq'
   | brk => exact False.elim hq'
   | cont => exact False.elim hq'
theorem pe_make (M : Mk X.K C f) (F : FnOk X.prog X.w X.K X.mg X.base CX cm k f fd ps sp) (hr : Room cm (k + 1) X.A) (hg : Gl X x) (hm : X.mg x = some (.ref C)) (hb : Binds X.K fd ps ds) (hd : Vals dvs ds) (hx : Passes CX X E)
   (ha : PA X (e :: es) t) (hdb : (x == ("__debug__" : Str)) = false := by decide) (he : starEach (e :: es) X.env = (false, eval e X.env) :: starEach es X.env := by rfl) (hpl : (backTo pos (starEach es X.env)).any (·.1) = false := by rfl) :
   PE X (.Call (.Name x p) (e :: es) [] pos) (tMake C sp dvs E t) := by
 intro pins s σ H Q I h
 refine wpAny_Call_Name_kw (ld_glob I hg hm ?_ hdb)
 refine PySem.W.callWith_K (h₀ := X.base) I.ok.mod.kin M.kp (thn (ha pos pins s σ H _ I h) fun us s1 ⟨vs, H1, I1, r, q⟩ => ⟨I1.kIn, ?_⟩) he hpl
 exact run_make M F hr hb hd hx I1 r q
end
section
variable {X : Cx} {CX : CXT} {cm : Bool} {k : Nat} {f C : Addr} {fd : FuncData} {ps ks : List Str} {sp : Sp} {E : XK} {x m : Str} {p pos apos kpos : Pos} {e o : Expr} {es : List Expr} {kws : List Keyword} {te ta : TE} {t tk : TA} {nm : Option Str}
variable {g : List Value → List Value → List Value} {gV : List V → List V → List V}
end
structure FnScope (N P : List Str) (sc : Scope) : Prop where
 kind : sc.kind = .function
 co : sc.isCoroutine = false
 gen : sc.isGenerator = false
 nd : N.Nodup
 pre : N.take P.length = P
 par : ∀ x ∈ P, sc.names.lookup x = some .local ∨ sc.names.lookup x = some .cell
 nofree : ∀ y ∈ sc.names, y.2 ≠ .free
theorem bindL_out {kindOf : Str → Option NameKind} {x : Str} : ∀ {binds : List (Str × Value)} {m : Str → Option Value}, (∀ v, (x, v) ∉ binds) → bindL kindOf binds m x = m x
 | [], _, _ => rfl
 | (n, v) :: r, m, h => by
   unfold bindL
   rw [bindL_out fun w hw => h w (List.mem_cons_of_mem _ hw)]
   split
   · have : x ≠ n := by rintro rfl; exact h v List.mem_cons_self
     simp [this]
   · rfl
theorem bindC_out {kindOf : Str → Option NameKind} {x : Str} : ∀ {binds : List (Str × Value)} {m : Str → Option Value}, (∀ v, (x, v) ∉ binds) → bindC kindOf binds m x = m x
 | [], _, _ => rfl
 | (n, v) :: r, m, h => by
   unfold bindC
   rw [bindC_out fun w hw => h w (List.mem_cons_of_mem _ hw)]
   split
   · rfl
   · have : x ≠ n := by rintro rfl; exact h v List.mem_cons_self
     simp [this]
theorem bindL_get {kindOf : Str → Option NameKind} {x : Str} {v : Value} : ∀ {P : List Str} {vs : List Value} {i : Nat} {m : Str → Option Value}, P.Nodup → P[i]? = some x → vs[i]? = some v → kindOf x = some .local →
   bindL kindOf (P.zip vs) m x = some v
 | [], _, _, _, _, h, _, _ => by simp at h
 | _ :: _, [], _, _, _, _, h, _ => by simp at h
 | p :: P, w :: vs, 0, m, nd, h1, h2, hk => by
   simp at h1 h2; subst h1; subst h2
   show bindL kindOf ((p, w) :: P.zip vs) m p = _
   unfold bindL
   rw [bindL_out fun v hv => (List.nodup_cons.mp nd).1 (List.of_mem_zip hv).1, if_pos hk]
   simp
 | p :: P, w :: vs, i + 1, m, nd, h1, h2, hk => by
   show bindL kindOf ((p, w) :: P.zip vs) m x = _
   unfold bindL
   exact bindL_get (i := i) (List.nodup_cons.mp nd).2 (by simpa using h1) (by simpa using h2) hk
theorem bindC_get {kindOf : Str → Option NameKind} {x : Str} {v : Value} : ∀ {P : List Str} {vs : List Value} {i : Nat} {m : Str → Option Value}, P.Nodup → P[i]? = some x → vs[i]? = some v → kindOf x ≠ some .local →
   bindC kindOf (P.zip vs) m x = some v
 | [], _, _, _, _, h, _, _ => by simp at h
 | _ :: _, [], _, _, _, _, h, _ => by simp at h
 | p :: P, w :: vs, 0, m, nd, h1, h2, hk => by
   simp at h1 h2; subst h1; subst h2
   show bindC kindOf ((p, w) :: P.zip vs) m p = _
   unfold bindC
   rw [bindC_out fun v hv => (List.nodup_cons.mp nd).1 (List.of_mem_zip hv).1, if_neg hk]
   simp
 | p :: P, w :: vs, i + 1, m, nd, h1, h2, hk => by
   show bindC kindOf ((p, w) :: P.zip vs) m x = _
   unfold bindC
   exact bindC_get (i := i) (List.nodup_cons.mp nd).2 (by simpa using h1) (by simpa using h2) hk
def start (N : List Str) (vs : List V) : St := vs.map some ++ List.replicate (N.length - vs.length) none
def cxOf (CX : CXT) (cm : Bool) (P : Program) (w : World) (K : PySem.W.Frag) (mg : Str → Option Value) (base : Heap) (N : List Str) (qual : Str) (scope : Scope) (f : Addr) (cd : Value) (A : Around) (outer : List Env) (s : Shared) (H : Hp) (E : XK) : Cx where
 prog := P
 w := w
 K := K
 mg := mg
 base := base
 A := A.deeper (envOfC qual scope s.heap.objs.size f cd)
 N := N
 s₀ := s
 H₀ := H
 env := envOfC qual scope s.heap.objs.size f cd
 outer := outer
 stack := envOfC qual scope s.heap.objs.size f cd :: outer
 ex := []
 calm := cm
 fn := fun _ => true
 pn := []
 xe := fun e s' => wpAny (model P w) (A.deeper (envOfC qual scope s.heap.objs.size f cd)) (leaving (envOfC qual scope s.heap.objs.size f cd) e) (fun _ s'' => CX outer H s E e s'') (fun e' s'' => CX outer H s E e' s'') s'
theorem cell_has {sc : Scope} {n : Nat} {x : Str} (h : sc.names.lookup x = some .cell) : ∃ c, (cellsFrom n sc.names []).lookup x = some c := by
 have q := PySem.W.cellsFrom_some sc.names n [] (.inl h)
 exact Option.isSome_iff_exists.mp q
theorem inv_start {CX : CXT} {cm : Bool} {P : Program} {w : World} {K : PySem.W.Frag} {mg : Str → Option Value} {base : Heap} {N ps : List Str} {qual : Str} {scope : Scope} {f : Addr} {cd : Value} {A : Around} {outer : List Env} {s s1 : Shared} {H : Hp} {E : XK} {us : List Value} {vs : List V}
   (S : FnScope N ps scope) (hd : cm = true → A.handled = none) (e0 : Env0 P w K mg base A outer s H) (hl : vs.length = ps.length) (r : Vals vs us)
   (x : InCallC s s.heap.objs.size (bindL (envOfC qual scope s.heap.objs.size f cd).kindOf (ps.zip us) fun _ => none) (cellsFrom (s.heap.objs.size + 1) scope.names []) (bindC (envOfC qual scope s.heap.objs.size f cd).kindOf (ps.zip us) fun _ => none) s1) :
   Inv (cxOf CX cm P w K mg base N qual scope f cd A outer s H E) [] (start N vs) H s1 := by
 have hpl : ps.length ≤ N.length := by have := congrArg List.length S.pre; rw [List.length_take] at this; omega
 obtain ⟨h1, tk, rfl, hk⟩ := x.done
 have noA : ∀ b : Addr, b ∉ (cxOf CX cm P w K mg base N qual scope f cd A outer s H E).ex := fun b z => absurd (show b ∈ ([] : List Addr) from z) (by simp)
 refine ⟨⟨e0.mod, S.kind, rfl, rfl, Nat.le_refl _, fun y z c h1 h2 => ?_, fun y hy => ?_, fun y c _ h => ?_, hd, Around.frames_deeper e0.frames, .inr ⟨rfl, rfl⟩, fun b z => absurd z (noA b), e0.bs, e0.bsz, fun b _ _ => noA b, fun b z => absurd z (noA b), e0.funs, e0.frf⟩,
   rfl, e0.bare, Un.kept hk, ⟨_, x.toInCall.ns, fun i y v h1 h2 h3 => ?_⟩, fun y c h => ⟨_, x.cell y c h⟩, e0.hok.fresh (Nat.le_refl _), fun y c h => ?_, fun p hp => absurd (show p ∈ ([] : List (Addr × Obj)) from hp) (by simp), e0.hok.kept hk, ?_⟩
 · exact name_of_addr x.apart (PySem.mem_of_lookup h1) (PySem.mem_of_lookup h2)
 · have hy : scope.names.lookup y = some .cell ∨ scope.names.lookup y = some .free := hy
   rcases hy with hy | hy
   · exact cell_has hy
   · exact absurd rfl (S.nofree _ (PySem.mem_of_lookup hy))
 · exact Nat.le_of_lt (x.above y c (PySem.mem_of_lookup h))
 · have hi : i < vs.length := by
     unfold start at h2
     by_cases hi : i < vs.length
     · exact hi
     · rw [List.getElem?_append_right (by simpa using hi)] at h2
       rw [List.getElem?_replicate] at h2
       split at h2 <;> cases h2
   have ha : vs[i]? = some v := by
     unfold start at h2
     rw [List.getElem?_append_left (by simpa using hi), List.getElem?_map] at h2
     cases e : vs[i]? with
     | none => rw [e] at h2; cases h2
     | some a => rw [e] at h2; cases h2; rfl
   obtain ⟨u, hu, rv⟩ := r.get ha
   have hp : ps[i]? = some y := by
     rw [← S.pre, List.getElem?_take_of_lt (by omega)]; exact h1
   have ndP : ps.Nodup := by rw [← S.pre]; exact S.nd.sublist (List.take_sublist _ _)
   refine ⟨u, rv, ?_⟩
   rcases S.par y (List.mem_of_getElem? hp) with k | k
   · exact .inl ⟨k, bindL_get ndP hp hu k⟩
   · obtain ⟨c, e⟩ := cell_has (n := s.heap.objs.size + 1) k
     refine .inr ⟨.inl k, c, e, ?_⟩
     have q := x.cell y c e
     rw [bindC_get ndP hp hu (by show scope.names.lookup y ≠ _; rw [k]; decide)] at q
     exact q
 · exact e0.hok.fresh (Nat.le_of_lt (x.above y c (PySem.mem_of_lookup h)))
 · unfold start
   show _ = N.length
   rw [List.length_append, List.length_map, List.length_replicate]
   omega
theorem fn_of {CX : CXT} {cm : Bool} {P : Program} {w : World} {K : PySem.W.Frag} {mg : Str → Option Value} {base : Heap} {k : Nat} {f : Addr} {name qual : Str} {params : Arguments} {body : List Stmt} {scope : Scope} {dV kV doc pm cdv ct oc : Value} {an od : Option Addr}
   {osl : Array (Option Value)} {N ps : List Str} {sp : Sp} (lk : K.lookup f = some ⟨oc, od, .func (PySem.W.fnOf name qual params body scope dV kV doc pm an cdv ct), osl⟩) (hcd : PySem.W.codeIn K cdv qual = true) (S : FnScope N ps scope)
   (len : ∀ vs H Q E, sp vs H Q E → vs.length = ps.length)
   (hbody : ∀ (A : Around) (outer : List Env) (s : Shared) (H : Hp) (vs : List V) (Q : VK) (E : XK), Room cm k (A.deeper (envOfC qual scope s.heap.objs.size f cdv)) → sp vs H Q E →
     ∃ t, PSs (cxOf CX cm P w K mg base N qual scope f cdv A outer s H E) body t ∧ t { nx := fun _ H' => Q .non H', rt := Q } (start N vs) H) :
   FnOk P w K mg base CX cm (k + 1) f (PySem.W.fnOf name qual params body scope dV kV doc pm an cdv ct) ps sp := by
 refine ⟨len, fun A outer s H args us vs Q E hr e0 hb r hsp => ?_⟩
 have hl := len _ _ _ _ hsp
 have KX : K.In s.heap := e0.mod.kin.keeps fun b o e => (e0.bs b o e).1
 have lim : s.heap.NoLimit := e0.mod.nolimit.keeps fun b o e => (e0.bs b o e).1
 have hkind : ∀ y ∈ ps.zip us, scope.names.lookup y.1 = some .local ∨ (scope.names.lookup y.1 = some .cell ∧ ((cellsFrom (s.heap.objs.size + 1) scope.names []).lookup y.1).isSome = true) := fun ⟨n, v⟩ hy => by
   rcases S.par n (List.of_mem_zip hy).1 with q | q
   · exact .inl q
   · exact .inr ⟨q, PySem.W.cellsFrom_some _ _ _ (.inl q)⟩
 refine codeAny_call_function hr.depth (KX _ _ lk) rfl S.co S.gen rfl (PySem.W.codeRec_of KX hcd) (hb _ _ _ _ ?_)
 refine wpAny_newFunctionEnv_cells S.kind hkind fun env he s1 x => ?_
 subst he
 refine ⟨lim.keeps x.toInCall.keep, codeAny_func ?_⟩
 obtain ⟨t, ht, hq⟩ := hbody A outer s H vs Q E (hr.deeper _) hsp
 have I : Inv (cxOf CX cm P w K mg base N qual scope f cdv A outer s H E) [] (start N vs) H s1 := inv_start S hr.hd e0 hl r x
 refine wpAny_mono (ht [] s1 (start N vs) H _ I hq) (fun fl s' hs => ?_) fun e s' hs => hs
 have fin : ∀ {σ' : St} {H' : Hp} {v : V} {u : Value}, Inv (cxOf CX cm P w K mg base N qual scope f cdv A outer s H E) [] σ' H' s' → RelV v u → Q v H' → CE outer P w H s Q u s' :=
   fun {σ' H' v u} J rv q => ⟨v, H', J.os, J.bare, J.base, J.hok, rv, q⟩
 cases fl with
 | ret u =>
   obtain ⟨v, σ', H', J, rv, q⟩ := hs
   exact fin J rv q
 | next =>
   obtain ⟨σ', H', J, q⟩ := hs
   exact fin (v := V.non) (u := Value.none) J rfl q
 | brk =>
   obtain ⟨_, _, _, q⟩ := hs
   exact False.elim q
 | cont =>
   obtain ⟨_, _, _, q⟩ := hs
   exact False.elim q
end L2
namespace L2
open PySem PySem.Spec PyProof.Rows
section
variable {X : Cx} {x : Str} {p pos : Pos} {e : Expr} {es : List Expr} {t : TA} {id T : String} {r : List V → Hp → VK → Prop}
def tCB (r : List V → Hp → VK → Prop) (t : TA) : TE := fun σ H Q => t σ H fun vs H1 => r vs H1 Q
theorem pe_callB (hc : CallR X (.builtin id) r) (hg : Gl X x) (hm : X.mg x = none) (hv : bootBuiltins x = some (.builtin id)) (ha : PA X (e :: es) t) (hn : x ≠ "__name__" := by decide) (hdb : (x == ("__debug__" : Str)) = false := by decide)
   (he : starEach (e :: es) X.env = (false, eval e X.env) :: starEach es X.env := by rfl) (hpl : (backTo pos (starEach es X.env)).any (·.1) = false := by rfl) : PE X (.Call (.Name x p) (e :: es) [] pos) (tCB r t) := by
 intro pins s σ H Q I h
 refine wpAny_Call_Name_kw (ld_blt I hg hm hv ?_ hn hdb)
 exact PyProof.Rows.callWith_builtin1 (thn (ha pos pins s σ H _ I h) fun us s1 ⟨vs, H1, I1, r1, q1⟩ => hc pins s1 σ H1 vs us Q I1 r1 q1) he hpl
theorem pe_callTy (hc : CallR X (.type T) r) (hg : Gl X x) (hm : X.mg x = none) (hv : bootBuiltins x = some (.type T)) (ha : PA X (e :: es) t) (hn : x ≠ "__name__" := by decide) (hdb : (x == ("__debug__" : Str)) = false := by decide)
   (he : starEach (e :: es) X.env = (false, eval e X.env) :: starEach es X.env := by rfl) (hpl : (backTo pos (starEach es X.env)).any (·.1) = false := by rfl) : PE X (.Call (.Name x p) (e :: es) [] pos) (tCB r t) := by
 intro pins s σ H Q I h
 refine wpAny_Call_Name_kw (ld_blt I hg hm hv ?_ hn hdb)
 exact PyProof.Rows.callWith_type1 (thn (ha pos pins s σ H _ I h) fun us s1 ⟨vs, H1, I1, r1, q1⟩ => hc pins s1 σ H1 vs us Q I1 r1 q1) he hpl
end
end L2
namespace HT
open PySem PyProof.Rows
section
open PySem.SeqAt
open PySem.AutoSeq1 (wpAny_loadPart')
open PySem.MeetsSeq PySem.MeetsSeq2 PySem.MeetsSeq3
end
section
variable {prog : Program} {w : World} {A : Around} {E : Value → Shared → Prop} {s : Shared}
theorem cat_tup {t b : Addr} {vs ws : List Value} {Q : Value → Shared → Prop} (ht : IsTup s.heap t vs.toArray) (hb : IsTup s.heap b ws.toArray) (hv : vs ≠ [])
   (h1 : ws = [] → Q (.ref t) s) (h2 : ws ≠ [] → Q (.ref s.heap.objs.size) { s with heap := s.heap.push { cls := .type "tuple", data := .seq (vs ++ ws).toArray } })
   (hsz : vs.length + ws.length ≤ sizeLine) : wpAny (model prog w) A (binaryOp .Add (.ref t) (.ref b)) Q E s := by
 obtain ⟨⟨cls, dd, data, sl⟩, ho, hc, n, hd⟩ := id ht
 obtain ⟨⟨cls2, dd2, data2, sl2⟩, ho2, hc2, n2, hd2⟩ := id hb
 simp only at hc hd hc2 hd2
 subst hc hd hc2 hd2
 have e : vs.toArray ++ ws.toArray = (vs ++ ws).toArray := by simp
 by_cases hw : ws = []
 · exact concat_meets ⟨_, ho, rfl⟩ ⟨_, ho2, rfl⟩ noFill_tuple_add seq_tuple_add PySem.F.slot_tuple_add PySem.F.entry_tuple_add (PySem.F.args_tuple_add_2 _ _)
     (tuple_addW1 t b vs.toArray ws.toArray n n2 dd dd2 sl sl2 (by simpa using hv) (by simp [hw])) ⟨ho, ho2, h1 hw⟩
 · refine concat_meets ⟨_, ho, rfl⟩ ⟨_, ho2, rfl⟩ noFill_tuple_add seq_tuple_add PySem.F.slot_tuple_add PySem.F.entry_tuple_add (PySem.F.args_tuple_add_2 _ _)
     (tuple_addW2 t b vs.toArray ws.toArray n n2 dd dd2 sl sl2 (by simpa using hv) (by simpa using hw) (by rw [List.size_toArray, List.size_toArray]; exact hsz)) ⟨ho, ho2, ?_⟩
   rw [e]
   exact h2 hw
def sIx (n d : Nat) : Option Int → Nat
 | none => d
 | some v => if v < 0 then (v + (n : Int)).toNat else min v.toNat n
theorem sIx_none (n d : Nat) : sIx n d none = d := rfl
theorem sIx_nat (n d k : Nat) : sIx n d (some (k : Int)) = min k n := by
 show (if (k : Int) < 0 then ((k : Int) + (n : Int)).toNat else min (k : Int).toNat n) = min k n
 rw [if_neg (by omega), Int.toNat_natCast]
theorem sIx_le (n d : Nat) (hd : d ≤ n) (o : Option Int) : sIx n d o ≤ n := by
 cases o with
 | none => exact hd
 | some v =>
   show (if v < 0 then (v + (n : Int)).toNat else min v.toNat n) ≤ n
   by_cases hv : v < 0
   · rw [if_pos hv]; omega
   · rw [if_neg hv]; exact Nat.min_le_right _ _
theorem clip_eq (v : Int) (n d : Nat) : (if v < 0 then max (v + (n : Int)) 0 else min v (n : Int)) = ((sIx n d (some v) : Nat) : Int) := by
 show (if v < 0 then max (v + (n : Int)) 0 else min v (n : Int)) = (((if v < 0 then (v + (n : Int)).toNat else min v.toNat n) : Nat) : Int)
 by_cases hv : v < 0
 · simp only [if_pos hv]; omega
 · simp only [if_neg hv]; omega
theorem adjust_gen (lo hi : Option Int) (n : Nat) : Builtin.Slice.sliceAdjust lo hi 1 (n : Int) = (((sIx n 0 lo : Nat) : Int), ((sIx n n hi : Nat) : Int)) := by
 have h1 : ¬ ((1 : Int) < 0) := by omega
 unfold Builtin.Slice.sliceAdjust
 simp only [h1, if_false]
 refine Prod.ext ?_ ?_
 · cases lo with
   | none => rfl
   | some v => exact clip_eq v n 0
 · cases hi with
   | none => rfl
   | some v => exact clip_eq v n n
theorem places_gen (i j : Nat) : Builtin.Slice.slicePlaces (i : Int) (j : Int) 1 = j - i := by
 unfold Builtin.Slice.slicePlaces
 have h1 : (1 : Int) > 0 := by omega
 simp only [h1, if_true, Int.ediv_one]
 split <;> omega
theorem slicePart_ {v : Value} {o : Option Int} {Q : Option Int → Shared → Prop} (p : IsPart v o) (h : Q o s) : wpAny (model prog w) A (Builtin.Slice.slicePartIndex v) Q E s := by
 cases p with
 | none => exact slicePart_none h
 | int i t => exact slicePart_int h
theorem sliceApplied_gen {sl : Addr} {vl vu : Value} {lo hi : Option Int} {n : Nat} {Q : Int × Int × Nat → Shared → Prop} (hs : s.heap.IsSliceOf sl vl vu .none) (pl : IsPart vl lo) (pu : IsPart vu hi)
   (h : Q (((sIx n 0 lo : Nat) : Int), 1, sIx n n hi - sIx n 0 lo) s) : wpAny (model prog w) A (Builtin.Slice.sliceApplied (.ref sl) (pure (n : Int))) Q E s := by
 obtain ⟨os, hos, hcs, hds⟩ := id hs
 unfold Builtin.Slice.sliceApplied Builtin.Slice.sliceFields
 refine wpAny_bind (wpAny_bind (wpAny_field hos hds (x := vl) rfl (wpAny_bind (wpAny_field hos hds (x := vu) rfl (wpAny_bind (wpAny_field hos hds (x := .none) rfl (wpAny_pure ?_)))))))
 refine wpAny_bind (slicePart_none ?_)
 show wpAny _ _ (if ((1 : Int) == 0) = true then _ else _) _ _ s
 rw [if_neg (by decide)]
 refine wpAny_bind (slicePart_ pl (wpAny_bind (slicePart_ pu (wpAny_bind (wpAny_pure ?_)))))
 show wpAny _ _ (match Builtin.Slice.sliceAdjust lo hi 1 (n : Int) with | (lo, hi) => pure (lo, (1 : Int), Builtin.Slice.slicePlaces lo hi 1)) _ _ s
 rw [adjust_gen lo hi n]
 show wpAny _ _ (pure (((sIx n 0 lo : Nat) : Int), (1 : Int), Builtin.Slice.slicePlaces ((sIx n 0 lo : Nat) : Int) ((sIx n n hi : Nat) : Int) 1)) _ _ s
 rw [places_gen]
 exact wpAny_pure h
theorem pick_gen (xs : Array Value) (i k : Nat) : ((List.range k).filterMap fun (m : Nat) => xs[((i : Int) + (m : Int) * 1).toNat]?).toArray = ((xs.toList.drop i).take k).toArray := by
 have e : (fun (m : Nat) => xs[((i : Int) + (m : Int) * 1).toNat]?) = fun m => xs[i + m]? := by
   funext m
   have : ((i : Int) + (m : Int) * 1).toNat = i + m := by omega
   rw [this]
 rw [e]
 have := pick_run xs i k
 rw [List.filterMap_map] at this
 have e2 : ((fun x => xs[x]?) ∘ fun x => i + x) = fun m => xs[i + m]? := rfl
 rw [e2] at this
 rw [this]
theorem getItem_tuple_cut {t sl : Addr} {items : Array Value} {vl vu : Value} {lo hi : Option Int} {Q : Value → Shared → Prop} (ht : IsTup s.heap t items) (hs : s.heap.IsSliceOf sl vl vu .none) (pl : IsPart vl lo) (pu : IsPart vu hi)
   (hw : ¬ (sIx items.size 0 lo = 0 ∧ sIx items.size items.size hi = items.size))
   (h : Q (.ref s.heap.objs.size) { s with heap := s.heap.push { cls := .type "tuple", data := .seq ((items.toList.drop (sIx items.size 0 lo)).take (sIx items.size items.size hi - sIx items.size 0 lo)).toArray } })
   (hsz : items.size ≤ sizeLine) : wpAny (model prog w) A (getItem (.ref t) (.ref sl)) Q E s := by
 have htake : sizeOk (.seq ((items.toList.drop (sIx items.size 0 lo)).take (sIx items.size items.size hi - sIx items.size 0 lo)).toArray) := by
   show ((items.toList.drop (sIx items.size 0 lo)).take (sIx items.size items.size hi - sIx items.size 0 lo)).toArray.size ≤ sizeLine
   rw [List.size_toArray, List.length_take, List.length_drop, Array.length_toList]
   omega
 have hj : sIx items.size items.size hi ≤ items.size := sIx_le _ _ (Nat.le_refl _) hi
 obtain ⟨os, hos, hcs, hds⟩ := id hs
 have hTs : s.TypeIs (.ref sl) "slice" := ⟨os, hos, hcs⟩
 unfold getItem
 try with_reducible refine wpAny_holding ?_
 first | refine wpAny_bind (wpAny_pure ?_) | skip
 refine wpAny_bind (wpAny_sequenceKey ht.typeIs (by decide) ?_)
 refine wpAny_bind (wpAny_callSpecial?_slot (name := Str.ofString "__getitem__") ht.typeIs PyProof.Rows.slot_tuple_getitem
   (wpAny_call_entry PyProof.Rows.slot_tuple_getitem ht.typeIs entry_tuple_getitem ?_ (args_tuple_getitem _ _)))
 show wpAny _ _ (Builtin.Tuple.tupleItemsOf (.ref t) >>= _) _ _ s
 refine wpAny_bind (tupleItemsOf_ ht ?_)
 refine wpAny_bind (wpAny_typeOf hTs ?_)
 rw [if_pos (by decide)]
 refine wpAny_bind (sliceApplied_gen hs pl pu ?_)
 have hno : ¬ ((((sIx items.size 0 lo : Nat) : Int) == 0 && (1 : Int) == 1 && (sIx items.size items.size hi - sIx items.size 0 lo) == items.size) = true) := by
   intro q
   rw [Bool.and_eq_true, Bool.and_eq_true] at q
   have q1 : ((sIx items.size 0 lo : Nat) : Int) = 0 := eq_of_beq q.1.1
   have q2 : sIx items.size items.size hi - sIx items.size 0 lo = items.size := eq_of_beq q.2
   exact hw ⟨by omega, by omega⟩
 show wpAny _ _ (if (((sIx items.size 0 lo : Nat) : Int) == 0 && (1 : Int) == 1 && (sIx items.size items.size hi - sIx items.size 0 lo) == items.size) = true then _ else _) _ _ s
 rw [if_neg hno, pick_gen]
 first
   | exact wpAny_bind (m := Builtin.Tuple.tupleExact _) (wpAny_newObj_type (wpAny_pure ⟨_, rfl, wpAny_pure h⟩) htake)
   | exact wpAny_bind (m := Builtin.Tuple.tupleExact _) (wpAny_newObj_type (wpAny_bind (wpAny_pure (wpAny_pure ⟨_, rfl, wpAny_pure h⟩))) htake)
   | exact wpAny_bind (wpAny_bind (m := Builtin.Tuple.tupleExact _) (wpAny_newObj_type (wpAny_pure (wpAny_pure ⟨_, rfl, wpAny_pure h⟩)) htake))
   | exact wpAny_bind (wpAny_bind (m := Builtin.Tuple.tupleExact _) (wpAny_newObj_type (wpAny_pure ⟨_, rfl, wpAny_pure h⟩) htake))
end
end HT
namespace L2
open PySem PySem.Spec PyProof.Rows
abbrev TO := St → Hp → (Option Int → Hp → Prop) → Prop
def PO (X : Cx) (e : Option Expr) (t : TO) : Prop :=
 ∀ (pins : List (Addr × Obj)) (s : Shared) (σ : St) (H : Hp) (Q : Option Int → Hp → Prop), Inv X pins σ H s → t σ H Q →
   wpAny (model X.prog X.w) X.A (evalPart e X.env) (fun u s' => ∃ o H', Inv X pins σ H' s' ∧ IsPart u o ∧ Q o H') X.xe s
def tNoPart : TO := fun _ H Q => Q none H
def tPart (t : TE) : TO := fun σ H Q => t σ H fun x H1 => ∃ i, x = .int i ∧ Q (some i) H1
section
variable {X : Cx} {e : Expr} {te : TE} {lo hi : Option Expr} {tl th : TO} {pos p2 : Pos}
theorem po_none : PO X none tNoPart := by
 intro pins s σ H Q I h
 rw [evalPart_none]
 exact wpAny_pure ⟨none, H, I, .none, h⟩
theorem po_some (h : PE X e te) : PO X (some e) (tPart te) := by
 intro pins s σ H Q I hw
 rw [evalPart_some]
 refine thn (h pins s σ H _ I hw) fun u s1 ⟨x, H1, I1, r1, q1⟩ => ?_
 obtain ⟨i, rfl, q⟩ := q1
 obtain ⟨t, rfl⟩ := r1
 exact ⟨some i, H1, I1, .int i t, q⟩
def SlR (X : Cx) (r : V → Option Int → Option Int → Hp → VK → Prop) : Prop :=
 ∀ (pins : List (Addr × Obj)) (s : Shared) (σ : St) (H : Hp) (x : V) (v vl vu : Value) (lo hi : Option Int) (sl : Addr) (Q : VK), Inv X pins σ H s → RelV x v → s.heap.IsSliceOf sl vl vu .none → IsPart vl lo → IsPart vu hi → r x lo hi H Q →
   ∃ T id, typeLookup (.type T) "__getitem__" = pure (some (.builtin id)) ∧ s.TypeIs v T ∧ wpAny (model X.prog X.w) X.A (getItem v (.ref sl)) (EP X pins σ Q) X.xe s
theorem SlR.or {r r' : V → Option Int → Option Int → Hp → VK → Prop} (h : SlR X r) (h' : SlR X r') : SlR X (fun x lo hi H Q => r x lo hi H Q ∨ r' x lo hi H Q) := by
 intro pins s σ H x v vl vu lo hi sl Q I rx hs pl pu q
 rcases q with q | q
 · exact h pins s σ H x v vl vu lo hi sl Q I rx hs pl pu q
 · exact h' pins s σ H x v vl vu lo hi sl Q I rx hs pl pu q
def tSl (r : V → Option Int → Option Int → Hp → VK → Prop) (te : TE) (tl th : TO) : TE := fun σ H Q => te σ H fun x H1 => tl σ H1 fun l H2 => th σ H2 fun u H3 => r x l u H3 Q
theorem pe_slice {r : V → Option Int → Option Int → Hp → VK → Prop} (hr : SlR X r) (he : PE X e te) (hl : PO X lo tl) (hu : PO X hi th) : PE X (.Subscript e (.Slice lo hi none p2) pos) (tSl r te tl th) := by
 intro pins s σ H Q I h
 refine Subscript_ (thn (he pins s σ H _ I h) fun v s1 ⟨x, H1, I1, r1, q1⟩ => ?_)
 refine wpAny_Slice (thn (hl pins s1 σ H1 _ I1 q1) fun vl s2 ⟨l, H2, I2, pl, q2⟩ => thn (hu pins s2 σ H2 _ I2 q2) fun vu s3 ⟨u, H3, I3, pu, q3⟩ => ?_)
 rw [evalPart_none]
 refine wpAny_pure ?_
 have I4 : Inv X pins σ H3 { s3 with heap := s3.heap.push { cls := .type "slice", data := .fields #[vl, vu, .none] } } := I3.kept (t' := s3.toks) fun b ob q => Heap.get?_push_of_some _ q
 obtain ⟨T, id, hT, ht, hg⟩ := hr pins { s3 with heap := s3.heap.push { cls := .type "slice", data := .fields #[vl, vu, .none] } } σ H3 x v vl vu l u s3.heap.objs.size Q I4 r1 (Heap.IsSliceOf.new ..) pl pu q3
 show wpAny (model X.prog X.w) X.A (subscriptTail e (.Slice lo hi none p2) v (.ref s3.heap.objs.size)) (EP X pins σ Q) X.xe { s3 with heap := s3.heap.push { cls := .type "slice", data := .fields #[vl, vu, .none] } }
 exact tail_any (ops := [.ref s3.heap.objs.size, v]) ht hT hg (by with_unfolding_all rfl)
def cutV (xs : List V) (lo hi : Option Int) : List V := (xs.drop (HT.sIx xs.length 0 lo)).take (HT.sIx xs.length xs.length hi - HT.sIx xs.length 0 lo)
theorem cutV_length (xs : List V) (lo hi : Option Int) : (cutV xs lo hi).length ≤ xs.length := by
 unfold cutV
 rw [List.length_take, List.length_drop]
 omega
def rSlT (K : PySem.W.Frag) : V → Option Int → Option Int → Hp → VK → Prop := fun x lo hi H Q => ∃ a xs, x = .ref a ∧ SqT K H a xs ∧
 ¬ (HT.sIx xs.length 0 lo = 0 ∧ HT.sIx xs.length xs.length hi = xs.length) ∧ ∀ p, H p = none → Q (.ref p) (upd H p (.tup (cutV xs lo hi)))
theorem sl_tup : SlR X (rSlT X.K) := by
 intro pins s σ H x v vl vu lo hi sl Q I rx hs pl pu h
 obtain ⟨a, xs, rfl, hx, hw, q⟩ := h
 cases rx
 obtain ⟨its, r, ht, hz⟩ := I.tuple hx
 have hlen : its.toArray.size = xs.length := by rw [List.size_toArray]; exact r.length.symm
 refine ⟨"tuple", _, PyProof.Rows.slot_tuple_getitem.lookup, ht.typeIs, ?_⟩
 refine HT.getItem_tuple_cut ht hs pl pu (by rw [hlen]; exact hw) ?_ (by rw [hlen]; exact hz)
 rw [hlen]
 refine ⟨.ref s.heap.objs.size, _, I.laid (t' := s.toks) (o := .tup (cutV xs lo hi)) (fun b ob q => Heap.get?_push_of_some _ q) (Nat.le_refl _) ?_, rfl, q _ (I.hok.fresh (Nat.le_refl _))⟩
 exact ⟨Nat.le_trans (cutV_length xs lo hi) hz, _, (r.drop (HT.sIx xs.length 0 lo)).take (HT.sIx xs.length xs.length hi - HT.sIx xs.length 0 lo), IsTup.new _ _⟩
def rCatT (K : PySem.W.Frag) : R2 := fun x y H Q => ∃ a b xs ys, x = .ref a ∧ y = .ref b ∧ SqT K H a xs ∧ SqT K H b ys ∧ xs ≠ [] ∧ xs.length + ys.length ≤ sizeLine ∧
 (ys = [] → Q (.ref a) H) ∧ (ys ≠ [] → ∀ p, H p = none → Q (.ref p) (upd H p (.tup (xs ++ ys))))
theorem Vals.nil_iff {xs : List V} {us : List Value} (r : Vals xs us) : us = [] ↔ xs = [] := by
 cases r with
 | nil => simp
 | cons _ _ => simp
theorem op_catT : OpR X (binaryOp .Add) (rCatT X.K) := by
 intro pins s σ H x y v u Q I rx ry h
 obtain ⟨a, b, xs, ys, rfl, rfl, ha, hb, hx, hz, q1, q2⟩ := h
 cases rx
 cases ry
 obtain ⟨its, r1, p1, _⟩ := I.tuple ha
 obtain ⟨its2, r2, p2, _⟩ := I.tuple hb
 refine HT.cat_tup p1 p2 (fun z => hx (r1.nil_iff.mp z)) (fun z => ⟨.ref a, H, I, rfl, q1 (r2.nil_iff.mp z)⟩) (fun z => ?_) (by rw [← r1.length, ← r2.length]; exact hz)
 refine ⟨.ref s.heap.objs.size, _, I.laid (t' := s.toks) (o := .tup (xs ++ ys)) (fun b ob q => Heap.get?_push_of_some _ q) (Nat.le_refl _) ?_, rfl, q2 (fun w => z (r2.nil_iff.mpr w)) _ (I.hok.fresh (Nat.le_refl _))⟩
 exact ⟨by rw [List.length_append]; exact hz, _, r1.append r2, IsTup.new _ _⟩
end
end L2
namespace L2
open PySem PySem.Spec PyProof.Rows
def ixN (n : Nat) (i : Int) : Option Nat := if 0 ≤ i then (if i < n then some i.toNat else none) else if -(n : Int) ≤ i then some (i + n).toNat else none
def atI {α : Type} (xs : List α) (i : Int) : Option α := (ixN xs.length i).bind fun j => xs[j]?
theorem ixN_seq {n : Nat} {i : Int} {j : Nat} (h : ixN n i = some j) : seqIndex? i n = some j ∧ j < n ∧ -(n : Int) ≤ i ∧ i < n := by
 unfold ixN at h
 by_cases h0 : 0 ≤ i
 · rw [if_pos h0] at h
   by_cases h1 : i < n
   · rw [if_pos h1] at h
     have e : i.toNat = j := Option.some.inj h
     exact ⟨by rw [seqIndex_of h0 h1, e], by omega, by omega, h1⟩
   · rw [if_neg h1] at h; cases h
 · rw [if_neg h0] at h
   by_cases h1 : -(n : Int) ≤ i
   · rw [if_pos h1] at h
     have e : (i + n).toNat = j := Option.some.inj h
     exact ⟨by rw [seqIndex_neg (by omega) h1, e], by omega, h1, by omega⟩
   · rw [if_neg h1] at h; cases h
theorem atI_get {α : Type} {xs : List α} {i : Int} {v : α} (h : atI xs i = some v) : ∃ j, seqIndex? i xs.length = some j ∧ xs[j]? = some v ∧ j < xs.length ∧ -(xs.length : Int) ≤ i ∧ i < xs.length := by
 unfold atI at h
 cases e : ixN xs.length i with
 | none => rw [e] at h; cases h
 | some j =>
   rw [e] at h
   obtain ⟨h1, h2, h3, h4⟩ := ixN_seq e
   exact ⟨j, h1, h, h2, h3, h4⟩
theorem atI_nat {α : Type} {xs : List α} {j : Nat} {v : α} (h : xs[j]? = some v) : atI xs (j : Int) = some v := by
 have hj : j < xs.length := (List.getElem?_eq_some_iff.mp h).1
 have e : ixN xs.length (j : Int) = some j := by
   unfold ixN
   rw [if_pos (by omega), if_pos (by omega)]; simp
 unfold atI; rw [e]; exact h
theorem atI_last {α : Type} (xs : List α) (v : α) : atI (xs ++ [v]) (-1) = some v := by
 have hl : (xs ++ [v]).length = xs.length + 1 := by simp
 have e : ixN (xs ++ [v]).length (-1) = some xs.length := by
   unfold ixN
   rw [hl, if_neg (by decide), if_pos (by omega)]
   congr 1
   omega
 unfold atI
 rw [e]
 show (xs ++ [v])[xs.length]? = some v
 simp
def PlainIx (b : Expr) : Prop := ∀ o i, subscripted b false o i = operate [o, i] (getItem o i)
def IxR (X : Cx) (r : R2) : Prop :=
 ∀ (value slice : Expr) (pins : List (Addr × Obj)) (s : Shared) (σ : St) (H : Hp) (x y : V) (v u : Value) (Q : VK), Inv X pins σ H s → RelV x v → RelV y u → r x y H Q →
   subscripted slice false v u = operate [v, u] (getItem v u) → wpAny (model X.prog X.w) X.A (subscriptTail value slice v u) (EP X pins σ Q) X.xe s
def MtR (X : Cx) (id : String) (r : V → List V → Hp → VK → Prop) : Prop :=
 ∀ (pins : List (Addr × Obj)) (s : Shared) (σ : St) (H : Hp) (x : V) (xs : List V) (v : Value) (us : List Value) (Q : VK), Inv X pins σ H s → RelV x v → Vals xs us → r x xs H Q →
   wpAny (model X.prog X.w) X.A (call (.builtin id) (v :: us)) (EP X pins σ Q) X.xe s
section
variable {X : Cx} {a b : Expr} {ta tb : TE} {pos : Pos}
theorem IxR.or {r r' : R2} (h : IxR X r) (h' : IxR X r') : IxR X (fun x y H Q => r x y H Q ∨ r' x y H Q) := by
 intro value slice pins s σ H x y v u Q I rx ry q hs
 rcases q with q | q
 · exact h value slice pins s σ H x y v u Q I rx ry q hs
 · exact h' value slice pins s σ H x y v u Q I rx ry q hs
theorem MtR.or {id : String} {r r' : V → List V → Hp → VK → Prop} (h : MtR X id r) (h' : MtR X id r') : MtR X id (fun x xs H Q => r x xs H Q ∨ r' x xs H Q) := by
 intro pins s σ H x xs v us Q I rx rs q
 rcases q with q | q
 · exact h pins s σ H x xs v us Q I rx rs q
 · exact h' pins s σ H x xs v us Q I rx rs q
theorem pe_ix {r : R2} (hr : IxR X r) (ha : PE X a ta) (hb : PE X b tb) (hs : PlainIx b) : PE X (.Subscript a b pos) (tOp r ta tb) := by
 intro pins s σ H Q I h
 exact Subscript_ (binT ha hb I h fun v u s2 x y H2 I2 rx ry q => hr a b pins s2 σ H2 x y v u Q I2 rx ry q (hs _ _))
def rIxL (K : PySem.W.Frag) : R2 := fun x y H Q => ∃ p xs i v, x = .ref p ∧ y = .int i ∧ SqL K H p xs ∧ atI xs i = some v ∧ Q v H
def rIxT (K : PySem.W.Frag) : R2 := fun x y H Q => ∃ p xs i v, x = .ref p ∧ y = .int i ∧ SqT K H p xs ∧ atI xs i = some v ∧ Q v H
def rIxS : R2 := fun x y H Q => ∃ z i c, x = .str z ∧ y = .int i ∧ z.length ≤ sizeLine ∧ atI z.cps.toList i = some c ∧ Q (.str ⟨#[c]⟩) H
theorem ix_list : IxR X (rIxL X.K) := by
 intro value slice pins s σ H x y v u Q I rx ry h hs
 obtain ⟨p, xs, i, z, rfl, rfl, hq, he, q⟩ := h
 cases rx
 obtain ⟨t, rfl⟩ := ry
 obtain ⟨its, r, pl, hz⟩ := I.list hq
 obtain ⟨j, h1, h2, h3, h4, h5⟩ := atI_get he
 obtain ⟨w, ew, rw'⟩ := r.get h2
 have hl := r.length
 have hn := line63
 have fin : EP X pins σ Q w s := ⟨z, H, I, rw', q⟩
 by_cases h0 : 0 ≤ i
 · have hj : i.toNat = j := by
     rw [seqIndex_of h0 h5] at h1
     exact Option.some.inj h1
   exact item_listR pl.isList h0 (by omega) (by rw [hj]; simpa using ew) fin hs
 · have hj : (i + (its.toArray.size : Int)).toNat = j := by
     rw [seqIndex_neg (by omega) h4] at h1
     rw [List.size_toArray, ← hl]
     exact Option.some.inj h1
   exact subscriptTail_builtinR (x := w) pl.isList.typeIs slot_list_getitem.lookup
     (wpAny_getItem_list_neg (Q := fun r s' => r = w ∧ EP X pins σ Q r s') pl.isList (by omega) (by rw [List.size_toArray] <;> omega) (by omega) (by rw [hj]; simpa using ew) ⟨rfl, fin⟩) hs
theorem ix_tup : IxR X (rIxT X.K) := by
 intro value slice pins s σ H x y v u Q I rx ry h hs
 obtain ⟨p, xs, i, z, rfl, rfl, hq, he, q⟩ := h
 cases rx
 obtain ⟨t, rfl⟩ := ry
 obtain ⟨its, r, pl, hz⟩ := I.tuple hq
 obtain ⟨j, h1, h2, h3, h4, h5⟩ := atI_get he
 obtain ⟨w, ew, rw'⟩ := r.get h2
 have hl := r.length
 have hn := line63
 have fin : EP X pins σ Q w s := ⟨z, H, I, rw', q⟩
 exact subscriptTail_builtinR (x := w) pl.typeIs slot_tuple_getitem.lookup
   (getItem_tuple (j := j) (Q := fun r s' => r = w ∧ EP X pins σ Q r s') pl (by omega) (by omega) (by rw [List.size_toArray, ← hl]; exact h1) (by simpa using ew) ⟨rfl, fin⟩) hs
theorem ix_str : IxR X rIxS := by
 intro value slice pins s σ H x y v u Q I rx ry h hs
 obtain ⟨z, i, c, rfl, rfl, hz, he, q⟩ := h
 obtain ⟨t, rfl⟩ := rx
 obtain ⟨t', rfl⟩ := ry
 obtain ⟨j, h1, h2, h3, h4, h5⟩ := atI_get he
 have hl : z.cps.toList.length = z.length := by simp [Str.length]
 rw [hl] at h1 h4 h5
 have hn := line63
 exact tail_any (typeIs_str s z t) slot_str_getitem.lookup (getItem_str (c := c) (by
   have e1 : decide (i < -(2 ^ 63 : Int)) = false := decide_eq_false (by omega)
   have e2 : decide (i ≥ 2 ^ 63) = false := decide_eq_false (by omega)
   rw [e1, e2, Bool.or_false]) (by rw [h1]; simpa using h2) ⟨.str ⟨#[c]⟩, H, I.tok _, ⟨_, rfl⟩, q⟩) hs
def rIx (K : PySem.W.Frag) : R2 := fun x y H Q => rIxL K x y H Q ∨ rIxT K x y H Q ∨ rIxS x y H Q
theorem ix_seq : IxR X (rIx X.K) := ix_list.or (ix_tup.or ix_str)
theorem mapSeq_set (its : List Value) (n j : Nat) (u : Value) : Obj.mapSeq (·.setIfInBounds j u) { cls := .type "list", data := .seq its.toArray n } = { cls := .type "list", data := .seq (its.set j u).toArray n } := by
 simp [Obj.mapSeq]
theorem Inv.lst {pins : List (Addr × Obj)} {σ : St} {H : Hp} {s : Shared} {p : Addr} {xs : List V} (I : Inv X pins σ H s) (h : H p = some (.lst xs)) :
   ∃ (its : List Value) (n : Nat), Vals xs its ∧ s.heap.get? p = some { cls := .type "list", data := .seq its.toArray n } ∧ xs.length ≤ sizeLine := by
 obtain ⟨z, its, n, r, e⟩ := I.hok p _ h
 exact ⟨its, n, r, e, z⟩
theorem Inv.lstUpd {pins : List (Addr × Obj)} {σ : St} {H : Hp} {s : Shared} {p : Addr} {xs ys : List V} {its its' : List Value} {n n' : Nat} {f : Obj → Obj} (I : Inv X pins σ H s) (h : H p = some (.lst xs))
   (ho : s.heap.get? p = some { cls := .type "list", data := .seq its.toArray n }) (hf : f { cls := .type "list", data := .seq its.toArray n } = { cls := .type "list", data := .seq its'.toArray n' }) (r : Vals ys its') (hz : ys.length ≤ sizeLine) (t : Nat) :
   Inv X pins σ (upd H p (.lst ys)) { s with heap := s.heap.update p f, toks := t } := by
 have e : (s.heap.update p f).get? p = some { cls := .type "list", data := .seq its'.toArray n' } := by
   rw [Heap.get?_update_self f ho (by rw [hf] <;> rfl), hf]
 refine I.write (x := p) (e := p) (by rw [h]; trivial) (.inl rfl) (fun b u hb q => (Heap.get?_update_other _ _ (Ne.symm hb)).trans q) ⟨_, e⟩ ?_
 exact ⟨hz, its', n', r, e⟩
def rSetL : V → V → V → Hp → (Hp → Prop) → Prop := fun o i v H Q => ∃ p xs k j, o = .ref p ∧ i = .int k ∧ H p = some (.lst xs) ∧ ixN xs.length k = some j ∧ Q (upd H p (.lst (xs.set j v)))
theorem set_list : PSet X rSetL := by
 intro pins s σ H o i v ov iv u Q I ro ri rv h
 obtain ⟨p, xs, k, j, rfl, rfl, hp, hj, q⟩ := h
 cases ro
 obtain ⟨t, rfl⟩ := ri
 obtain ⟨its, n, r, ho, hz⟩ := I.lst hp
 obtain ⟨h1, h2, h3, h4⟩ := ixN_seq hj
 have hl := r.length
 have hn := line63
 have I' : Inv X pins σ (upd H p (.lst (xs.set j v))) { s with heap := s.heap.update p (Obj.mapSeq (·.setIfInBounds j u)) } :=
   I.lstUpd hp ho (mapSeq_set its n j u) (r.set rv j) (by rw [List.length_set]; exact hz) s.toks
 by_cases h0 : 0 ≤ k
 · have hk : k.toNat = j := by
     rw [seqIndex_of h0 h4] at h1
     exact Option.some.inj h1
   exact PySem.W.ki_setAt ho h0 (by omega) (by rw [List.size_toArray, ← hl]; exact h4) (by rw [hk]; exact ⟨_, I', q⟩)
 · have hk : (k + (its.toArray.size : Int)).toNat = j := by
     rw [seqIndex_neg (by omega) h3] at h1
     rw [List.size_toArray, ← hl]
     exact Option.some.inj h1
   exact PySem.W.ki_setBack ho (by omega) (by rw [List.size_toArray, ← hl]; exact h3) (by omega) (by rw [hk]; exact ⟨_, I', q⟩)
theorem slice_bounds (lo hi : Option Int) (n : Nat) : (sliceBounds lo hi none n).1 = ((HT.sIx n 0 lo : Nat) : Int) ∧ (sliceBounds lo hi none n).2.1 = ((HT.sIx n n hi : Nat) : Int) ∧ (sliceBounds lo hi none n).2.2 = 1 := by
 refine ⟨?_, ?_, rfl⟩
 · cases lo with
   | none => simp [sliceBounds, HT.sIx]
   | some i =>
     simp only [sliceBounds, HT.sIx, Option.getD_none, show (1 : Int) > 0 by decide, if_true]
     by_cases h : i < 0
     · simp only [h, if_true] <;> omega
     · simp only [h, if_false] <;> omega
 · cases hi with
   | none => simp [sliceBounds, HT.sIx]
   | some i =>
     simp only [sliceBounds, HT.sIx, Option.getD_none, show (1 : Int) > 0 by decide, if_true]
     by_cases h : i < 0
     · simp only [h, if_true] <;> omega
     · simp only [h, if_false] <;> omega
theorem slicePick_cut (its : List Value) (lo hi : Option Int) : slicePick its.toArray lo hi none = ((its.drop (HT.sIx its.length 0 lo)).take (HT.sIx its.length its.length hi - HT.sIx its.length 0 lo)).toArray := by
 obtain ⟨h1, h2, h3⟩ := slice_bounds lo hi its.toArray.size
 unfold slicePick
 rw [h1, h2, h3]
 simp only [sliceRange_one, pick_run, List.size_toArray] <;> rfl
def rSlL (K : PySem.W.Frag) : V → Option Int → Option Int → Hp → VK → Prop := fun x lo hi H Q => ∃ a xs, x = .ref a ∧ SqL K H a xs ∧ ∀ p, H p = none → Q (.ref p) (upd H p (.lst (cutV xs lo hi)))
theorem sl_list : SlR X (rSlL X.K) := by
 intro pins s σ H x v vl vu lo hi sl Q I rx hs pl pu h
 obtain ⟨a, xs, rfl, hx, q⟩ := h
 cases rx
 obtain ⟨its, r, ht, hz⟩ := I.list hx
 have hlen := r.length
 refine ⟨"list", _, slot_list_getitem.lookup, ht.isList.typeIs, ?_⟩
 refine wpAny_getItem_list_slice ht.isList hs pl pu .none (by simp) ?_ (by rw [List.size_toArray] <;> omega)
 rw [slicePick_cut, ← hlen]
 refine ⟨.ref s.heap.objs.size, _, I.laid (t' := s.toks) (o := .lst (cutV xs lo hi)) (fun b ob q => Heap.get?_push_of_some _ q) (Nat.le_refl _) ?_, rfl, q _ (I.hok.fresh (Nat.le_refl _))⟩
 exact ⟨Nat.le_trans (cutV_length xs lo hi) hz, _, 0, (r.drop (HT.sIx xs.length 0 lo)).take (HT.sIx xs.length xs.length hi - HT.sIx xs.length 0 lo), Heap.get?_push_size _ rfl⟩
def flatV : V → Bool
 | .non => true
 | .bl _ => true
 | .int _ => true
 | .str _ => true
 | _ => false
def eqV : V → V → Bool
 | .non, .non => true
 | .bl a, .bl b => a == b
 | .bl a, .int b => (if a then 1 else 0) == b
 | .int a, .bl b => a == (if b then 1 else 0)
 | .int a, .int b => a == b
 | .str a, .str b => a == b
 | _, _ => false
theorem eqAt_V {A : Around} {s : Shared} {y x : V} {u v : Value} (ry : RelV y u) (rx : RelV x v) (fy : flatV y = true) (fx : flatV x = true) : SeqAt.EqAt A s u v (eqV y x) := by
 cases y with
 | non =>
   cases ry
   cases x with
   | non => cases rx; exact SeqAt.EqAt.same _
   | bl b => cases rx; exact SeqAt.EqAt.none_bool b
   | int b => obtain ⟨t, rfl⟩ := rx; exact SeqAt.EqAt.none_int b t
   | str b => obtain ⟨t, rfl⟩ := rx; exact SeqAt.EqAt.none_str b t
   | _ => exact absurd (show false = true from fx) Bool.false_ne_true
 | bl a =>
   cases ry
   cases x with
   | non => cases rx; exact SeqAt.EqAt.bool_none a
   | bl b => cases rx; exact SeqAt.EqAt.bool_bool a b
   | int b => obtain ⟨t, rfl⟩ := rx; exact SeqAt.EqAt.bool_int a b t
   | str b => obtain ⟨t, rfl⟩ := rx; exact SeqAt.EqAt.bool_str a b t
   | _ => exact absurd (show false = true from fx) Bool.false_ne_true
 | int a =>
   obtain ⟨t', rfl⟩ := ry
   cases x with
   | non => cases rx; exact SeqAt.EqAt.int_none a t'
   | bl b => cases rx; exact SeqAt.EqAt.int_bool a t' b
   | int b => obtain ⟨t, rfl⟩ := rx; exact SeqAt.EqAt.int_int a t' b t
   | str b => obtain ⟨t, rfl⟩ := rx; exact SeqAt.EqAt.int_str a t' b t
   | _ => exact absurd (show false = true from fx) Bool.false_ne_true
 | str a =>
   obtain ⟨t', rfl⟩ := ry
   cases x with
   | non => cases rx; exact SeqAt.EqAt.str_none a t'
   | bl b => cases rx; exact SeqAt.EqAt.str_bool a t' b
   | int b => obtain ⟨t, rfl⟩ := rx; exact SeqAt.EqAt.str_int a t' b t
   | str b => obtain ⟨t, rfl⟩ := rx; exact SeqAt.EqAt.str_str a t' b t
   | _ => exact absurd (show false = true from fx) Bool.false_ne_true
 | _ => exact absurd (show false = true from fy) Bool.false_ne_true
theorem call_len_seq : CallR X (.builtin "len") (fun xs H Q => ∃ p ys, xs = [.ref p] ∧ (SqL X.K H p ys ∨ SqT X.K H p ys) ∧ Q (.int ys.length) H) := by
 intro pins s σ H xs us Q I r h
 obtain ⟨p, ys, rfl, hq, q⟩ := h
 obtain ⟨u, rfl, rx⟩ := vals1 r
 cases rx
 have hn := line63
 rcases hq with hq | hq
 · obtain ⟨its, r', pl, hz⟩ := I.list hq
   have hlen := r'.length
   exact Calls.call_len_list pl.isList (by simp only [List.size_toArray] <;> omega) ⟨.int ys.length, H, I.tok _, ⟨s.toks + 1, by rw [List.size_toArray, hlen]⟩, q⟩
 · obtain ⟨its, r', pl, hz⟩ := I.tuple hq
   have hlen := r'.length
   exact len_tuple pl (by simp only [List.size_toArray] <;> omega) ⟨.int ys.length, H, I.tok _, ⟨s.toks + 1, by rw [List.size_toArray, hlen]⟩, q⟩
theorem CallR.or {f : Value} {r r' : List V → Hp → VK → Prop} (h : CallR X f r) (h' : CallR X f r') : CallR X f (fun xs H Q => r xs H Q ∨ r' xs H Q) := by
 intro pins s σ H xs us Q I rs q
 rcases q with q | q
 · exact h pins s σ H xs us Q I rs q
 · exact h' pins s σ H xs us Q I rs q
theorem call_list_of : CallR X (.type "list") (fun xs H Q => ∃ p ys, xs = [.ref p] ∧ (SqL X.K H p ys ∨ SqT X.K H p ys) ∧ ∀ l, H l = none → Q (.ref l) (upd H l (.lst ys))) := by
 intro pins s σ H xs us Q I r h
 obtain ⟨p, ys, rfl, hq, q⟩ := h
 obtain ⟨u, rfl, rx⟩ := vals1 r
 cases rx
 have fin : ∀ (its : List Value), Vals ys its → ys.length ≤ sizeLine → ∀ (h' : Heap) (c' : Nat), (∀ b o', s.heap.get? b = some o' → h'.get? b = some o') →
     h'.get? s.heap.objs.size = some { cls := .type "list", dict := none, data := .seq its.toArray c', slots := #[] } → EP X pins σ Q (.ref s.heap.objs.size) { s with heap := h' } := fun its r' hz h' c' kp e =>
   ⟨.ref s.heap.objs.size, _, I.laid (t' := s.toks) kp (Nat.le_refl _) (show ObjOk X.prog X.w _ h' _ (.lst ys) from ⟨hz, its, c', r', e⟩), rfl, q _ (I.hok.fresh (Nat.le_refl _))⟩
 rcases hq with hq | hq
 · obtain ⟨its, r', pl, hz⟩ := I.list hq
   have hlen := r'.length
   obtain ⟨o, ho, hc, n, hd⟩ := pl.isList
   exact call_list_seq p (.inl rfl) ho hc hd (fun h' c' kp e => fin its r' hz h' c' kp e) (by simp only [List.size_toArray] <;> omega)
 · obtain ⟨its, r', pl, hz⟩ := I.tuple hq
   have hlen := r'.length
   obtain ⟨o, ho, hc, n, hd⟩ := pl
   exact call_list_seq p (.inr rfl) ho hc hd (fun h' c' kp e => fin its r' hz h' c' kp e) (by simp only [List.size_toArray] <;> omega)
theorem call_tuple_of : CallR X (.type "tuple") (fun xs H Q => ∃ p ys, xs = [.ref p] ∧ ((SqL X.K H p ys ∧ ∀ l, H l = none → Q (.ref l) (upd H l (.tup ys))) ∨ (SqT X.K H p ys ∧ Q (.ref p) H))) := by
 intro pins s σ H xs us Q I r h
 obtain ⟨p, ys, rfl, h⟩ := h
 obtain ⟨u, rfl, rx⟩ := vals1 r
 cases rx
 rcases h with ⟨hq, q⟩ | ⟨hq, q⟩
 · obtain ⟨its, r', pl, hz⟩ := I.list hq
   have hlen := r'.length
   refine call_tuple_list pl.isList (fun h' kp => ?_) (by simp only [List.size_toArray] <;> omega)
   have I1 : Inv X pins σ H { s with heap := h' } := I.kept (t' := s.toks) kp
   have I2 : Inv X pins σ (upd H h'.objs.size (.tup ys)) { s with heap := h'.push { cls := .type "tuple", data := .seq its.toArray } } :=
     I1.laid (t' := s.toks) (fun b o e => Heap.get?_push_of_some _ e) (Nat.le_refl _) (show ObjOk X.prog X.w _ _ _ (.tup ys) from ⟨hz, its, r', IsTup.new _ _⟩)
   exact ⟨.ref h'.objs.size, _, I2, rfl, q _ (I1.hok.fresh (Nat.le_refl _))⟩
 · obtain ⟨its, r', pl, hz⟩ := I.tuple hq
   exact call_tuple_same pl ⟨.ref p, H, I, rfl, q⟩
def tyV (K : PySem.W.Frag) (T : String) (x : V) (H : Hp) : Prop := match x with
 | .str _ => T = "str"
 | .int _ => T = "int"
 | .ref p => (T = "list" ∧ ∃ xs, SqL K H p xs) ∨ (T = "tuple" ∧ ∃ o, K.lookup p = some o ∧ o.cls = .type "tuple" ∧ o.dict = none) ∨
     (T = "dict" ∧ ((∃ kvs, H p = some (.dK kvs)) ∨ ∃ kvs, H p = some (.dT kvs))) ∨ (T = "set" ∧ ∃ S n, H p = some (.set S n))
 | _ => False
theorem tyV_is {pins : List (Addr × Obj)} {σ : St} {H : Hp} {s : Shared} {T : String} {x : V} {v : Value} (I : Inv X pins σ H s) (r : RelV x v) (ty : tyV X.K T x H) :
   s.TypeIs v T ∧ ∀ a, v = .ref a → ∃ ob, s.heap.get? a = some ob ∧ ob.dict = none := by
 cases x with
 | str z =>
   obtain ⟨t, rfl⟩ := r
   cases (show T = "str" from ty)
   exact ⟨typeIs_str s z t, fun _ e => nomatch e⟩
 | int i =>
   obtain ⟨t, rfl⟩ := r
   cases (show T = "int" from ty)
   exact ⟨typeIs_int s i t, fun _ e => nomatch e⟩
 | ref p =>
   cases r
   rcases ty with ⟨rfl, xs, hq⟩ | ⟨rfl, o, hk, hc, hd⟩ | ⟨rfl, hk⟩ | ⟨rfl, S, n, hk⟩
   · obtain ⟨its, _, pl, _⟩ := I.list hq
     refine ⟨pl.isList.typeIs, fun a e => ?_⟩
     cases e
     obtain ⟨o, n, e, c, hd, _⟩ := pl
     exact ⟨o, e, hd⟩
   · refine ⟨⟨o, I.kIn p o hk, hc⟩, fun a e => ?_⟩
     cases e
     exact ⟨o, I.kIn _ o hk, hd⟩
   · have z : ∃ o, s.heap.get? p = some o ∧ o.ExactDict := by
       rcases hk with ⟨kvs, hk⟩ | ⟨kvs, hk⟩
       · obtain ⟨_, _, _, _, o, _, _, e, ex, _⟩ := I.hok p _ hk
         exact ⟨o, e, ex⟩
       · obtain ⟨_, _, _, _, o, _, _, e, ex, _⟩ := I.hok p _ hk
         exact ⟨o, e, ex⟩
     obtain ⟨o, e, ex⟩ := z
     refine ⟨⟨o, e, ex.1⟩, fun a e2 => ?_⟩
     cases e2
     exact ⟨o, e, ex.2.1⟩
   · obtain ⟨o, _, _, _, e, ex, _⟩ := I.hok p _ hk
     refine ⟨⟨o, e, ex.1⟩, fun a e2 => ?_⟩
     cases e2
     exact ⟨o, e, ex.2.1⟩
 | _ => exact False.elim ty
def tBM0 (K : PySem.W.Frag) (T : String) (r : V → List V → Hp → VK → Prop) (to : TE) : TE := fun σ H Q => to σ H fun x H1 => tyV K T x H1 ∧ r x [] H1 Q
def tBM (K : PySem.W.Frag) (T : String) (r : V → List V → Hp → VK → Prop) (to : TE) (t : TA) : TE := fun σ H Q => to σ H fun x H1 => tyV K T x H1 ∧ t σ H1 fun xs H2 => r x xs H2 Q
variable {o e : Expr} {es : List Expr} {to : TE} {t : TA} {name : Str} {apos cpos : Pos} {T id : String} {r : V → List V → Hp → VK → Prop}
theorem pe_bm0 (pa : PlainAttrs T) (slot : Slot T name id) (hty : typeOf (.builtin id) = pure (.type "method_descriptor")) (hm : MtR X id r) (ho : PE X o to)
   (hbase : attributeBase o name X.env (eval o X.env) = eval o X.env := by rfl) (hline : (apos.endLine == cpos.line) = true := by rfl) : PE X (.Call (.Attribute o name apos) [] [] cpos) (tBM0 X.K T r to) := by
 intro pins s σ H Q I h
 refine wpAny_Call_method0_late hbase hline (thn (ho pins s σ H _ I h) fun v s1 ⟨x, H1, I1, r1, ty, q1⟩ => ?_)
 obtain ⟨h1, h2⟩ := tyV_is I1 r1 ty
 exact ⟨T, id, pa, slot, hty, h1, h2, Calls.callWith_builtin rfl (PySem.evalArgs_none (hm pins s1 σ H1 x [] v [] Q I1 r1 .nil q1))⟩
theorem pe_bm (pa : PlainAttrs T) (slot : Slot T name id) (hty : typeOf (.builtin id) = pure (.type "method_descriptor")) (hm : MtR X id r) (ho : PE X o to) (ha : PA X (e :: es) t)
   (hbase : attributeBase o name X.env (eval o X.env) = eval o X.env := by rfl)
   (hfew : ((backTo cpos (starEach (e :: es) X.env)).all (fun x => !x.1) && (backToKw cpos (keywordEach [] X.env)).all (fun x => x.1.isSome)
     && decide ((e :: es).length + ([] : List Keyword).length + (if ([] : List Keyword).isEmpty then 0 else 1) < 30)) = true := by rfl)
   (hline : (apos.endLine == cpos.line) = true := by rfl) (hs : starEach (e :: es) X.env = (false, eval e X.env) :: starEach es X.env := by rfl) (hplain : (backTo cpos (starEach es X.env)).any (·.1) = false := by rfl) :
   PE X (.Call (.Attribute o name apos) (e :: es) [] cpos) (tBM X.K T r to t) := by
 intro pins s σ H Q I h
 refine wpAny_Call_method_late hbase hfew hline rfl (thn (ho pins s σ H _ I h) fun v s1 ⟨x, H1, I1, r1, ty, q1⟩ => ?_)
 obtain ⟨h1, h2⟩ := tyV_is I1 r1 ty
 refine ⟨T, id, pa, slot, hty, h1, h2, ?_⟩
 have hA := ha cpos pins s1 σ H1 _ I1 q1
 rw [hs] at hA ⊢
 refine Calls.callWith_builtin (by show (false || (backTo cpos (starEach es X.env)).any (·.1)) = false; rw [hplain] <;> rfl) (Calls.evalArgs_plain ?_)
 exact thn hA fun us s2 ⟨vs, H2, I2, r2, q2⟩ => hm pins s2 σ H2 x vs v us Q I2 r1 r2 q2
/- xs.append(e), list.index on a module's tuple .. are MtR facts of 06m -/
end
end L2
namespace L2
open PySem PySem.Spec PyProof.Rows
def MtM (X : Cx) (id : String) (r : V → List V → Hp → VK → Prop) : Prop :=
 ∀ (pins : List (Addr × Obj)) (s : Shared) (σ : St) (H : Hp) (x : V) (xs : List V) (v : Value) (us : List Value) (Q : VK), Inv X pins σ H s → RelV x v → Vals xs us → r x xs H Q →
   wpAny (model X.prog X.w) X.A (call (.builtin id) (v :: us)) (EP X pins σ Q) X.xe s
theorem Vals.one : ∀ {x : V} {us : List Value}, Vals [x] us → ∃ u, us = [u] ∧ RelV x u
 | _, _, .cons r .nil => ⟨_, rfl, r⟩
theorem Vals.two : ∀ {x y : V} {us : List Value}, Vals [x, y] us → ∃ u v, us = [u, v] ∧ RelV x u ∧ RelV y v
 | _, _, _, .cons r (.cons q .nil) => ⟨_, _, rfl, r, q⟩
theorem Vals.zero : ∀ {us : List Value}, Vals [] us → us = []
 | _, .nil => rfl
theorem Vals.dropLast {xs : List V} {us : List Value} (h : Vals xs us) : Vals xs.dropLast us.dropLast := by
 induction h with
 | nil => exact .nil
 | cons r t ih =>
   cases t with
   | nil => exact .nil
   | cons q t' => exact .cons r ih
section
variable {X : Cx} {pins : List (Addr × Obj)} {σ : St} {H : Hp} {s : Shared} {l b : Addr} {xs ys zs : List V}
theorem Inv.lset {its its' : List Value} {n : Nat} {f : Array Value → Array Value} {t' : Nat} (I : Inv X pins σ H s) (hH : H l = some (.lst xs))
   (e : s.heap.get? l = some { cls := .type "list", data := .seq its.toArray n }) (hf : f its.toArray = its'.toArray) (hv : Vals ys its') (hz : ys.length ≤ sizeLine) :
   Inv X pins σ (upd H l (.lst ys)) { s with heap := s.heap.update l (Obj.mapSeq f), toks := t' } := by
 have q := PySem.IsL.update e f
 rw [hf] at q
 refine I.write (x := l) (e := l) (by rw [hH]; exact trivial) (.inl rfl) (fun b' u hb hu => (Heap.get?_update_other s.heap (Obj.mapSeq f) (Ne.symm hb)).trans hu) ⟨_, q⟩ ?_
 exact ⟨hz, its', _, hv, q⟩
theorem Inv.lnew {its : List Value} {t' : Nat} (I : Inv X pins σ H s) (hv : Vals ys its) (hz : ys.length ≤ sizeLine) :
   Inv X pins σ (upd H s.heap.objs.size (.lst ys)) { s with heap := s.heap.push { cls := .type "list", data := .seq its.toArray }, toks := t' } :=
 I.laid (fun _ _ q => Heap.get?_push_of_some _ q) (Nat.le_refl _) ⟨hz, its, 0, hv, Heap.get?_push_size _ rfl⟩
theorem Inv.fresh (I : Inv X pins σ H s) : H s.heap.objs.size = none := I.hok.fresh (Nat.le_refl _)
theorem Inv.lstM (I : Inv X pins σ H s) (hH : H l = some (.lst xs)) : xs.length ≤ sizeLine ∧ ∃ (its : List Value) (n : Nat), Vals xs its ∧ xs.length = its.length ∧ s.heap.get? l = some { cls := .type "list", data := .seq its.toArray n } := by
 obtain ⟨z, its, n, r, e⟩ := I.hok l _ hH
 exact ⟨z, its, n, r, r.length, e⟩
end
section
variable {X : Cx}
def rAppend : V → List V → Hp → VK → Prop := fun x vs H Q => ∃ l xs y, x = .ref l ∧ vs = [y] ∧ H l = some (.lst xs) ∧ xs.length < sizeLine ∧ Q .non (upd H l (.lst (xs ++ [y])))
theorem mt_append : MtM X "list.append" rAppend := by
 intro pins s σ H x vs v us Q I rx rv h
 obtain ⟨l, xs, y, rfl, rfl, hH, hz, q⟩ := h
 cases rx
 obtain ⟨u, rfl, ru⟩ := rv.one
 obtain ⟨z, its, n, r, hl, e⟩ := I.lstM hH
 refine call_meets F.slot_list_append ⟨_, e, rfl⟩ F.entry_list_append (F.args_list_append_2 _ _) (PySem.list_append l its.toArray n u (by rw [List.size_toArray]; omega)) ⟨e, ?_⟩
 refine ⟨.non, _, I.lset (its' := its ++ [u]) hH e (by simp) (r.append (.cons ru .nil)) ?_, rfl, q⟩
 rw [List.length_append, List.length_singleton]
 omega
def rClear : V → List V → Hp → VK → Prop := fun x vs H Q => ∃ l xs, x = .ref l ∧ vs = [] ∧ H l = some (.lst xs) ∧ Q .non (upd H l (.lst []))
theorem mt_clear : MtM X "list.clear" rClear := by
 intro pins s σ H x vs v us Q I rx rv h
 obtain ⟨l, xs, rfl, rfl, hH, q⟩ := h
 cases rx
 have hus := rv.zero
 subst hus
 obtain ⟨z, its, n, r, hl, e⟩ := I.lstM hH
 refine call_meets F.slot_list_clear ⟨_, e, rfl⟩ F.entry_list_clear (F.args_list_clear_1 _) (AutoSeq1.list_clear_list_0 l its.toArray n (by rw [List.size_toArray]; omega)) ⟨e, ?_⟩
 exact ⟨.non, _, I.lset (its' := []) (ys := []) hH e rfl .nil (Nat.zero_le _), rfl, q⟩
def rCat : R2 := fun x y H Q => ∃ l b xs zs, x = .ref l ∧ y = .ref b ∧ H l = some (.lst xs) ∧ H b = some (.lst zs) ∧ xs.length + zs.length ≤ sizeLine ∧ ∀ p, H p = none → Q (.ref p) (upd H p (.lst (xs ++ zs)))
theorem op_cat : OpR X (binaryOp .Add) rCat := by
 intro pins s σ H x y v u Q I rx ry h
 obtain ⟨l, b, xs, zs, rfl, rfl, hH, hB, hz, q⟩ := h
 cases rx
 cases ry
 obtain ⟨z, its, n, r, hl, e⟩ := I.lstM hH
 obtain ⟨z2, its2, n2, r2, hl2, e2⟩ := I.lstM hB
 refine PySem.P.add_list e e2 ?_ (by rw [List.size_toArray, List.size_toArray]; omega)
 have ea : its.toArray ++ its2.toArray = (its ++ its2).toArray := by simp
 rw [ea]
 exact ⟨.ref _, _, I.lnew (t' := s.toks) (r.append r2) (by rw [List.length_append]; omega), rfl, q _ I.fresh⟩
end
section
variable {prog : Program} {w : World} {A : Around} {E : Value → Shared → Prop} {s : Shared}
end
section
variable {X : Cx}
end
end L2
namespace L2
open PySem PySem.Spec PyProof.Rows
section
variable {κ : Type} [DecidableEq κ]
def valV (kvs : List (κ × V)) (k : κ) : Option V := (kvs.find? fun kv => decide (kv.1 = k)).map (·.2)
def putK (kvs : List (κ × V)) (k : κ) (v : V) : List (κ × V) :=
 if (kvs.any fun kv => decide (kv.1 = k)) = true then kvs.map (fun kv => if kv.1 = k then (kv.1, v) else kv) else kvs ++ [(k, v)]
def dropK (kvs : List (κ × V)) (k : κ) : List (κ × V) := kvs.filter fun kv => decide (kv.1 ≠ k)
theorem valV_pos {p : κ × V} {r : List (κ × V)} {k : κ} (e : p.1 = k) : valV (p :: r) k = some p.2 := by simp [valV, List.find?_cons, e]
theorem valV_neg {p : κ × V} {r : List (κ × V)} {k : κ} (e : ¬ p.1 = k) : valV (p :: r) k = valV r k := by simp [valV, List.find?_cons, e]
theorem valV_any (k : κ) : ∀ kvs : List (κ × V), (kvs.any fun kv => decide (kv.1 = k)) = (valV kvs k).isSome
 | [] => rfl
 | p :: r => by
   rw [List.any_cons]
   by_cases e : p.1 = k
   · simp only [valV_pos e, decide_eq_true e, Bool.true_or, Option.isSome_some]
   · rw [valV_neg e, decide_eq_false e, Bool.false_or]; exact valV_any k r
theorem length_putK (kvs : List (κ × V)) (k : κ) (v : V) : (putK kvs k v).length ≤ kvs.length + 1 := by
 unfold putK
 split
 · rw [List.length_map]; omega
 · rw [List.length_append, List.length_cons, List.length_nil]; omega
theorem RelO.isSome_eq {o : Option V} {u : Option Value} (r : RelO o u) : o.isSome = u.isSome := by
 cases o with
 | none => cases u with
   | none => rfl
   | some _ => exact (show False from r).elim
 | some _ => cases u with
   | none => exact (show False from r).elim
   | some _ => rfl
theorem RelO.getD {o : Option V} {u : Option Value} {d : V} {d' : Value} (r : RelO o u) (rd : RelV d d') : RelV (o.getD d) (u.getD d') := by
 cases o with
 | none => cases u with
   | none => exact rd
   | some _ => exact (show False from r).elim
 | some _ => cases u with
   | none => exact (show False from r).elim
   | some _ => exact r
theorem KV.val {kvs : List (κ × V)} {vs : List (κ × Value)} (r : KV kvs vs) (k : κ) : RelO (valV kvs k) (valueAt vs k) := by
 unfold KV at r
 induction r with
 | nil => exact True.intro
 | @cons p q ps qs h t ih =>
   obtain ⟨h1, h2⟩ := h
   by_cases e : p.1 = k
   · have e' : q.1 = k := h1.symm.trans e
     have b : valueAt (q :: qs) k = some q.2 := by simp [valueAt, List.find?_cons, e']
     rw [valV_pos e, b]; exact h2
   · have e' : ¬ q.1 = k := fun z => e (h1.trans z)
     have b : valueAt (q :: qs) k = valueAt qs k := by simp [valueAt, List.find?_cons, e']
     rw [valV_neg e, b]; exact ih
theorem KV.any {kvs : List (κ × V)} {vs : List (κ × Value)} (r : KV kvs vs) (k : κ) : (kvs.any fun kv => decide (kv.1 = k)) = vs.any fun kv => decide (kv.1 = k) := by
 unfold KV at r
 induction r with
 | nil => rfl
 | cons h t ih => rw [List.any_cons, List.any_cons, ih, h.1]
theorem KV.repl {kvs : List (κ × V)} {vs : List (κ × Value)} (r : KV kvs vs) (k : κ) {y : V} {u : Value} (ry : RelV y u) :
   KV (kvs.map fun kv => if kv.1 = k then (kv.1, y) else kv) (vs.map fun kv => if kv.1 = k then (kv.1, u) else kv) := by
 unfold KV at r ⊢
 induction r with
 | nil => exact .nil
 | @cons p q ps qs h t ih =>
   rw [List.map_cons, List.map_cons]
   refine .cons ?_ ih
   obtain ⟨h1, h2⟩ := h
   by_cases e : p.1 = k
   · rw [if_pos e, if_pos (h1.symm.trans e)]; exact ⟨h1, ry⟩
   · rw [if_neg e, if_neg (fun z => e (h1.trans z))]; exact ⟨h1, h2⟩
theorem KV.put {kvs : List (κ × V)} {vs : List (κ × Value)} (r : KV kvs vs) (k : κ) {y : V} {u : Value} (ry : RelV y u) : KV (putK kvs k y) (stored vs k u) := by
 unfold putK stored
 rw [r.any k]
 by_cases e : (vs.any fun kv => decide (kv.1 = k)) = true
 · rw [if_pos e, if_pos e]; exact r.repl k ry
 · rw [if_neg e, if_neg e]; exact Paired.snoc r ⟨rfl, ry⟩
theorem KV.drop {kvs : List (κ × V)} {vs : List (κ × Value)} (r : KV kvs vs) (k : κ) : KV (dropK kvs k) (without vs k) := by
 unfold KV at r ⊢
 unfold dropK without
 induction r with
 | nil => exact .nil
 | @cons p q ps qs h t ih =>
   obtain ⟨h1, h2⟩ := h
   rw [List.filter_cons, List.filter_cons]
   by_cases e : p.1 = k
   · have a : ¬ decide (p.1 ≠ k) = true := by simp [e]
     have b : ¬ decide (q.1 ≠ k) = true := by simp [h1.symm.trans e]
     rw [if_neg a, if_neg b]; exact ih
   · have e' : ¬ q.1 = k := fun z => e (h1.trans z)
     have a : decide (p.1 ≠ k) = true := by simp [e]
     have b : decide (q.1 ≠ k) = true := by simp [e']
     rw [if_pos a, if_pos b]; exact .cons ⟨h1, h2⟩ ih
theorem KV.keys {kvs : List (κ × V)} {vs : List (κ × Value)} (r : KV kvs vs) : kvs.map (·.1) = vs.map (·.1) := by
 unfold KV at r
 induction r with
 | nil => rfl
 | cons h t ih => rw [List.map_cons, List.map_cons, ih, h.1]
theorem KV.length {kvs : List (κ × V)} {vs : List (κ × Value)} (r : KV kvs vs) : kvs.length = vs.length := Paired.length r
end
theorem kV_is {P : Program} {w : World} {k : Key} {u : Value} (r : RelV (kV k) u) : (mixKind P w).is k u = true := by
 cases k with
 | inl i => obtain ⟨t, e⟩ := (show ∃ t, u = Value.int i t from r); subst e; exact mixKind_int P w i t
 | inr x => obtain ⟨t, e⟩ := (show ∃ t, u = Value.str x t from r); subst e; exact mixKind_str P w x t
theorem items_are {P : Program} {w : World} : ∀ {ks : List Key} {us : List Value}, Vals (ks.map kV) us → ItemsAre (mixKind P w) ks us
 | [], _, r => by rw [List.map_nil] at r; cases r; exact .nil
 | k :: ks, _, r => by
   rw [List.map_cons] at r
   cases r with
   | cons h t => exact .cons (kV_is h) (items_are t)
abbrev KT (H : Hp) : List (List Key × V) → List (List Key × Addr × Value) → Prop := Paired fun p q => p.1 = q.1 ∧ H q.2.1 = some (.tup (p.1.map kV)) ∧ RelV p.2 q.2.2
theorem KT.val {H : Hp} {kvs : List (List Key × V)} {xs : List (List Key × Addr × Value)} (r : KT H kvs xs) (k : List Key) : RelO (valV kvs k) ((atKey xs k).map (·.2)) := by
 induction r with
 | nil => exact True.intro
 | @cons p q ps qs h t ih =>
   obtain ⟨h1, _, h2⟩ := h
   by_cases e : p.1 = k
   · have e' : q.1 = k := h1.symm.trans e
     have b : atKey (q :: qs) k = some q.2 := by simp [atKey, List.find?_cons, e']
     rw [valV_pos e, b]; exact h2
   · have e' : ¬ q.1 = k := fun z => e (h1.trans z)
     have b : atKey (q :: qs) k = atKey qs k := by simp [atKey, List.find?_cons, e']
     rw [valV_neg e, b]; exact ih
theorem KT.repl {H : Hp} {kvs : List (List Key × V)} {xs : List (List Key × Addr × Value)} (r : KT H kvs xs) (k : List Key) {y : V} {u : Value} (ry : RelV y u) :
   KT H (kvs.map fun kv => if kv.1 = k then (kv.1, y) else kv) (xs.map (putAt k u)) := by
 induction r with
 | nil => exact .nil
 | @cons p q ps qs h t ih =>
   rw [List.map_cons, List.map_cons]
   refine .cons ?_ ih
   obtain ⟨h1, h2, h3⟩ := h
   unfold putAt
   by_cases e : p.1 = k
   · rw [if_pos e, if_pos (h1.symm.trans e)]; exact ⟨h1, h2, ry⟩
   · rw [if_neg e, if_neg (fun z => e (h1.trans z))]; exact ⟨h1, h2, h3⟩
theorem KT.put {H : Hp} {kvs : List (List Key × V)} {xs : List (List Key × Addr × Value)} (r : KT H kvs xs) (k : List Key) {b : Addr} {y : V} {u : Value} (hb : H b = some (.tup (k.map kV))) (ry : RelV y u) :
   KT H (putK kvs k y) (storedH xs k b u) := by
 have e : (kvs.any fun kv => decide (kv.1 = k)) = (atKey xs k).isSome := by
   rw [valV_any, (r.val k).isSome_eq, Option.isSome_map]
 unfold putK storedH
 rw [e]
 by_cases q : (atKey xs k).isSome = true
 · rw [if_pos q, if_pos q]; exact r.repl k ry
 · rw [if_neg q, if_neg q]; exact Paired.snoc r ⟨rfl, hb, ry⟩
theorem KT.keeps {H H' : Hp} {kvs : List (List Key × V)} {xs : List (List Key × Addr × Value)} (r : KT H kvs xs) (ht : ∀ b ys, H b = some (.tup ys) → H' b = some (.tup ys)) : KT H' kvs xs :=
 Paired.mapP r fun _ _ z => ⟨z.1, ht _ _ z.2.1, z.2.2⟩
section
variable {P : Program} {w : World} {H : Hp} {h : Heap} {a : Addr}
theorem rd_of {u : HO} (ok : HOk P w H h) (e : Rd H a u) : ObjOk P w H h a u := e.ok ok
theorem dk_rd {kvs : List (Key × V)} (ok : HOk P w H h) (e : Rd H a (.dK kvs)) : kvs.length ≤ sizeLine ∧ (a == sysModules) = false ∧ ∃ vs, KV kvs vs ∧ h.DictOf (mixKind P w) a vs :=
 show ObjOk P w H h a (.dK kvs) from rd_of ok e
theorem dk_of {kvs : List (Key × V)} (ok : HOk P w H h) (e : H a = some (.dK kvs)) : kvs.length ≤ sizeLine ∧ (a == sysModules) = false ∧ ∃ vs, KV kvs vs ∧ h.DictOf (mixKind P w) a vs := dk_rd ok (.inl e)
theorem key_of {ks : List Key} (ok : HOk P w H h) (e : H a = some (.tup (ks.map kV))) : (tupleKind (mixKind P w)).is h ks a := by
 obtain ⟨_, its, r, o, h1, h2, n, h3⟩ := (show ObjOk P w H h a (.tup (ks.map kV)) from ok a _ e)
 exact ⟨o, its.toArray, n, h1, h2, h3, by simpa using items_are r⟩
theorem dt_rd {kvs : List (List Key × V)} (ok : HOk P w H h) (e : Rd H a (.dT kvs)) : kvs.length ≤ sizeLine ∧ (a == sysModules) = false ∧
   ∃ xs, KT H kvs xs ∧ h.DictOfH (tupleKind (mixKind P w)) a xs := by
 obtain ⟨z, y, xs, r, o, es, ep, h1, h2, h3, h4, h5⟩ := (show ObjOk P w H h a (.dT kvs) from rd_of ok e)
 refine ⟨z, y, xs, r, o, es, ep, h1, h2, h3, h4, fun x hx => ?_, h5⟩
 have all : ∀ {l : List (List Key × V)} {m : List (List Key × Addr × Value)}, KT H l m → ∀ x ∈ m, (tupleKind (mixKind P w)).is h x.1 x.2.1 := by
   intro l m q
   induction q with
   | nil => intro x hx; exact nomatch hx
   | @cons p q ps qs hq t ih =>
     intro x hx
     rcases List.mem_cons.mp hx with e | hx
     · subst e
       exact key_of ok (by rw [← hq.1]; exact hq.2.1)
     · exact ih x hx
 exact all r x hx
theorem dt_of {kvs : List (List Key × V)} (ok : HOk P w H h) (e : H a = some (.dT kvs)) : kvs.length ≤ sizeLine ∧ (a == sysModules) = false ∧
   ∃ xs, KT H kvs xs ∧ h.DictOfH (tupleKind (mixKind P w)) a xs := dt_rd ok (.inl e)
end
def DGet (H : Hp) (a : Addr) (y : V) (r : Option V) : Prop :=
 (∃ kvs k, Rd H a (.dK kvs) ∧ y = kV k ∧ r = valV kvs k) ∨ ∃ kvs k b, Rd H a (.dT kvs) ∧ y = .ref b ∧ H b = some (.tup (k.map kV)) ∧ r = valV kvs k
def DPut (H : Hp) (a : Addr) (y v : V) (H' : Hp) : Prop :=
 (∃ kvs k, H a = some (.dK kvs) ∧ y = kV k ∧ kvs.length < sizeLine ∧ H' = upd H a (.dK (putK kvs k v))) ∨
 ∃ kvs k b, H a = some (.dT kvs) ∧ y = .ref b ∧ H b = some (.tup (k.map kV)) ∧ kvs.length < sizeLine ∧ H' = upd H a (.dT (putK kvs k v))
theorem DGet.k {H : Hp} {a : Addr} {kvs : List (Key × V)} {k : Key} (e : H a = some (.dK kvs)) : DGet H a (kV k) (valV kvs k) := .inl ⟨kvs, k, .inl e, rfl, rfl⟩
theorem DGet.t {H : Hp} {a b : Addr} {kvs : List (List Key × V)} {k : List Key} (e : H a = some (.dT kvs)) (eb : H b = some (.tup (k.map kV))) : DGet H a (.ref b) (valV kvs k) := .inr ⟨kvs, k, b, .inl e, rfl, eb, rfl⟩
theorem DPut.k {H : Hp} {a : Addr} {kvs : List (Key × V)} {k : Key} {v : V} (e : H a = some (.dK kvs)) (hl : kvs.length < sizeLine) : DPut H a (kV k) v (upd H a (.dK (putK kvs k v))) := .inl ⟨kvs, k, e, rfl, hl, rfl⟩
theorem DPut.t {H : Hp} {a b : Addr} {kvs : List (List Key × V)} {k : List Key} {v : V} (e : H a = some (.dT kvs)) (eb : H b = some (.tup (k.map kV))) (hl : kvs.length < sizeLine) :
   DPut H a (.ref b) v (upd H a (.dT (putK kvs k v))) := .inr ⟨kvs, k, b, e, rfl, eb, hl, rfl⟩
section
variable {X : Cx} {pins : List (Addr × Obj)} {σ : St} {H : Hp} {s : Shared} {a : Addr} {y v : V} {u r : Value} {o : Option V} {A : Around} {E : Value → Shared → Prop}
theorem Inv.big (I : Inv X pins σ H s) : sysModules < s.heap.objs.size := by
 have h : mainGlobals < s.heap.objs.size := (I.mod.glob.keeps I.bk).lt
 exact Nat.lt_trans (by decide) h
theorem d_getItem {Q : Value → Shared → Prop} (hu : A.units + 1 < cLine) (I : Inv X pins σ H s) (g : DGet H a y (some v)) (ry : RelV y u) (h : ∀ w' s', Inv X pins σ H s' → RelV v w' → Q w' s') :
   wpAny (model X.prog X.w) A (getItem (.ref a) u) Q E s := by
 rcases g with ⟨kvs, k, e, ey, l⟩ | ⟨kvs, k, b, e, ey, eb, l⟩
 · subst ey
   obtain ⟨z, hd, vs, rel, dd⟩ := dk_rd I.hok e
   obtain ⟨w', hw, rw'⟩ := RelO.some_of (v := v) (o := valueAt vs k) (by rw [l]; exact rel.val k)
   exact wpAny_getItem_of (kV_is ry) dd.mapOf hw (h w' _ (I.tok _) rw')
 · subst ey
   cases (show u = Value.ref b from ry)
   obtain ⟨z, hd, xs, rel, dd⟩ := dt_rd I.hok e
   obtain ⟨w', hw, rw'⟩ := RelO.some_of (v := v) (o := (atKey xs k).map (·.2)) (by rw [l]; exact rel.val k)
   obtain ⟨p, hp, hp2⟩ := Option.map_eq_some_iff.mp hw
   refine wpAny_getItem_heap (tupleKind_room_in1 hu) (key_of I.hok eb) dd hp ?_
   rw [hp2]
   exact h w' _ (I.tok _) rw'
theorem d_write {h' : Heap} {t' : Nat} {ob : HO} (I : Inv X pins σ H s) (mu : Mut (H a)) (hs : Heap.SameBut a s.heap h') (he : ∃ q, h'.get? a = some q) (new : ObjOk X.prog X.w (upd H a ob) h' a ob) :
   Inv X pins σ (upd H a ob) { s with heap := h', toks := t' } :=
 I.write (x := a) (e := a) mu (.inl rfl) (fun b q hb z => (hs.2 b hb).trans z) he new
theorem dk_new {P : Program} {w : World} {H' : Hp} {h' : Heap} {kvs : List (Key × V)} {vs : List (Key × Value)} (z : kvs.length ≤ sizeLine) (hd : (a == sysModules) = false) (rel : KV kvs vs) (dd : h'.DictOf (mixKind P w) a vs) :
   ObjOk P w H' h' a (.dK kvs) := ⟨z, hd, vs, rel, dd⟩
theorem d_setItem {H' : Hp} {Q : Unit → Shared → Prop} (hu : A.units + 1 < cLine) (I : Inv X pins σ H s) (g : DPut H a y v H') (ry : RelV y u) (rv : RelV v r) (h : ∀ s', Inv X pins σ H' s' → Q () s') :
   wpAny (model X.prog X.w) A (setItem (.ref a) u r) Q E s := by
 rcases g with ⟨kvs, k, e, ey, l, eH⟩ | ⟨kvs, k, b, e, ey, eb, l, eH⟩
 · subst ey eH
   obtain ⟨z, hd, vs, rel, dd⟩ := dk_of I.hok e
   have hz : vs.length ≤ sizeLine := by rw [← rel.length]; exact z
   have hl : (putK kvs k v).length ≤ sizeLine := by have := length_putK kvs k v; omega
   refine wpAny_setItem_pairs (hsz := hz) (kV_is ry) dd fun h' dd' hs => h _ ?_
   have he : ∃ q, h'.get? a = some q := let ⟨q, _, _, hq, _⟩ := dd'; ⟨q, hq⟩
   exact d_write I (by rw [e]; exact True.intro) hs he (dk_new hl hd (rel.put k rv) dd')
 · subst ey eH
   cases (show u = Value.ref b from ry)
   obtain ⟨z, hd, xs, rel, dd⟩ := dt_of I.hok e
   have hz : xs.length ≤ sizeLine := by rw [← Paired.length rel]; exact z
   have hl : (putK kvs k v).length ≤ sizeLine := by have := length_putK kvs k v; omega
   refine wpAny_setItem_heap (hsz := hz) (tupleKind_room_in1 hu) (key_of I.hok eb) dd fun h' dd' hs => h _ ?_
   obtain ⟨q, es, ep, hq, h2, h3, h4, _, h5⟩ := dd'
   refine d_write I (by rw [e]; exact True.intro) hs ⟨q, hq⟩ ⟨hl, hd, _, (rel.put k eb rv).keeps fun c ys ec => ?_, q, es, ep, hq, h2, h3, h4, h5⟩
   rw [upd_ne (ne_of ec e (fun z => nomatch z))]
   exact ec
end
section
variable {X : Cx} {pins : List (Addr × Obj)} {σ : St} {H : Hp} {s : Shared} {a : Addr} {kvs : List (Key × V)} {k : Key} {u : Value} {A : Around} {E : Value → Shared → Prop}
end
def NoSl (i : Expr) : Prop := ∀ ov iv, subscripted i false ov iv = operate [ov, iv] (getItem ov iv)
theorem subD_of {prog : Program} {w : World} {A : Around} {E : Value → Shared → Prop} {s : Shared} {env : Env} {value slice : Expr} {pos : Pos} {T id : String} {Q : Value → Shared → Prop}
   (hl : typeLookup (.type T) "__getitem__" = pure (some (.builtin id))) (hs : NoSl slice)
   (h : wpAny (model prog w) A (eval value env) (fun o s₁ => wpAny (model prog w) A (eval slice env) (fun i s₂ => s₂.TypeIs o T ∧ wpAny (model prog w) A (getItem o i) Q E s₂) E s₁) E s) :
   wpAny (model prog w) A (eval (.Subscript value slice pos) env) Q E s := by
 refine Subscript_ (wpAny_mono h (fun o s₁ h₁ => wpAny_mono h₁ (fun i s₂ h₂ => ?_) fun _ _ x => x) fun _ _ x => x)
 obtain ⟨hT, h₂⟩ := h₂
 unfold subscriptTail
 refine wpAny_bind ?_
 rw [getitemInPython_of_ne hT.not_modules]
 refine wpAny_bind (wpAny_specialOf hT hl ?_)
 have fin : wpAny (model prog w) A (subscripted slice false o i) (fun r s₃ => wpAny (model prog w) A (letTemporaryGo value o r >>= fun _ => pure r) Q E s₃) E s₂ := by
   rw [hs o i]
   exact wpAny_operating (wpAny_mono h₂ (fun r s₃ h₃ => wpAny_bind (wpAny_letTemporaryGo (wpAny_pure h₃))) fun _ _ x => x)
 first
   | exact wpAny_pure (wpAny_bind fin)
   | exact wpAny_bind (wpAny_pure (wpAny_bind fin))
   | exact wpAny_bind fin
theorem dict_typeIs {X : Cx} {pins : List (Addr × Obj)} {σ : St} {H : Hp} {s : Shared} {a : Addr} {y : V} {o : Option V} (I : Inv X pins σ H s) (g : DGet H a y o) : s.TypeIs (.ref a) "dict" := by
 rcases g with ⟨kvs, k, e, _, _⟩ | ⟨kvs, k, b, e, _, _, _⟩
 · obtain ⟨_, _, vs, _, dd⟩ := dk_rd I.hok e
   exact dd.typeIs
 · obtain ⟨_, _, xs, _, dd⟩ := dt_rd I.hok e
   exact dd.typeIs
def tDGet (td ty : TE) : TE := fun σ H Q => td σ H fun x H1 => ty σ H1 fun y H2 => ∃ a v, x = .ref a ∧ DGet H2 a y (some v) ∧ Q v H2
def sDPut (td ty tv : TE) : TS := fun D σ H => tv σ H fun v H1 => td σ H1 fun x H2 => ty σ H2 fun y H3 => ∃ a H4, x = .ref a ∧ DPut H3 a y v H4 ∧ D.nx σ H4
section
variable {X : Cx} {o i e value : Expr} {pos pos' tpos : Pos} {td ty tv : TE}
theorem pe_dget (hu : X.A.units + 1 < cLine) (ho : PE X o td) (hi : PE X i ty) (hs : NoSl i) : PE X (.Subscript o i pos) (tDGet td ty) := by
 intro pins s σ H Q I h
 refine subD_of PySem.F.slot_dict_getitem.lookup hs (thn (ho pins s σ H _ I h) fun u s1 ⟨x, H1, I1, rx, q1⟩ => thn (hi pins s1 σ H1 _ I1 q1) fun iv s2 ⟨y, H2, I2, ry, a, v, ex, g, q2⟩ => ?_)
 subst ex
 obtain rfl : u = Value.ref a := rx
 exact ⟨dict_typeIs I2 g, d_getItem hu I2 g ry fun w' s3 I3 rw' => ⟨v, H2, I3, rw', q2⟩⟩
theorem ps_dput (hu : X.A.units + 1 < cLine) (ho : PE X o td) (hi : PE X i ty) (hv : PE X value tv) (hs : swapsWith value (some (.Subscript o i pos')) pos.line X.env = pure false) :
   PS X (.Assign [.Subscript o i pos'] value pos) (sDPut td ty tv) := by
 intro pins s σ H D I h
 refine wpAny_Assign_Subscript (thn (hv pins s σ H _ I h) fun r s1 ⟨v, H1, I1, rv, q1⟩ => thn (ho pins s1 σ H1 _ I1 q1) fun u s2 ⟨x, H2, I2, rx, q2⟩ => thn (hi pins s2 σ H2 _ I2 q2) fun iv s3 ⟨y, H3, I3, ry, a, H4, ex, g, q3⟩ => ?_) hs
 subst ex
 obtain rfl : u = Value.ref a := rx
 exact d_setItem hu I3 g ry rv fun s4 I4 => ⟨σ, H4, I4, q3⟩
end
theorem dk_empty {P : Program} {w : World} {H : Hp} (h : Heap) (hb : sysModules < h.objs.size) : ObjOk P w H (h.push { cls := .type "dict", data := .dict #[] }) h.objs.size (.dK []) :=
 ⟨Nat.zero_le _, beq_eq_false_iff_ne.mpr (Ne.symm (Nat.ne_of_lt hb)), [], .nil, Heap.DictOf.new h⟩
theorem dt_empty {P : Program} {w : World} {H : Hp} (h : Heap) (hb : sysModules < h.objs.size) : ObjOk P w H (h.push { cls := .type "dict", data := .dict #[] }) h.objs.size (.dT []) :=
 ⟨Nat.zero_le _, beq_eq_false_iff_ne.mpr (Ne.symm (Nat.ne_of_lt hb)), [], .nil, _, #[], 0, Heap.get?_push_size _ rfl, ⟨rfl, rfl, rfl⟩, rfl, rfl, List.nodup_nil⟩
def tDNewK : TE := fun _ H Q => ∀ p, H p = none → Q (.ref p) (upd H p (.dK []))
def tDNewT : TE := fun _ H Q => ∀ p, H p = none → Q (.ref p) (upd H p (.dT []))
section
variable {X : Cx} {pos : Pos}
theorem pe_dnewK : PE X (.Dict [] [] pos) tDNewK := fun pins s σ H Q I h =>
 wpAny_Dict_empty ⟨.ref s.heap.objs.size, _, I.laid (a := s.heap.objs.size) (o := .dK []) (t' := s.toks) (fun _ _ q => Heap.get?_push_of_some _ q) (Nat.le_refl _) (dk_empty s.heap I.big), rfl, h _ (I.hok.fresh (Nat.le_refl _))⟩
theorem pe_dnewT : PE X (.Dict [] [] pos) tDNewT := fun pins s σ H Q I h =>
 wpAny_Dict_empty ⟨.ref s.heap.objs.size, _, I.laid (a := s.heap.objs.size) (o := .dT []) (t' := s.toks) (fun _ _ q => Heap.get?_push_of_some _ q) (Nat.le_refl _) (dt_empty s.heap I.big), rfl, h _ (I.hok.fresh (Nat.le_refl _))⟩
end
structure M2 (X : Cx) (o : Expr) (m : Str) (apos : Pos) (e f : Expr) (cpos : Pos) : Prop where
 base : attributeBase o m X.env (eval o X.env) = eval o X.env
 few : ((backTo cpos (starEach [e, f] X.env)).all (fun x => !x.1) && (backToKw cpos (keywordEach [] X.env)).all (fun x => x.1.isSome)
   && decide (([e, f] : List Expr).length + ([] : List Keyword).length + (if ([] : List Keyword).isEmpty then 0 else 1) < 30)) = true
 line : (apos.endLine == cpos.line) = true
 trees : backTo cpos (starEach [e, f] X.env) = [(false, eval e X.env), (false, eval f X.env)]
def IsD (H : Hp) (a : Addr) : Prop := (∃ kvs, Rd H a (.dK kvs)) ∨ ∃ kvs, Rd H a (.dT kvs)
theorem isD_at {X : Cx} {pins : List (Addr × Obj)} {σ : St} {H : Hp} {s : Shared} {a : Addr} (I : Inv X pins σ H s) (d : IsD H a) :
   s.TypeIs (.ref a) "dict" ∧ (∀ b, Value.ref a = .ref b → ∃ ob, s.heap.get? b = some ob ∧ ob.dict = none) ∧ (a == sysModules) = false := by
 rcases d with ⟨kvs, e⟩ | ⟨kvs, e⟩
 · obtain ⟨_, hd, vs, _, dd⟩ := dk_rd I.hok e
   refine ⟨dd.typeIs, fun b q => ?_, hd⟩
   cases q
   obtain ⟨ob, _, _, h1, h2, _⟩ := dd
   exact ⟨ob, h1, h2.2.1⟩
 · obtain ⟨_, hd, xs, _, dd⟩ := dt_rd I.hok e
   refine ⟨dd.typeIs, fun b q => ?_, hd⟩
   cases q
   obtain ⟨ob, _, _, h1, h2, _⟩ := dd
   exact ⟨ob, h1, h2.2.1⟩
section
variable {X : Cx} {pins : List (Addr × Obj)} {σ : St} {H : Hp} {s : Shared} {a : Addr} {y d : V} {u r : Value} {o : Option V} {A : Around} {E : Value → Shared → Prop}
theorem d_get2 {Q : Value → Shared → Prop} (hu : A.units + 1 < cLine) (I : Inv X pins σ H s) (g : DGet H a y o) (ry : RelV y u) (rd : RelV d r) (h : ∀ w' s', Inv X pins σ H s' → RelV (o.getD d) w' → Q w' s') :
   wpAny (model X.prog X.w) A (call (.builtin "dict.get") [.ref a, u, r]) Q E s := by
 rcases g with ⟨kvs, k, e, ey, l⟩ | ⟨kvs, k, b, e, ey, eb, l⟩
 · subst ey
   obtain ⟨z, hd, vs, rel, dd⟩ := dk_rd I.hok e
   refine call_meetsIn PySem.F.slot_dict_get dd.typeIs PySem.F.entry_dict_get (PySem.F.args_dict_get_3 _ _ _) (meets_dict_get_default (mixKind X.prog X.w) a (kV_is ry) hd r) ⟨_, dd.mapOf, h _ _ (I.tok _) ?_⟩
   rw [l]
   exact (rel.val k).getD rd
 · subst ey
   cases (show u = Value.ref b from ry)
   obtain ⟨z, hd, xs, rel, dd⟩ := dt_rd I.hok e
   refine call_meetsIn PySem.F.slot_dict_get dd.typeIs PySem.F.entry_dict_get (PySem.F.args_dict_get_3 _ _ _) (meetsH_dict_get_default (tupleKind (mixKind X.prog X.w)) a b hd r) ⟨tupleKind_room_in1 hu, k, xs, key_of I.hok eb, dd, h _ _ (I.tok _) ?_⟩
   rw [l]
   exact (rel.val k).getD rd
end
def tDGet2 (td ty tx : TE) : TE := fun σ H Q => td σ H fun x H1 => ∃ a, x = .ref a ∧ IsD H1 a ∧ ty σ H1 fun y H2 => tx σ H2 fun z H3 => ∃ o, DGet H3 a y o ∧ Q (o.getD z) H3
section
variable {X : Cx} {o e f : Expr} {apos cpos : Pos} {td ty tx : TE}
theorem pe_dget2 (hu : X.A.units + 1 < cLine) (ho : PE X o td) (he : PE X e ty) (hf : PE X f tx) (m : M2 X o "get" apos e f cpos) : PE X (.Call (.Attribute o "get" apos) [e, f] [] cpos) (tDGet2 td ty tx) := by
 intro pins s σ H Q I h
 refine wpAny_Call_method m.base m.few m.line PySem.F.plainAttrs_dict PySem.F.slot_dict_get PySem.F.type_dict_get (thn (ho pins s σ H _ I h) fun u s1 ⟨x, H1, I1, rx, a, ex, d, q1⟩ => ?_)
 subst ex
 obtain rfl : u = Value.ref a := rx
 obtain ⟨t1, t2, _⟩ := isD_at I1 d
 refine ⟨t1, t2, ?_⟩
 rw [m.trees]
 refine Calls.callWith_builtin rfl (Calls.evalArgs_plain (Calls.spliced_cons (thn (he pins s1 σ H1 _ I1 q1) fun iv s2 ⟨y, H2, I2, ry, q2⟩ =>
   Calls.spliced_cons (thn (hf pins s2 σ H2 _ I2 q2) fun fv s3 ⟨z, H3, I3, rz, ov, g, q3⟩ => Calls.spliced_nil ?_))))
 exact d_get2 hu I3 g ry rz fun w' s4 I4 rw' => ⟨_, H3, I4, rw', q3⟩
end
section
variable {X : Cx} {pins : List (Addr × Obj)} {σ : St} {H : Hp} {s : Shared} {a : Addr} {kvs : List (Key × V)} {A : Around} {E : Value → Shared → Prop}
end
section
variable {X : Cx} {pins : List (Addr × Obj)} {σ : St} {H : Hp} {s : Shared} {a : Addr} {y : V} {u : Value} {A : Around} {E : Value → Shared → Prop}
end
end L2
namespace Att
open PySem PySem.W PySem.Calls PyProof.Rows
theorem ints_of_wellAll {P : Params} {h : Heap} : ∀ (ns : List Int) (vs : List Value), WellAll P h vs (ns.map WData.int) → IntsAre vs ns := by
 intro ns
 induction ns with
 | nil =>
   intro vs w
   rw [List.map_nil] at w
   cases w
   exact .nil
 | cons n ns ih =>
   intro vs w
   rw [List.map_cons] at w
   cases w with
   | cons a b =>
     cases a
     exact .cons _ _ (ih _ b)
theorem script_of {l : OpenLaw} {n : Nat} (hn : l.most = some n) {P : Params} {h : Heap} {args : List WData} {vals : List Value}
   (hpre : l.row.toRowW.claim.pre args = true) (hwl : WellAll P h vals args) :
   ∃ a vs ns, vals = [Value.ref a] ∧ args = [WData.list (ns.map WData.int)] ∧ h.get? a = some { cls := .type "list", data := .seq vs.toArray } ∧ IntsAre vs ns ∧ ns.length ≤ n := by
 have hsh : WShape.hasAll [] args [.list .int] = true := (pre_splitW hpre).1
 have hc : l.pre.holds [] { args := args } = true := (pre_splitW hpre).2
 obtain ⟨d, r, rfl, h1, h2⟩ := hasAllW_cons hsh
 obtain rfl := hasAllW_nil h2
 obtain ⟨xs, rfl, h3⟩ := hasW_list h1
 obtain ⟨ns, rfl⟩ := items_int h3
 have hlen : ns.length ≤ n := by
   unfold OpenLaw.pre at hc
   have h4 : (WTm.not (.lt (.lit (.int (n : Int))) (.len (.arg 0)))).holds [] { args := [.list (ns.map .int)] } = true := by
     have h4 := (holds_andW hc).1
     rw [hn] at h4
     exact h4
   have h5 := condW_of h4 (w_not (w_lt w_lit (w_len_list (w_arg rfl))))
   rw [List.length_map] at h5
   refine Nat.le_of_not_lt fun q => ?_
   have q' : (n : Int) < ((ns.length : Nat) : Int) := by omega
   first
     | (rw [decide_eq_true q'] at h5; exact absurd h5 (by decide))
     | (simp at h5; omega)
 cases hwl with
 | cons w1 w2 =>
   cases w2
   cases w1 with
   | list ho hall => exact ⟨_, _, ns, rfl, rfl, ho, ints_of_wellAll ns _ hall, hlen⟩
theorem post_true (l : OpenLaw) (args : List WData) : l.row.toRowW.claim.post args (.bool true) args = true :=
 postW_of (r := l.row.toRowW) (X := (true == true))
   (show WShape.has [] (.bool true) .bool = true by first | rfl | decide | simp [WShape.has, WShape.arms, WShape.armsAll])
   (show (WTm.eq .res (.lit (.bool true))).value [] { args := args, res := some (.bool true), after := args } = some (.bool (true == true)) from w_eq_bool (w_res rfl) w_lit) rfl
theorem attach_call {l : OpenLaw} {n : Nat} {q : Program} {loose : List Str} {XP : (Str → Option Value) → Heap → Prop} {YP : World → Heap → Prop} {d : DefRec}
   (hn : l.most = some n) (hdf : d.params.defaults = [])
   (call : ∀ (w : World) (s₀ s₁ : Shared) (mg mb : Str → Option Value) (fa : Addr) (o : Obj) (pm cd doc : Value) (a : Addr) (vs : List Value) (ns : List Int),
     Ground q loose [] XP w s₀ mg mb s₁.heap → YP w s₁.heap →
     s₁.heap.get? fa = some o → o.data = .func (docDef d.name d.params d.body d.scope pm cd doc) → s₁.heap.CodeRec cd d.name → mg d.name = some (.ref fa) →
     s₁.heap.get? a = some { cls := .type "list", data := .seq vs.toArray } → IntsAre vs ns → ns.length ≤ n → s₁.gens = #[] →
     codeAny (model l.prog w) callerA (.call (.ref fa) ⟨[.ref a], []⟩) (fun r s' => r = .ok (.ret (.bool true)) ∧ OldK s₁.heap s'.heap ∧ s'.os = s₁.os ∧ AllBare s'.gens) s₁) :
   WalkO q loose XP YP l.row.toRowW d [] (fun f vs => PySem.call f vs) := by
 intro w s₀ s₁ mg mb G Y fa o pm cd doc dV kV ho hd hcd hD hmg hg args vals as hpre hlay hrd hwl hlo
 obtain rfl : dV = .none := Dflts.none hD hdf
 obtain rfl : kV = .none := Dflts.noKw hD
 obtain ⟨a, vs, ns, rfl, rfl, hobj, hints, hlen⟩ := script_of hn hpre hwl
 refine enter_call (codeAny_mono (call w s₀ s₁ mg mb fa o pm cd doc a vs ns G Y ho (fd_plain hd) hcd hmg hobj hints hlen hg) fun r s' hq => ?_)
 obtain ⟨rfl, h2, h3, h4⟩ := hq
 exact ⟨.inl ⟨.bool true, .bool true, [], rfl, fun _ => rfl, .bool true, post_true l _, fun _ => ⟨List.Pairwise.nil, fun _ hm => (nomatch hm)⟩⟩, h2, h3, h4⟩
section
variable {prog : Program} {w : World} {A : Around} {E : Value → Shared → Prop} {s : Shared} {K : Frag}
end
end Att
namespace L2
open PySem PySem.Spec PyProof.Rows
theorem vals_ints : ∀ {vs : List Value} {ns : List Int}, IntsAre vs ns → Vals (ns.map V.int) vs
 | _, _, .nil => .nil
 | _, _, .cons n t h => .cons ⟨t, rfl⟩ (vals_ints h)
def Only (H : Hp) : Prop := ∀ b, H b = none ∨ ∃ o xs, H b = some (.frz o (.lst xs))
theorem law_call {P : Program} {w : World} {K : PySem.W.Frag} {mg mb : Str → Option Value} {CX : CXT} {k : Nat} {fa a : Addr} {fd : FuncData} {x : Str} {sp : Sp} {s₁ : Shared} {vs : List Value} {ns : List Int}
   (KX : K.In s₁.heap) (hns : s₁.heap.Ns mainGlobals mg) (hb : s₁.heap.Ns builtinsNs mb) (hbb : ∀ x : Str, x ≠ "__name__" → mb x = bootBuiltins x) (hlim : s₁.heap.NoLimit) (hg : s₁.gens = #[])
   (ha : s₁.heap.get? a = some { cls := .type "list", data := .seq vs.toArray }) (hi : IntsAre vs ns) (hl : ns.length ≤ sizeLine) (hr : Room true k callerA)
   (F : ∀ base : Heap, K.In base → base.Ns mainGlobals mg → FnOk P w K mg base CX true k fa fd [x] sp) (hbind : ∀ (s : Shared) (u : Value), BindsTo s fd ⟨[u], []⟩ [(x, u)])
   (hsp : ∀ H : Hp, Only H → SqL K H a (ns.map V.int) → sp [.ref a] H (fun v _ => v = .bl true) fun _ _ _ => False)
   (hCX : ∀ H e s', CX [] H s₁ (fun _ _ _ => False) e s' → False) :
   codeAny (model P w) callerA (.call (.ref fa) ⟨[.ref a], []⟩) (fun r s' => r = .ok (.ret (.bool true)) ∧ OldK s₁.heap s'.heap ∧ s'.os = s₁.os ∧ AllBare s'.gens) s₁ := by
 have rv := vals_ints hi
 have lenV := hi.length
 -- from an abstract heap in which nothing but the script may be tracked
 have core : ∀ H : Hp, Only H → SqL K H a (ns.map V.int) → HOk P w H s₁.heap → (∀ b, H b ≠ none → b = a) → (H a ≠ none → K.lookup a = none) →
     codeAny (model P w) callerA (.call (.ref fa) ⟨[.ref a], []⟩) (fun r s' => r = .ok (.ret (.bool true)) ∧ OldK s₁.heap s'.heap ∧ s'.os = s₁.os ∧ AllBare s'.gens) s₁ := by
   intro H hO hS hok hA hK
   have base_of : ∀ {b : Addr} {o : Obj}, s₁.heap.get? b = some o → H b = none → (hidT s₁.heap H).get? b = some o := fun e n => hidT_get e n
   have noA : ∀ {b : Addr} {o : Obj} {es : Array DictEntry} {ep : Nat}, s₁.heap.get? b = some o → o.data = .dict es ep → H b = none := fun {b o es ep} e d => by
     cases q : H b with
     | none => rfl
     | some u =>
       have e' : b = a := hA b (by rw [q]; simp)
       subst e'
       rw [ha] at e; cases e
       have d' : Data.seq vs.toArray _ = Data.dict es ep := d
       cases d'
   have nsK : ∀ {b : Addr} {m : Str → Option Value}, s₁.heap.Ns b m → (hidT s₁.heap H).Ns b m := fun {b m} ⟨o, es, ep, e, d, r⟩ => ⟨o, es, ep, base_of e (noA e d), d, r⟩
   have hKb : K.In (hidT s₁.heap H) := fun b o e => base_of (KX b o e) (by
     cases q : H b with
     | none => rfl
     | some u =>
       have e' : b = a := hA b (by rw [q]; simp)
       subst e'
       rw [hK (by rw [q]; simp)] at e; cases e)
   have hM : Mod K mg (hidT s₁.heap H) := ⟨hKb, nsK hns, ⟨mb, nsK hb, hbb⟩, let ⟨mc, h1, h2⟩ := hlim; ⟨mc, nsK h1, h2⟩⟩
   have e0 : Env0 P w K mg (hidT s₁.heap H) callerA [] s₁ H := ⟨rfl, hM, fun b o e => of_hidT e, Nat.le_of_eq (hidT_size _ _), trivial, fun b hb => absurd (show b ∈ ([] : List Addr) from hb) (by simp), hok, .of_eq hg⟩
   refine codeAny_mono ((F _ hKb (nsK hns)).run callerA [] s₁ H ⟨[.ref a], []⟩ [.ref a] [.ref a] _ _ hr e0 (hbind s₁ (.ref a)) (.cons rfl .nil) (hsp H hO hS)) fun r s' h => ?_
   cases r with
   | error e => exact (hCX H e s' h).elim
   | ok fl =>
     cases fl with
     | next => exact False.elim h
     | brk => exact False.elim h
     | cont => exact False.elim h
     | ret u =>
       obtain ⟨v, H', os, bare, un, hok', r', q⟩ := h
       have q' : v = .bl true := q
       subst q'
       obtain rfl : u = Value.bool true := r'
       refine ⟨rfl, OldK.of_keep fun b o e => ?_, os, bare⟩
       cases q : H b with
       | none => exact un.keep b o e q (by intro z; exact absurd (show b ∈ ([] : List Addr) from z) (by simp)) (by simp)
       | some u =>
         rcases hO b with z | ⟨ob, xs, z⟩
         · rw [q] at z; cases z
         · have z2 := un.frzs b ob _ z
           obtain ⟨e1, _⟩ := hok b _ z
           obtain ⟨e2, _⟩ := hok' b _ z2
           rw [e] at e1; cases e1
           exact e2
 cases hk : K.lookup a with
 | some o =>
   -- the script is one of the module's own objects
   have e := KX a o hk
   rw [ha] at e
   cases e
   refine core (fun _ => none) (fun _ => .inl rfl) (.inr ⟨_, vs.toArray, _, hk, rfl, rfl, rfl, by rw [List.size_toArray, lenV]; exact hl, by simpa using rv⟩) (fun b u z => by have z' : (none : Option HO) = some u := z; cases z') (fun b z => absurd rfl z) fun z => absurd rfl z
 | none =>
   refine core (fun b => if b = a then some (.frz { cls := .type "list", data := .seq vs.toArray } (.lst (ns.map V.int))) else none) (fun b => ?_) (.inl (.inr ⟨{ cls := .type "list", data := .seq vs.toArray }, if_pos rfl⟩)) (fun b u z => ?_) (fun b z => ?_) fun _ => hk
   · by_cases hb : b = a
     · exact .inr ⟨_, _, if_pos hb⟩
     · exact .inl (if_neg hb)
   · by_cases hb : b = a
     · have z' := (if_pos hb).symm.trans z
       cases z'
       subst hb
       exact ⟨ha, by rw [List.length_map]; exact hl, vs, _, rv, ha⟩
     · have z' := (if_neg hb).symm.trans z
       cases z'
   · by_cases hb : b = a
     · exact hb
     · exact absurd (if_neg hb) z
end L2
namespace L2
open PySem PySem.Spec PyProof.Rows
abbrev KOf {K : PySem.W.Frag} {h : Heap} (_ : K.In h) : PySem.W.Frag := K
theorem walk_of {l : PySem.W.OpenLaw} {n k : Nat} {q : Program} {loose : List Str} {XP : (Str → Option Value) → Heap → Prop} {YP : World → Heap → Prop} {d : DefRec} {K : Params → PySem.W.Frag} {CX : World → CXT} {sp : World → Sp} {x : Str}
   (hn : l.most = some n) (hn2 : n ≤ sizeLine) (hdf : d.params.defaults = []) (hr : Room true k callerA)
   (hY : ∀ (w : World) (h : Heap), YP w h → (K w.params).In h)
   (F : ∀ (w : World) (mg : Str → Option Value) (fa : Addr) (h : Heap), (K w.params).In h → h.Ns mainGlobals mg → mg d.name = some (.ref fa) →
     ∃ fd : FuncData, (∀ (s : Shared) (u : Value), BindsTo s fd ⟨[u], []⟩ [(x, u)]) ∧
       ∀ base : Heap, (K w.params).In base → base.Ns mainGlobals mg → FnOk l.prog w (K w.params) mg base (CX w) true k fa fd [x] (sp w))
   (hsp : ∀ (w : World) (H : Hp) (a : Addr) (ns : List Int), ns.length ≤ n → Only H → SqL (K w.params) H a (ns.map V.int) → sp w [.ref a] H (fun v _ => v = .bl true) fun _ _ _ => False)
   (hCX : ∀ (w : World) (H : Hp) (s : Shared) (e : Value) (s' : Shared), CX w [] H s (fun _ _ _ => False) e s' → False) :
   PySem.W.WalkO q loose XP YP l.row.toRowW d [] (fun f vs => PySem.call f vs) := by
 refine Att.attach_call hn hdf fun w s₀ s₁ mg mb fa o pm cd doc a vs ns G Y ho hd hcd hmg hobj hints hlen hg => ?_
 have KX := hY w _ Y
 obtain ⟨fd, hb, hF⟩ := F w mg fa _ KX G.T.g hmg
 exact law_call KX G.T.g G.T.b G.T.builtins G.T.nolimit hg hobj hints (Nat.le_trans hlen hn2) hr hF hb (fun H hO hS => hsp w H a ns hlen hO hS) fun H e s' => hCX w H s₁ e s'
end L2
/- THE LAST THEOREM (shape; LID, My.* are yours):
  My.Adr: a structure of the addresses that your layer names (classes, functions); My.Txt K t: a structure (Prop) of the equations over K;
  My.txt_mk : {K} {implicit addresses ..} (e1 : nsIn K mainGlobals "law" = some (some (.ref f))) (e2 : K.lookup f = some ⟨oc, od, .func (fnOf "law" "law" params body scope dV kV doc pm an cdv ct), sl⟩) (e3 : codeIn K cdv "law" = true) .. : ∃ t, My.Txt K t
set_option maxRecDepth 100000 in
set_option maxHeartbeats 0 in
theorem PySem.Challenge.cw_LID_holds : PySem.Challenge.rw_LID.Holds := by
 w_on; o_law; k_head; (case hw => w_witness2)
 k_fill
 refine L2.walk_of (l := PySem.Challenge.rw_LID) (n := 63) (k := 40) (x := "script") (CX := fun w => ..) (sp := fun _ => My.sp_law) rfl (by decide) rfl ⟨rfl, by decide, by decide⟩ (fun w h Y => PySem.W.kIn_of Y) ?F ?S ?C
 case F =>
   intro w mg fa h KX G hmg
   have T : ∃ t, My.Txt (L2.KOf KX) t := by
     dsimp only [L2.KOf]                          -- K must stand as «<heap const> w.params» for k_is
     refine' My.txt_mk ?e1 ?e2 ?e3 ..
     (case e1 => PySem.W.k_is)                    -- in the order: a name -> its address -> its object -> its parts
     (case e2 => PySem.W.k_is)
     ..
   obtain ⟨t, T⟩ := T
   have e0 := hmg.symm.trans (PySem.W.mg_of KX G T.law)
   cases e0                                       -- fa is the law's own address
   exact ⟨_, fun s u => .of_eq rfl, fun base kb nb => My.law_fn T kb nb⟩     -- if «.of_eq rfl» comes too early: refine' ⟨_, ?b, fun base kb nb => My.law_fn T kb nb⟩; exact fun s u => .of_eq rfl
 case S => exact fun w H a ns hl hO hS => ..
 case C => exact ..
(the tactic k_is has no namespace: write k_is) -/
namespace L2
open PySem PySem.Spec PyProof.Rows
def inClass (s : Stmt) (j : Nat) : Stmt := match s with
 | .ClassDef _ _ _ body _ _ _ _ _ _ _ => body.getD j (.Pass ⟨0, 0, 0, 0⟩)
 | _ => .Pass ⟨0, 0, 0, 0⟩
def defArgs (s : Stmt) : Arguments := match s with
 | .FunctionDef _ a _ _ _ _ _ _ _ _ => a
 | _ => { posonlyargs := [], args := [], vararg := none, kwonlyargs := [], kw_defaults := [], kwarg := none, defaults := [] }
def defBody (s : Stmt) : List Stmt := match s with
 | .FunctionDef _ _ b _ _ _ _ _ _ _ => b
 | _ => []
def defScope (s : Stmt) : Scope := match s with
 | .FunctionDef _ _ _ _ _ _ sc _ _ _ => sc
 | _ => { kind := .function, names := [], isGenerator := false, isCoroutine := false }
abbrev CX0 : CXT := fun _ _ _ _ _ _ => False
abbrev E0 : XK := fun _ _ _ => False
theorem pass0 {X : Cx} : Passes CX0 X E0 := fun _ _ _ _ _ _ _ h => h.elim
structure Fun (K : PySem.W.Frag) (x qual : Str) (st : Stmt) (f : Addr) (fd : FuncData) : Prop where
 ex : ∃ (oc : Value) (od : Option Addr) (kV doc pm : Value) (an : Option Addr) (cdv ct : Value) (osl : Array (Option Value)),
   fd = PySem.W.fnOf x qual (defArgs st) (defBody st) (defScope st) .none kV doc pm an cdv ct ∧ K.lookup f = some ⟨oc, od, .func fd, osl⟩ ∧ PySem.W.codeIn K cdv qual = true
 kp : PySem.W.keepIn K (.ref f) = true
section
variable {P : Program} {w : World} {K : PySem.W.Frag} {mg : Str → Option Value} {base : Heap}
theorem Fun.ok {x qual : Str} {st : Stmt} {f : Addr} {fd : FuncData} {N ps : List Str} {k : Nat} {sp : Sp} (F : Fun K x qual st f fd) (S : FnScope N ps (defScope st)) (len : ∀ vs H Q E, sp vs H Q E → vs.length = ps.length)
   (hbody : ∀ (cdv : Value) (A : Around) (outer : List Env) (s : Shared) (H : Hp) (vs : List V) (Q : VK) (E : XK), Room cm k (A.deeper (envOfC qual (defScope st) s.heap.objs.size f cdv)) → sp vs H Q E →
     ∃ t, PSs (cxOf CX0 cm P w K mg base N qual (defScope st) f cdv A outer s H E).nox (defBody st) t ∧ t { nx := fun _ H' => Q .non H', rt := Q } (start N vs) H) : FnOk P w K mg base CX0 cm (k + 1) f fd ps sp := by
 obtain ⟨oc, od, kV, doc, pm, an, cdv, ct, osl, rfl, lk, hcd⟩ := F.ex
 refine fn_of lk hcd S len fun A outer s H vs Q E hr hsp => ?_
 obtain ⟨t, h, q⟩ := hbody cdv A outer s H vs Q E hr hsp
 exact ⟨t, h.nox, q⟩
theorem Fun.binds {x qual : Str} {st : Stmt} {f : Addr} {fd : FuncData} {ps : List Str} (F : Fun K x qual st f fd)
   (h : ∀ (kV doc pm : Value) (an : Option Addr) (cdv ct : Value) (us : List Value), us.length = ps.length → bindArgs (PySem.W.fnOf x qual (defArgs st) (defBody st) (defScope st) .none kV doc pm an cdv ct) ⟨us, []⟩ = pure (ps.zip us)) : Binds K fd ps [] := by
 obtain ⟨oc, od, kV, doc, pm, an, cdv, ct, osl, rfl, lk, hcd⟩ := F.ex
 exact .all (h kV doc pm an cdv ct)
end
theorem hu_of {cm : Bool} {A : Around} {k : Nat} (hr : Room cm k A) : A.units + 1 < cLine := Nat.lt_of_le_of_lt (Nat.add_le_add_left (by decide : 1 ≤ 64) _) hr.units
section
variable {X : Cx}
theorem pv (i : Nat) {x : Str} {pos : Pos} (hN : X.N[i]? = some x := by rfl) (hv : Vis X.env.scope x := by first | exact Or.inl rfl | exact Or.inr (Or.inl rfl) | exact Or.inr (Or.inr rfl)) (hd : (x == ("__debug__" : Str)) = false := by decide)
   (hcd : (x == ("__classdict__" : Str)) = false := by decide) : PE X (.Name x pos) (tVar i) := pe_var hN hv hd hcd
end
theorem iteF {A B : Prop} (h : B) : if false = true then A else B := by
 rw [if_neg Bool.false_ne_true]
 exact h
theorem iteT {A B : Prop} (h : A) : if true = true then A else B := by
 rw [if_pos rfl]
 exact h
def Same (H H' : Hp) : Prop := ∀ b o, H b = some o → H' b = some o
theorem Same.refl (H : Hp) : Same H H := fun _ _ h => h
theorem Same.trans {H H1 H2 : Hp} (a : Same H H1) (b : Same H1 H2) : Same H H2 := fun c o h => b c o (a c o h)
theorem Same.free {H H' : Hp} (e : Same H H') {l : Addr} (h : H' l = Option.none) : H l = Option.none := by
 cases q : H l with
 | none => rfl
 | some o =>
   rw [e l o q] at h
   cases h
theorem Same.seq {K : PySem.W.Frag} {H H' : Hp} {a : Addr} {xs : List V} (e : Same H H') (h : SqL K H a xs) : SqL K H' a xs := by
 rcases h with (h | ⟨o, h⟩) | h
 · exact .inl (.inl (e _ _ h))
 · exact .inl (.inr ⟨o, e _ _ h⟩)
 · exact .inr h
section
variable {κ : Type} [DecidableEq κ]
end
end L2
namespace L3
open PySem
def Rec (h : Heap) (x : Addr) (C : Value) (dx : Option Addr) (tb : Value) : Prop :=
 ∃ oe vs, h.get? x = some oe ∧ oe.cls = C ∧ oe.dict = dx ∧ oe.data = .fields vs ∧ vs[1]? = some tb
def Tra (h : Heap) (T : Addr) (fl : Value) : Prop := ∃ oT ts, h.get? T = some oT ∧ oT.data = .fields ts ∧ ts[3]? = some fl
theorem dict_mapFields (o : Obj) (f) : (o.mapFields f).dict = o.dict := by
 obtain ⟨c, d, dt, sl⟩ := o
 cases dt <;> rfl
structure Aft (S ch : List Addr) (h h' : Heap) : Prop where
 keep : ∀ b o, b ∉ S → b ∉ ch → h.get? b = some o → h'.get? b = some o
 slot : ∀ b o, b ∉ ch → h.get? b = some o → ∃ sl, h'.get? b = some { o with slots := sl }
 size : h.objs.size ≤ h'.objs.size
theorem Aft.refl (S ch : List Addr) (h : Heap) : Aft S ch h h := ⟨fun _ _ _ _ e => e, fun _ o _ e => ⟨o.slots, e⟩, Nat.le_refl _⟩
theorem Aft.trans {S ch : List Addr} {h1 h2 h3 : Heap} (a : Aft S ch h1 h2) (b : Aft S ch h2 h3) : Aft S ch h1 h3 where
 keep := fun c o hs hc e => b.keep c o hs hc (a.keep c o hs hc e)
 slot := fun c o hc e => by
   obtain ⟨s1, e1⟩ := a.slot c o hc e
   obtain ⟨s2, e2⟩ := b.slot c _ hc e1
   exact ⟨s2, e2⟩
 size := Nat.le_trans a.size b.size
theorem Aft.mono {S S' ch ch' : List Addr} {h h' : Heap} (a : Aft S ch h h') (hs : ∀ b, b ∈ S → b ∈ S') (hc : ∀ b, b ∈ ch → b ∈ ch') : Aft S' ch' h h' :=
 ⟨fun b o z1 z2 e => a.keep b o (fun q => z1 (hs b q)) (fun q => z2 (hc b q)) e, fun b o z e => a.slot b o (fun q => z (hc b q)) e, a.size⟩
section
variable {M : Model} {A : Around} {E : Value → Shared → Prop} {s : Shared}
theorem set_rec {T : Addr} {oT : Obj} {ts : Array Value} {i : Nat} {v : Value} {Q : Unit → Shared → Prop} (hT : s.heap.get? T = some oT) (hd : oT.data = .fields ts) (hi : i < ts.size)
   (h : ∀ h', Aft [] [T] s.heap h' → h'.get? T = some (oT.mapFields (·.setIfInBounds i v)) → Q () { s with heap := h' }) : wpAny M A (setField (.ref T) i v) Q E s := by
 refine wpAny_setField hT hd hi (h _ ⟨fun b o _ hb e => ?_, fun b o hb e => ⟨o.slots, ?_⟩, ?_⟩ ?_)
 · rw [Heap.get?_update_other _ _ (fun z => hb (by simp [z]))]; exact e
 · rw [Heap.get?_update_other _ _ (fun z => hb (by simp [z]))]; exact e
 · exact Nat.le_of_eq (Heap.size_after_update ..).symm
 · exact Heap.get?_update_self _ hT (Obj.isFreed_of_fields (Obj.data_mapFields hd _))
theorem new_rec {base : Heap} {env : Env} {outer : List Env} {L x : Addr} {oe : Obj} {vs : Array Value} {head : Value} {hadNext : Bool} {Q : Unit → Shared → Prop}
   (hfr : A.frames = some (env :: outer)) (hl : s.heap.FunFrames base (env :: outer)) (hf : env.frame = some L) (he : s.heap.get? x = some oe) (hd : oe.data = .fields vs) (hsz : 1 < vs.size)
   (h : ∀ h' T, Aft ((env :: outer).filterMap (·.frame)) [x] s.heap h' → s.heap.objs.size ≤ T → Rec h' x oe.cls oe.dict (.ref T) → Tra h' T (rawInt L) → Q () { s with heap := h' }) :
   wpAny M A (do let a ← frameOf env; let pl ← entryPlaceOf L hadNext; let b ← EntryCells.newEntry head a .none (rawInt L) .none pl; setField (.ref x) 1 b) Q E s := by
 have hne : x ∉ (env :: outer).filterMap (·.frame) := fun hm => by
   obtain ⟨_, o, ho, hnf⟩ := hl.mem hm
   rw [he] at ho
   cases ho
   exact hnf vs hd
 refine wpAny_bind (wpAny_frameOf_fun hfr hl hf fun h1 hs1 => ?_)
 refine wpAny_bind (wpAny_entryPlaceOf fun pl hpl => ?_)
 unfold EntryCells.newEntry newFields
 refine wpAny_bind (wpAny_newObj_type ?_ (hpl.sizeOk5 _ _ _ _ _))
 have he1 : h1.get? x = some oe := (hs1.2.1 x hne).trans he
 refine set_rec (Heap.get?_push_of_some _ he1) hd hsz fun h' a hx => ?_
 have hTx : h1.objs.size ≠ x := Nat.ne_of_gt (Heap.lt_size he1)
 refine h h' h1.objs.size ⟨fun b o hb hc e => ?_, fun b o hc e => ?_, ?_⟩ (Nat.le_of_eq hs1.1.symm) ⟨_, _, hx, Obj.cls_mapFields _ _, dict_mapFields _ _, Obj.data_mapFields hd _, by simp [hsz]⟩ ?_
 · exact a.keep b o (by simp) hc (Heap.get?_push_of_some _ ((hs1.2.1 b hb).trans e))
 · obtain ⟨sl, e1⟩ := hs1.2.2 b o e
   exact ⟨sl, a.keep b _ (by simp) hc (Heap.get?_push_of_some _ e1)⟩
 · refine Nat.le_trans ?_ a.size
   show s.heap.objs.size ≤ (h1.push _).objs.size
   rw [Heap.size_push, hs1.1]
   exact Nat.le_succ _
 · refine ⟨_, _, a.keep _ _ (by simp) (by simp [hTx]) (Heap.get?_push_size h1 rfl), rfl, ?_⟩
   first | (simp; done) | (rcases hpl with rfl | ⟨_, _, _, _, _, _, _, rfl⟩ <;> simp)
theorem note_new {base : Heap} {env : Env} {outer : List Env} {L x : Addr} {C : Value} {dx : Option Addr} {Q : Unit → Shared → Prop}
   (hfr : A.frames = some (env :: outer)) (hl : s.heap.FunFrames base (env :: outer)) (hf : env.frame = some L) (r : Rec s.heap x C dx .none)
   (h : ∀ h' T, Aft ((env :: outer).filterMap (·.frame)) [x] s.heap h' → s.heap.objs.size ≤ T → Rec h' x C dx (.ref T) → Tra h' T (rawInt L) → Q () { s with heap := h' }) :
   wpAny M A (noteFrame (.ref x) env) Q E s := by
 obtain ⟨oe, vs, he, rfl, rfl, hd, h1⟩ := r
 unfold noteFrame
 simp only [hf]
 refine wpAny_bind (wpAny_field he hd h1 ?_)
 rw [if_neg (by decide)]
 exact new_rec hfr hl hf he hd (Array.getElem?_eq_some_iff.mp h1).1 h
theorem note_any {base : Heap} {env : Env} {outer : List Env} {L x T : Addr} {C : Value} {dx : Option Addr} {fl : Value} {Q : Unit → Shared → Prop}
   (hfr : A.frames = some (env :: outer)) (hl : s.heap.FunFrames base (env :: outer)) (hf : env.frame = some L) (r : Rec s.heap x C dx (.ref T)) (hx : T ≠ x) (t : Tra s.heap T fl)
   (h : ∀ h' T' fl', Aft ((env :: outer).filterMap (·.frame)) [x, T] s.heap h' → (T' = T ∨ s.heap.objs.size ≤ T') → Rec h' x C dx (.ref T') → Tra h' T' fl' → Q () { s with heap := h' }) :
   wpAny M A (noteFrame (.ref x) env) Q E s := by
 obtain ⟨oe, vs, he, rfl, rfl, hd, h1⟩ := r
 obtain ⟨oT, ts, hT, hdT, h3⟩ := t
 unfold noteFrame
 simp only [hf]
 refine wpAny_bind (wpAny_field he hd h1 ?_)
 rw [if_pos (show (Value.ref T != Value.none) = true from by simp)]
 refine wpAny_bind (wpAny_field hT hdT h3 ?_)
 by_cases hb : (fl == rawInt L) = true
 · rw [if_pos hb]
   exact wpAny_pure (h s.heap T fl (Aft.refl ..) (.inl rfl) ⟨oe, vs, he, rfl, rfl, hd, h1⟩ ⟨oT, ts, hT, hdT, h3⟩)
 rw [if_neg hb]
 refine wpAny_bind (set_rec hT hdT (Array.getElem?_eq_some_iff.mp h3).1 fun h2 a2 e2 => ?_)
 have nT : ∀ b o, s.heap.get? b = some o → (∀ ws, o.data ≠ .fields ws) → b ∉ [T] := fun b o e hn z => by
   have z' : b = T := by simpa using z
   rw [z', hT] at e
   cases e
   exact hn ts hdT
 refine new_rec hfr (hl.of_keeps fun b o e hn => ⟨o, a2.keep b o (by simp) (nT b o e hn) e, rfl⟩) hf (a2.keep x oe (by simp) (by simp [Ne.symm hx]) he) hd (Array.getElem?_eq_some_iff.mp h1).1 fun h' T' a r' t' l => ?_
 refine h h' T' _ (Aft.trans (a2.mono (by simp) (by simp)) (a.mono (fun _ z => z) (by simp))) (.inr (Nat.le_trans a2.size r')) t' l
theorem flight_none {x T : Addr} {C : Value} {dx : Option Addr} {fl : Value} {Q : Unit → Shared → Prop} (r : Rec s.heap x C dx (.ref T)) (hx : T ≠ x) (t : Tra s.heap T fl)
   (h : ∀ h', Aft [] [T] s.heap h' → Rec h' x C dx (.ref T) → Tra h' T .none → Q () { s with heap := h' }) : wpAny M A (setFlight (.ref x) none) Q E s := by
 obtain ⟨oe, vs, he, rfl, rfl, hd, h1⟩ := r
 obtain ⟨oT, ts, hT, hdT, h3⟩ := t
 unfold setFlight
 refine wpAny_bind (wpAny_field he hd h1 ?_)
 rw [if_pos (show (Value.ref T != Value.none) = true from by simp)]
 have h3' := (Array.getElem?_eq_some_iff.mp h3).1
 refine set_rec hT hdT h3' fun h2 a2 e2 => h h2 a2 ⟨oe, vs, a2.keep x oe (by simp) (by simp [Ne.symm hx]) he, rfl, rfl, hd, h1⟩ ⟨_, _, e2, Obj.data_mapFields hdT _, ?_⟩
 simp [h3']
end
end L3
namespace L3
open PySem
def Rds {α : Type} (M : Model) (h : Heap) (t : Sem α) (r : α) : Prop :=
 ∀ (A : Around) (Q : α → Shared → Prop) (E : Value → Shared → Prop) (s : Shared), (∀ b o, h.get? b = some o → s.heap.get? b = some o) → Q r s → wpAny M A t Q E s
structure XC (h : Heap) (C : Addr) (bm : List Value) : Prop where
 at_ : ∃ nm q N bs sn sub ab col dd k0 k1 k2 k3 k5, h.get? C = some (excClassObj nm q C N bs bm true sn sub ab col dd k0 k1 k2 k3 k5 "ValueError.__new__")
 val : bm.contains (.type "ValueError") = true
 bas : bm.contains (.type "BaseException") = true
 ob : bm.contains (.type "object") = true
 noA : bm.contains (.type "AttributeError") = false
 noN : bm.contains (.type "NameError") = false
theorem XC.keeps {h h' : Heap} {C : Addr} {bm : List Value} (x : XC h C bm) (k : ∀ b o, h.get? b = some o → h'.get? b = some o) : XC h' C bm := by
 obtain ⟨⟨nm, q, N, bs, sn, sub, ab, col, dd, k0, k1, k2, k3, k5, e⟩, h1, h2, h3, h4, h5⟩ := x
 exact ⟨⟨nm, q, N, bs, sn, sub, ab, col, dd, k0, k1, k2, k3, k5, k _ _ e⟩, h1, h2, h3, h4, h5⟩
theorem has_more {C : Addr} {bm : List Value} {T : String} {b : Bool} (h : bm.contains (.type T) = b) : (Value.ref C :: bm).contains (.type T) = b := by
 rw [List.contains_cons, h]
 cases b <;> rfl
section
variable {P : Program} {w : World} {A : Around} {E : Value → Shared → Prop} {h : Heap} {g : Array GenState} {d : Drawn} {t : Nat} {os : OsState} {C : Addr} {bm : List Value}
theorem new_check {M : Model} {more : List Value} {Q : Unit → Shared → Prop} (x : XC h C bm) (hq : Q () ⟨h, g, d, t, os⟩) : wpAny M A (checkBuiltinCall "ValueError.__new__" ⟨.ref C :: more, []⟩) Q E ⟨h, g, d, t, os⟩ := by
 obtain ⟨⟨nm, q, N, bs, sn, sub, ab, col, dd, k0, k1, k2, k3, k5, cC⟩, val, bas, _, _, _⟩ := x
 have F := PySem.F.excBase_ValueError
 have c1 : (Value.ref C :: bm).contains (.type "ValueError") = true := has_more val
 have star := F.noStar
 simp only [checkBuiltinCall, F.newKind, F.newSplit, F.newRow]
 repeat (first
   | refine wpAny_loadPart_at cC ?_
   | (refine wpAny_isSubtype_exc cC ?_; rw [c1])
   | refine wpAny_staticBase_exc cC ?_
   | refine wpAny_madeBy_exc cC ?_
   | simp only [bne_self_eq_false, Bool.false_eq_true, if_false]
   | wp_step)
 exact hq
theorem new_run {more : List Value} {R : Result → Shared → Prop} (x : XC h C bm)
   (hq : R (.ok (.ret (.ref (h.objs.size + 1)))) ⟨(h.push { cls := .type "tuple", data := .seq more.toArray }).push { cls := .ref C, data := .fields #[.ref h.objs.size, .none, .none, .none, .bool false, .none] }, g, d, t, os⟩)
   (hrest : more.length ≤ sizeLine) : codeAny (model P w) A (.builtin "ValueError.__new__" ⟨.ref C :: more, []⟩) R ⟨h, g, d, t, os⟩ := by
 obtain ⟨⟨nm, q, N, bs, sn, sub, ab, col, dd, k0, k1, k2, k3, k5, cC⟩, val, bas, _, noA, noN⟩ := x
 have F := PySem.F.excBase_ValueError
 have ends := F.ends
 have c1 : (Value.ref C :: bm).contains (.type "ValueError") = true := has_more val
 have c2 : (Value.ref C :: bm).contains (.type "AttributeError") = false := has_more noA
 have c3 : (Value.ref C :: bm).contains (.type "NameError") = false := has_more noN
 refine codeAny_builtinAt F.entry ?_
 unfold Builtin.«BaseException.__new__»
 refine wpAt_bind ?_
 show wpAt _ _ _ (stack >>= _) _ _ _
 refine wpAt_bind (wpAt_stack fun p below => wpAt_of_wpAny ?_)
 wp_walk
 refine wpAt_of_wpAny ?_
 rw [F.owner]
 repeat (first
   | with_reducible refine wpAny_madeHere_exc F.canon cC ?_
   | with_reducible refine wpAny_loadPart_at cC ?_
   | (with_reducible refine wpAny_isSubtype_exc cC ?_; first | rw [c1] | rw [c2] | rw [c3])
   | wp_step)
 show R _ _
 rw [Heap.size_push]
 exact hq
theorem class_run {iv : Value} {more : List Value} {Q : PySem.Fin → Shared → Prop} (x : XC h C bm) (li : Rds (model P w) h (typeLookup (.ref C) "__init__") (some iv))
   (hrest : more.length ≤ sizeLine)
   (hq : ∀ h' e, Heap.MadeExcOf h h' e (.ref C) more → h.objs.size ≤ e → wpAny (model P w) A (bindSpecial iv (.ref e)) (fun p s1 => wpAny (model P w) A (call p.1 (p.2 ++ more)) (fun r s2 => r = .none ∧ Q (.done (.ret (.ref e))) s2) E s1) E ⟨h', g, d, t, os⟩) :
   wpAny (model P w) A (Builtin.«type.__call__» ⟨.ref C :: more, []⟩) Q E ⟨h, g, d, t, os⟩ := by
 have x0 := x
 obtain ⟨⟨nm, q, N, bs, sn, sub, ab, col, dd, k0, k1, k2, k3, k5, cC⟩, val, bas, _, noA, noN⟩ := x
 have F := PySem.F.excBase_ValueError
 repeat (first
   | with_reducible refine wpAny_loadPart_at cC ?_
   | with_reducible refine wpAny_madeBy_exc cC ?_
   | wp_step)
 refine codeAny_call_builtin_code (Code.quiet_builtin _ F.quiet) (new_check x0 ?_)
 refine new_run x0 ?_ hrest
 show wpAny _ _ _ _ _ _
 have up : ∀ b o, h.get? b = some o → ((h.push { cls := .type "tuple", data := .seq more.toArray }).push { cls := .ref C, data := .fields #[.ref h.objs.size, .none, .none, .none, .bool false, .none] }).get? b = some o :=
   fun b o e => Heap.get?_push_of_some _ (Heap.get?_push_of_some _ e)
 have cC1 := up _ _ cC
 have here : ((h.push { cls := .type "tuple", data := .seq more.toArray }).push { cls := .ref C, data := .fields #[.ref h.objs.size, .none, .none, .none, .bool false, .none] }).get? (h.objs.size + 1) =
     some { cls := .ref C, data := .fields #[.ref h.objs.size, .none, .none, .none, .bool false, .none] } := by heap_get
 have c0 : (Value.ref C :: bm).contains (.ref C) = true := by simp
 unfold isInstance
 repeat (first
   | with_reducible refine wpAny_loadPart_at here ?_
   | (with_reducible refine wpAny_isSubtype_exc cC1 ?_; rw [c0])
   | wp_step)
 show wpAny _ _ (typeLookup (.ref C) _) _ _ _
 refine li _ _ _ _ up ?_
 refine wpAny_holding (wpAny_bind (wpAny_mono (hq _ (h.objs.size + 1) ⟨up, Heap.get?_none_of_le (Nat.le_succ _), h.objs.size, here, Heap.get?_none_of_le (Nat.le_refl _), ?_⟩ (Nat.le_succ _)) (fun p s1 h1 => ?_) fun _ _ z => z))
 · exact Heap.get?_push_of_some _ (Heap.get?_push_at rfl rfl)
 · obtain ⟨p1, p2⟩ := p
   refine wpAny_bind (wpAny_mono h1 (fun r s2 hr => ?_) fun _ _ z => z)
   obtain ⟨rfl, hQ⟩ := hr
   wp_walk
   exact hQ
end
end L3
namespace L3
open PySem
section
variable {P : Program} {w : World} {A : Around} {E : Value → Shared → Prop} {h : Heap} {g : Array GenState} {d : Drawn} {t : Nat} {os : OsState} {C : Addr} {bm : List Value}
theorem class_call {iv : Value} {more : List Value} {Q : Value → Shared → Prop} (x : XC h C bm) (li : Rds (model P w) h (typeLookup (.ref C) "__init__") (some iv)) (hrest : more.length ≤ sizeLine)
   (hq : ∀ h' e, Heap.MadeExcOf h h' e (.ref C) more → h.objs.size ≤ e → wpAny (model P w) (A.under (.builtin "type.__call__" ⟨.ref C :: more, []⟩)) (bindSpecial iv (.ref e))
     (fun p s1 => wpAny (model P w) (A.under (.builtin "type.__call__" ⟨.ref C :: more, []⟩)) (call p.1 (p.2 ++ more)) (fun r s2 => r = .none ∧ Q (.ref e) s2) E s1) E ⟨h', g, d, t, os⟩) :
   wpAny (model P w) A (call (.ref C) more) Q E ⟨h, g, d, t, os⟩ := by
 have x0 := x
 obtain ⟨⟨nm, q, N, bs, sn, sub, ab, col, dd, k0, k1, k2, k3, k5, cC⟩, _⟩ := x
 have f1 := tc_lookup
 have f2 := tc_bind (.ref C)
 have ty : (⟨h, g, d, t, os⟩ : Shared).TypeIs (.ref C) "type" := ⟨_, cC, rfl⟩
 refine wpAny_call (codeAny_of_tree ?_)
 show wpAny _ _ (callAny (.ref C) _) _ _ _
 repeat (any_goals (first
   | assumption
   | with_reducible refine wpAny_loadPart_at cC ?_
   | wp_step))
 refine ⟨rfl, ?_⟩
 exact codeAny_call_builtin_at (Code.quiet_builtin _ (by decide +kernel)) entry_typeCall (wpAny_check_type_call_sub cC (class_run x0 li hrest fun h' e hm hs => hq h' e hm hs))
def Bare (s : Shared) (e C : Addr) : Prop := ∃ dx t, s.heap.get? e = some { cls := .ref C, dict := dx, data := .fields #[.ref t, .none, .none, .none, .bool false, .none] }
theorem raise_run {env : Env} {s : Shared} {x : Sem Value} {Q : Flow → Shared → Prop} (hh : A.handled = none)
   (hx : wpAny (model P w) A x (fun v s1 => ∃ e, v = .ref e ∧ XC s1.heap C bm ∧ Bare s1 e C ∧ E (.ref e) s1) E s) : wpAny (model P w) A (raiseStmt env (some x) none) Q E s := by
 unfold raiseStmt
 refine wpAny_bind (wpAny_mono hx (fun v s1 h1 => ?_) fun _ _ z => z)
 obtain ⟨e, rfl, xc, ⟨dx, tt, he⟩, hE⟩ := h1
 obtain ⟨⟨nm, q, N, bs, sn, sub, ab, col, dd, k0, k1, k2, k3, k5, cC⟩, _, bas, _⟩ := xc
 have c1 : (Value.ref C :: bm).contains (.type "BaseException") = true := has_more bas
 obtain ⟨hp, g1, d1, tk, os1⟩ := s1
 repeat (first
   | with_reducible refine wpAny_loadPart_at he ?_
   | with_reducible refine wpAny_loadPart_at cC ?_
   | (with_reducible refine wpAny_isSubtype_exc cC ?_; rw [c1])
   | wp_step)
 exact wpAny_raiseNew_none hh hE
theorem raise_call {env : Env} {s : Shared} {x : Str} {np cpos pos : Pos} {args : List Expr} {iv : Value} {Q : Flow → Shared → Prop} (hh : A.handled = none) (hplain : (backTo cpos (starEach args env)).any (·.1) = false)
   (hx : wpAny (model P w) A (eval (.Name x np) env) (fun f s1 => f = .ref C ∧ wpAny (model P w) A (evalArgs (.ref C) true (backTo cpos (starEach args env)) [])
     (fun a s2 => a.kw = [] ∧ a.pos.length ≤ sizeLine ∧ XC s2.heap C bm ∧ Rds (model P w) s2.heap (typeLookup (.ref C) "__init__") (some iv) ∧
       ∀ h' e, Heap.MadeExcOf s2.heap h' e (.ref C) a.pos → s2.heap.objs.size ≤ e → wpAny (model P w) (A.under (.builtin "type.__call__" ⟨.ref C :: a.pos, []⟩)) (bindSpecial iv (.ref e))
         (fun p s3 => wpAny (model P w) (A.under (.builtin "type.__call__" ⟨.ref C :: a.pos, []⟩)) (call p.1 (p.2 ++ a.pos)) (fun r s4 => r = .none ∧ XC s4.heap C bm ∧ Bare s4 e C ∧ E (.ref e) s4) E s3) E { s2 with heap := h' }) E s1) E s) :
   wpAny (model P w) A (exec (.Raise (some (.Call (.Name x np) args [] cpos)) none pos) env) Q E s := by
 rw [arm_exec_Raise]
 have go : wpAny (model P w) A (eval (.Call (.Name x np) args [] cpos) env) (fun v s1 => ∃ e, v = .ref e ∧ XC s1.heap C bm ∧ Bare s1 e C ∧ E (.ref e) s1) E s := by
   refine wpAny_Call_ofName (wpAny_mono hx (fun f s1 h1 => ?_) fun _ _ z => z)
   obtain ⟨rfl, h1⟩ := h1
   unfold callWith
   refine wpAny_bind (wpAny_holding (wpAny_mono h1 (fun a s2 h2 => wpAny_bind (wpAny_standAt ?_)) fun _ _ z => z))
   obtain ⟨ap, ak⟩ := a
   obtain ⟨hkw, hlen, xc, li, h2⟩ := h2
   obtain rfl : ak = [] := hkw
   obtain ⟨hp, g1, d1, tk, os1⟩ := s2
   simp only [hplain]
   obtain ⟨⟨nm, q, N, bs, sn, sub, ab, col, dd, k0, k1, k2, k3, k5, cC⟩, _⟩ := id xc
   refine wpAny_bind (wpAny_keeperOf_exc cC ?_)
   refine wpAny_bind (class_call xc li hlen fun h' e hm hs => wpAny_mono (h2 h' e hm hs) (fun p s3 h3 => wpAny_mono h3 (fun r s4 h4 => ?_) fun _ _ z => z) fun _ _ z => z)
   exact ⟨h4.1, wpAny_bind (wpAny_holding (wpAny_point (wpAny_pure ⟨e, rfl, h4.2⟩)))⟩
 first
   | refine wpAny_bind (wpAny_standAt (raise_run (C := C) (bm := bm) hh (wpAny_bind (wpAny_mono go (fun v s3 h3 => wpAny_bind (wpAny_standAt (wpAny_pure h3))) fun _ _ z => z))))
   | (simp only [evalOpt, Option.map]; refine wpAny_bind (wpAny_standAt (raise_run (C := C) (bm := bm) hh (wpAny_bind (wpAny_mono go (fun v s3 h3 => wpAny_bind (wpAny_standAt (wpAny_pure h3))) fun _ _ z => z)))))
end
end L3
namespace L3
open PySem
section
variable {P : Program} {w : World} {A : Around} {E : Value → Shared → Prop} {h h' : Heap} {g : Array GenState} {d : Drawn} {t : Nat} {os : OsState} {C : Addr} {bm : List Value}
end
end L3
namespace L3
open PySem Builtin Builtin.ObjectAttr
section
variable {P : Program} {w : World} {A : Around} {E : Value → Shared → Prop} {h : Heap} {g : Array GenState} {d : Drawn} {t : Nat} {os : OsState} {C x : Addr} {bm : List Value}
 {mA : Str → Option Value} {name : Str} {v : Value} {B : String} {bmB : List Value}
theorem Rds.go {α : Type} {M : Model} {r : α} {u : Sem α} {s : Shared} {Q : α → Shared → Prop} (l : Rds M h u r) (k : ∀ b o, h.get? b = some o → s.heap.get? b = some o) (q : Q r s) : wpAny M A u Q E s := l A Q E s k q
def Stored (h : Heap) (x C : Addr) (mA : Str → Option Value) (name : Str) (v : Value) (h' : Heap) : Prop :=
 h'.Inst x C (fun y => if y = name then some v else mA y) ∧
 (∀ b o, b ≠ x → (∀ o0 dx, h.get? x = some o0 → o0.dict = some dx → b ≠ dx) → h.get? b = some o → h'.get? b = some o) ∧
 (∀ o0, h.get? x = some o0 → ∃ o1, h'.get? x = some o1 ∧ o1.cls = o0.cls ∧ o1.data = o0.data ∧ o1.slots = o0.slots ∧ ∀ dx, o0.dict = some dx → o1.dict = some dx) ∧
 (∀ o0, h.get? x = some o0 → o0.dict = none → ∃ o1, h'.get? x = some o1 ∧ o1.dict = some h.objs.size)
theorem set_check {M : Model} {o : Obj} {nameV : Value} {Q : Unit → Shared → Prop} (SF : StoreFacts B bmB "object.__setattr__" "object") (xc : XC h C bm) (hx : h.get? x = some o) (hc : o.cls = .ref C)
   (hq : Q () ⟨h, g, d, t, os⟩) : wpAny M A (checkBuiltinCall "object.__setattr__" ⟨[.ref x, nameV, v], []⟩) Q E ⟨h, g, d, t, os⟩ := by
 obtain ⟨⟨nm, q, N, bs, sn, sub, ab, col, dd, k0, k1, k2, k3, k5, cC⟩, _, _, ob, _, _⟩ := xc
 have c1 : (Value.ref C :: bm).contains (.type "object") = true := has_more ob
 simp only [checkBuiltinCall, SF.kind, SF.split]
 refine wpAny_bind ?_
 · unfold isInstance
   repeat (first
     | (with_reducible refine wpAny_loadPart_at hx ?_; rw [hc])
     | (with_reducible refine wpAny_isSubtype_exc cC ?_; rw [c1])
     | wp_step)
   exact hq
theorem set_entry {tk : Tok} {Q : PySem.Fin → Shared → Prop} {ns : List Str} (xc : XC h C bm) (hpass : ∀ self, refuseLoop self "__setattr__" bm = pure ()) (la : Rds (model P w) h (typeLookup (.ref C) name) none) (I : h.Inst x C mA)
   (hw : Within mA ns) (hsz : ns.length ≤ sizeLine) (hq : ∀ h' tk', Stored h x C mA name v h' → Q (.done (.ret .none)) ⟨h', g, d, tk', os⟩) :
   wpAny (model P w) A (Builtin.«object.__setattr__» ⟨[.ref x, .str name tk, v], []⟩) Q E ⟨h, g, d, t, os⟩ := by
 obtain ⟨⟨nm, q, N, bs, sn, sub, ab, col, dd, k0, k1, k2, k3, k5, cC⟩, _⟩ := xc
 obtain ⟨o, hx, hc, hnc, hd⟩ := I
 have hp := hpass (.ref x)
 unfold Builtin.«object.__setattr__»
 repeat (first
   | rw [refuse_eq]
   | (rw [refuseLoop_ref, hp])
   | (with_reducible refine wpAny_loadPart_at hx ?_; rw [hc])
   | with_reducible refine wpAny_mroOf_exc cC ?_
   | with_reducible refine Rds.go la (fun _ _ z => z) ?_
   | wp_step)
 rcases hd with ⟨hdn, hmA⟩ | ⟨dx, hdx, hne, hns⟩
 · rw [hdn, if_neg (by simp [typeHasDict])]
   split
   · rename_i z
     cases z
   split
   · rename_i c z
     exact absurd z (hnc c)
   · have hx1 : (h.push { cls := .type "dict", data := .dict #[] }).get? x = some o := Heap.get?_push_of_some _ hx
     have hxs : x ≠ h.objs.size := Nat.ne_of_lt (Heap.lt_size hx)
     refine wpAny_bind (wpAny_alloc' ?_)
     refine wpAny_bind (wpAny_update' hx1 ?_)
     refine wpAny_pure ?_
     have g1 : ((h.push { cls := .type "dict", data := .dict #[] }).update x fun o => { cls := o.cls, dict := some h.objs.size, data := o.data, slots := o.slots }).get? h.objs.size =
         some { cls := .type "dict", data := .dict #[] } := (Heap.get?_update_ne _ _ _ _ hxs.symm).trans (Heap.get?_push_at rfl rfl)
     have g2 : ((h.push { cls := .type "dict", data := .dict #[] }).update x fun o => { cls := o.cls, dict := some h.objs.size, data := o.data, slots := o.slots }).Ns h.objs.size (fun _ => none) :=
       ⟨_, #[], _, g1, rfl, (fun e he => absurd he (by simp)), fun _ => rfl⟩
     show wpAny _ _ (storeInDict h.objs.size (.str name tk) name v) _ _ _
     unfold storeInDict newKeyGuard
     refine wpAny_bind (wpAny_pure (wpAny_bind (wpAny_nsSet1 (Heap.Ns1.of_empty g2) fun h' hn' hs => ?_)))
     obtain ⟨oD, esD, epD, hoD, hdD, hcD⟩ := hn'.count (Within.cons name v Within.nil)
     refine wpAny_bind (wpAny_lookBehind hoD (by rw [hdD]; exact pastItsLine_dict (Nat.le_trans hcD (by rw [List.length_cons, List.length_nil, sizeLine_eq]; omega))) ?_)
     wp_walk
     have hx' : h'.get? x = some { cls := o.cls, dict := some h.objs.size, data := o.data, slots := o.slots } := by
       refine (hs.2 x hxs).trans (Heap.get?_update_self _ hx1 ?_)
       have fr := (Heap.get?_some_iff.mp hx).2
       obtain ⟨oc, od, odt, osl⟩ := o
       cases odt <;> first | rfl | exact fr
     refine hq h' _ ⟨⟨_, hx', hc, hnc, .inr ⟨h.objs.size, rfl, hxs.symm, ?_⟩⟩, fun b ob hbx _ hb => ?_, fun o0 h0 => ?_, fun o0 h0 _ => ⟨_, hx', rfl⟩⟩
     · obtain ⟨o', es, ep, e1, e2, e3, eu, e4⟩ := hn'
       exact ⟨o', es, ep, e1, e2, e3, eu, fun y => by rw [e4 y]; by_cases hy : y = name <;> simp [hy, hmA]⟩
     · exact (hs.2 b (Nat.ne_of_lt (Heap.lt_size hb))).trans ((Heap.get?_update_ne _ _ _ _ hbx).trans (Heap.get?_push_of_some _ hb))
     · obtain rfl : o = o0 := Option.some.inj (hx.symm.trans h0)
       exact ⟨_, hx', rfl, rfl, rfl, fun dx e => by rw [hdn] at e; cases e⟩
 · rw [hdx]
   refine wpAny_pure ?_
   show wpAny _ _ (storeInDict dx (.str name tk) name v) _ _ _
   unfold storeInDict newKeyGuard
   refine wpAny_bind (wpAny_pure (wpAny_bind (wpAny_nsSet1 hns fun h' hn' hs => ?_)))
   obtain ⟨oD, esD, epD, hoD, hdD, hcD⟩ := hn'.count (Within.cons name v hw)
   refine wpAny_bind (wpAny_lookBehind hoD (by rw [hdD]; exact pastItsLine_dict (Nat.le_trans hcD (by rw [List.length_cons]; omega))) ?_)
   wp_walk
   refine hq h' _ ⟨⟨o, (hs.2 x hne.symm).trans hx, hc, hnc, .inr ⟨dx, hdx, hne, hn'⟩⟩, fun b ob _ hbd hb => ?_, fun o0 h0 => ⟨o0, (hs.2 x hne.symm).trans h0, rfl, rfl, rfl, fun _ e => e⟩, fun o0 h0 hn0 => ?_⟩
   · exact (hs.2 b (hbd o dx hx hdx)).trans hb
   · obtain rfl : o = o0 := Option.some.inj (hx.symm.trans h0)
     rw [hdx] at hn0
     cases hn0
theorem set_attr {Q : Unit → Shared → Prop} {ns : List Str} (SF : StoreFacts B bmB "object.__setattr__" "object") (xc : XC h C bm) (hpass : ∀ self, refuseLoop self "__setattr__" bm = pure ())
   (ls : Rds (model P w) h (typeLookup (.ref C) "__setattr__") (some (.builtin "object.__setattr__"))) (la : Rds (model P w) h (typeLookup (.ref C) name) none) (I : h.Inst x C mA) (hw : Within mA ns) (hsz : ns.length ≤ sizeLine)
   (hq : ∀ h' tk', Stored h x C mA name v h' → Q () ⟨h', g, d, tk', os⟩) : wpAny (model P w) A (setAttr (.ref x) name v) Q E ⟨h, g, d, t, os⟩ := by
 obtain ⟨o, hx, hc, _⟩ := id I
 have f3 := SF.slot.bind (.ref x)
 unfold setAttr callSpecial? specialOf
 repeat (any_goals (first
   | assumption
   | (with_reducible refine wpAny_loadPart_at hx ?_; rw [hc])
   | with_reducible refine Rds.go ls (fun _ _ z => z) ?_
   | wp_step))
 refine codeAny_call_builtin SF.slot.plain SF.entry (set_check SF xc hx hc (set_entry xc hpass la I hw hsz fun h' tk' st => ?_))
 repeat (any_goals (first | assumption | wp_step))
 exact hq h' tk' st
end
end L3
namespace L3
open PySem Builtin Builtin.ObjectAttr
section
variable {P : Program} {w : World} {A : Around} {E : Value → Shared → Prop} {h : Heap} {g : Array GenState} {d : Drawn} {t : Nat} {os : OsState} {C x dx : Addr} {bm : List Value}
 {mA : Str → Option Value} {name : Str} {v : Value} {o : Obj} {vs : Array Value}
theorem get_check {M : Model} {nameV : Value} {Q : Unit → Shared → Prop} (xc : XC h C bm) (hx : h.get? x = some o) (hc : o.cls = .ref C) (hq : Q () ⟨h, g, d, t, os⟩) :
   wpAny M A (checkBuiltinCall "BaseException.__getattribute__" ⟨[.ref x, nameV], []⟩) Q E ⟨h, g, d, t, os⟩ := by
 obtain ⟨⟨nm, q, N, bs, sn, sub, ab, col, dd, k0, k1, k2, k3, k5, cC⟩, _, bas, _, _, _⟩ := xc
 have f1 : builtinKind "BaseException.__getattribute__" = some .slot := by decide +kernel
 have f2 : splitId "BaseException.__getattribute__" = some ("BaseException", "__getattribute__") := by decide +kernel
 have c1 : (Value.ref C :: bm).contains (.type "BaseException") = true := has_more bas
 have ha := PySem.F.args_bexc_ga (.ref x) nameV
 simp only [checkBuiltinCall, f1, f2]
 refine wpAny_bind ?_
 unfold isInstance
 repeat (first
   | (with_reducible refine wpAny_loadPart_at hx ?_; rw [hc])
   | (with_reducible refine wpAny_isSubtype_exc cC ?_; rw [c1])
   | wp_step)
 exact hq
theorem get_entry {tk : Tok} {Q : PySem.Fin → Shared → Prop} (xc : XC h C bm) (la : Rds (model P w) h (typeLookup (.ref C) name) none) (hx : h.get? x = some o) (hc : o.cls = .ref C) (hd : o.data = .fields vs) (hdx : o.dict = some dx)
   (hn : h.Ns1 dx mA) (hv : mA name = some v) (hq : Q (.done (.ret v)) ⟨h, g, d, t, os⟩) :
   wpAny (model P w) A (Builtin.«object.__getattribute__» ⟨[.ref x, .str name tk], []⟩) Q E ⟨h, g, d, t, os⟩ := by
 obtain ⟨⟨nm, q, N, bs, sn, sub, ab, col, dd, k0, k1, k2, k3, k5, cC⟩, _⟩ := xc
 obtain ⟨oc, od, odt, osl⟩ := o
 dsimp only at hc hd hdx
 subst hc hd hdx
 repeat (any_goals (first
   | assumption
   | with_reducible refine wpAny_loadPart_at hx ?_
   | with_reducible refine wpAny_loadPart_at cC ?_
   | with_reducible refine Rds.go la (fun _ _ z => z) ?_
   | with_reducible refine wpAny_nsGet hn.ns ?_
   | wp_step))
 rw [hv]
 repeat (any_goals (first | assumption | wp_step))
theorem get_attr {ex : Bool} {Q : Value → Shared → Prop} (FB : ExcAttrFacts "ValueError") (xc : XC h C bm) (lg : Rds (model P w) h (typeLookup (.ref C) "__getattribute__") (some (.builtin "BaseException.__getattribute__")))
   (lh : Rds (model P w) h (typeLookup (.ref C) "__getattr__") none) (la : Rds (model P w) h (typeLookup (.ref C) name) none) (hx : h.get? x = some o) (hc : o.cls = .ref C) (hd : o.data = .fields vs) (hdx : o.dict = some dx)
   (hn : h.Ns1 dx mA) (hv : mA name = some v) (hh : handedOut v = pure v) (hq : Q v ⟨h, g, d, t + 1, os⟩) : wpAny (model P w) A (getAttr (.ref x) name ex) Q E ⟨h, g, d, t, os⟩ := by
 have f3 := FB.ga.bind (.ref x)
 have e0 : (ex && onTheHeap (Value.builtin "BaseException.__getattribute__")) = false := by cases ex <;> rfl
 have e2 : (Value.builtin "BaseException.__getattribute__" == Value.builtin "object.__getattribute__") = false := by decide +kernel
 have e1 : (onTheHeap (Value.ref C) && Value.builtin "BaseException.__getattribute__" == Value.builtin "object.__getattribute__") = false := by rw [e2]; rfl
 unfold getAttr
 repeat (any_goals (first
   | assumption
   | (with_reducible refine wpAny_loadPart_at hx ?_; rw [hc])
   | with_reducible refine Rds.go lg (fun _ _ z => z) ?_
   | with_reducible refine Rds.go lh (fun _ _ z => z) ?_
   | wp_step))
 refine codeAny_call_builtin FB.ga.plain PySem.F.entry_bexc_ga (get_check xc hx hc (get_entry xc la hx hc hd hdx hn hv ?_))
 repeat (any_goals (first | assumption | wp_step))
end
end L3
namespace L3
open PySem Builtin Builtin.ObjectAttr
section
variable {P : Program} {w : World} {A : Around} {E : Value → Shared → Prop} {h : Heap} {g : Array GenState} {d : Drawn} {t : Nat} {os : OsState} {C x : Addr} {bm : List Value} {o : Obj}
theorem cls_get {R : Result → Shared → Prop} (xc : XC h C bm) (hx : h.get? x = some o) (hc : o.cls = .ref C) (hq : R (.ok (.ret (.ref C))) ⟨h, g, d, t, os⟩) :
   codeAny (model P w) A (.call (.builtin "getset_descriptor.__get__") ⟨[.builtin "object.__class__", .ref x, .ref C], []⟩) R ⟨h, g, d, t, os⟩ := by
 obtain ⟨⟨nm, q, N, bs, sn, sub, ab, col, dd, k0, k1, k2, k3, k5, cC⟩, _, _, ob, _, _⟩ := xc
 have ty : (⟨h, g, d, t, os⟩ : Shared).TypeIs (.builtin "object.__class__") "getset_descriptor" := PySem.F.typeOf_object_class
 have c1 : (Value.ref C :: bm).contains (.type (".".intercalate ("object.__class__".cutAt '.').dropLast)) = true := by
   rw [PySem.F.owner_object_class]
   exact has_more ob
 refine codeAny_call_builtin PySem.F.slot_gs_get.plain PySem.F.entry_gs_get (PySem.F.slot_gs_get.check _ _ _ _ _ _ _ _ ty (PySem.F.args_gs_get _ _ _) ?_)
 repeat (any_goals (first
   | assumption
   | (with_reducible refine wpAny_loadPart_at hx ?_; rw [hc])
   | (with_reducible refine wpAny_isSubtype_exc cC ?_; rw [c1])
   | wp_step))
 refine ⟨Code.quiet_builtin _ (by decide +kernel), codeAny_builtin PySem.F.entry_object_class ?_⟩
 repeat (any_goals (first
   | assumption
   | (with_reducible refine wpAny_loadPart_at hx ?_; rw [hc])
   | wp_step))
theorem cls_entry {tk : Tok} {Q : PySem.Fin → Shared → Prop} (xc : XC h C bm) (lc : Rds (model P w) h (typeLookup (.ref C) "__class__") (some (.builtin "object.__class__"))) (hx : h.get? x = some o) (hc : o.cls = .ref C)
   (hq : Q (.done (.ret (.ref C))) ⟨h, g, d, t, os⟩) : wpAny (model P w) A (Builtin.«object.__getattribute__» ⟨[.ref x, .str "__class__" tk], []⟩) Q E ⟨h, g, d, t, os⟩ := by
 have ty : (⟨h, g, d, t, os⟩ : Shared).TypeIs (.builtin "object.__class__") "getset_descriptor" := PySem.F.typeOf_object_class
 have f5 := PySem.F.typeOf_object_class
 have f6 := PySem.F.slot_gs_get.lookup
 have f7 := PySem.F.slot_gs_set.lookup
 repeat (any_goals (first
   | assumption
   | (with_reducible refine wpAny_loadPart_at hx ?_; rw [hc])
   | with_reducible refine Rds.go lc (fun _ _ z => z) ?_
   | wp_step))
 refine cls_get xc hx hc ?_
 repeat (any_goals (first | assumption | wp_step))
theorem cls_attr {Q : Option Value → Shared → Prop} (FB : ExcAttrFacts "ValueError") (xc : XC h C bm) (lg : Rds (model P w) h (typeLookup (.ref C) "__getattribute__") (some (.builtin "BaseException.__getattribute__")))
   (lh : Rds (model P w) h (typeLookup (.ref C) "__getattr__") none) (lc : Rds (model P w) h (typeLookup (.ref C) "__class__") (some (.builtin "object.__class__"))) (hx : h.get? x = some o) (hc : o.cls = .ref C)
   (hq : Q (some (.ref C)) ⟨h, g, d, t + 1, os⟩) : wpAny (model P w) A (getAttr? (.ref x) "__class__") Q E ⟨h, g, d, t, os⟩ := by
 have f3 := FB.ga.bind (.ref x)
 have e0 : (false && onTheHeap (Value.builtin "BaseException.__getattribute__")) = false := rfl
 have e2 : (Value.builtin "BaseException.__getattribute__" == Value.builtin "object.__getattribute__") = false := by decide +kernel
 have e1 : (onTheHeap (Value.ref C) && Value.builtin "BaseException.__getattribute__" == Value.builtin "object.__getattribute__") = false := by rw [e2]; rfl
 unfold getAttr? getAttrBy?
 repeat (any_goals (first
   | assumption
   | (with_reducible refine wpAny_loadPart_at hx ?_; rw [hc])
   | with_reducible refine Rds.go lg (fun _ _ z => z) ?_
   | with_reducible refine Rds.go lh (fun _ _ z => z) ?_
   | wp_step))
 refine codeAny_call_builtin FB.ga.plain PySem.F.entry_bexc_ga (get_check xc hx hc (cls_entry xc lc hx hc ?_))
 repeat (any_goals (first | assumption | wp_step))
end
end L3
namespace L2
open PySem PySem.Spec PyProof.Rows L3
def onlyVal : List Value → Bool
 | .ref _ :: r => onlyVal r
 | l => l == [.type "ValueError", .type "Exception", .type "BaseException", .type "object"]
theorem refuse_val (self : Value) {l : List Value} (e : onlyVal l = true) : refuseLoop self "__setattr__" l = pure () := by
 induction l with
 | nil => cases e
 | cons c r ih =>
   cases c with
   | ref a =>
     rw [refuseLoop_ref]
     exact ih e
   | type n =>
     rw [show Value.type n :: r = [.type "ValueError", .type "Exception", .type "BaseException", .type "object"] from beq_iff_eq.mp e]
     exact PySem.F.store_ValueError.passes self
   | _ => exact absurd (beq_iff_eq.mp e) (by simp)
def bmOf (K : PySem.W.Frag) (C : Addr) : List Value := match K.lookup C with
 | some ⟨_, _, .cls cd, _⟩ => cd.mro.tail
 | _ => []
def xclsIn (K : PySem.W.Frag) (C : Addr) : Bool := match K.lookup C with
 | some ⟨.type "type", _, .cls cd, sl⟩ => (match cd.mro, sl.toList with
   | .ref C' :: bm, [_, _, _, _, some (.builtin n), _] => C' == C && !cd.hasDel && cd.hasDict && n == "ValueError.__new__" && bm.contains (.type "ValueError") && bm.contains (.type "BaseException") && bm.contains (.type "object") && !bm.contains (.type "AttributeError") && !bm.contains (.type "NameError") && onlyVal bm
   | _, _ => false)
 | _ => false
theorem xc_of {K : PySem.W.Frag} {h : Heap} {C : Addr} (X : K.In h) (q : xclsIn K C = true) : XC h C (bmOf K C) ∧ onlyVal (bmOf K C) = true := by
 unfold xclsIn at q
 split at q
 · rename_i dd cd sl ho
   split at q
   · rename_i C' bm k0 k1 k2 k3 n k5 hm hs
     simp only [Bool.and_eq_true, beq_iff_eq, Bool.not_eq_true'] at q
     obtain ⟨⟨⟨⟨⟨⟨⟨⟨⟨rfl, hdel⟩, hhd⟩, rfl⟩, hv⟩, hb⟩, hob⟩, hA⟩, hN⟩, ho'⟩ := q
     have eb : bmOf K C' = bm := by
       unfold bmOf
       rw [ho]
       show cd.mro.tail = bm
       rw [hm]
       rfl
     obtain ⟨nm, bs, mro, ns, qn, hd, sn, sub, ab, col, del⟩ := cd
     dsimp only at hm hdel hhd
     subst hm hdel hhd
     have hsl : sl = #[k0, k1, k2, k3, some (.builtin "ValueError.__new__"), k5] := by
       obtain ⟨l⟩ := sl
       simp only at hs
       rw [hs]
     subst hsl
     rw [eb]
     exact ⟨⟨⟨nm, qn, ns, bs, sn, sub, ab, col, dd, k0, k1, k2, k3, k5, X _ _ ho⟩, hv, hb, hob, hA, hN⟩, ho'⟩
   · cases q
 · cases q
structure XCls (K : PySem.W.Frag) (C : Addr) : Prop where
 sh : xclsIn K C = true
 ga : PySem.W.findIn K (.ref C) "__getattribute__" = some (some (.builtin "BaseException.__getattribute__"))
 gh : PySem.W.findIn K (.ref C) "__getattr__" = some none
 sa : PySem.W.findIn K (.ref C) "__setattr__" = some (some (.builtin "object.__setattr__"))
 cl : PySem.W.findIn K (.ref C) "__class__" = some (some (.builtin "object.__class__"))
theorem rds_of {K : PySem.W.Frag} {M : Model} {h : Heap} {C : Addr} {name : Str} {r : Option Value} (X : K.In h) (e : PySem.W.findIn K (.ref C) name = some r) : Rds M h (typeLookup (.ref C) name) r := PySem.W.looks_findIn X e
theorem XCls.xc {K : PySem.W.Frag} {h : Heap} {C : Addr} (c : XCls K C) (X : K.In h) : XC h C (bmOf K C) := (xc_of X c.sh).1
theorem XCls.pass {K : PySem.W.Frag} {h : Heap} {C : Addr} (c : XCls K C) (X : K.In h) (self : Value) : refuseLoop self "__setattr__" (bmOf K C) = pure () := refuse_val self (xc_of X c.sh).2
section
variable {X : Cx} {pins : List (Addr × Obj)} {σ : St} {H : Hp} {s : Shared} {h' : Heap}
theorem aft {ch : List Addr} (I : Inv X pins σ H s) (a : Aft (frs X.stack) ch s.heap h') (hc : ∀ b ∈ ch, FpOk X pins H b) : Inv X pins σ H { s with heap := h' } := by
 have nS : ∀ b, b ≠ X.env.locals → b ∉ X.fs → b ∉ frs X.stack := fun b h1 h2 z => (List.mem_cons.mp (I.stkSub b z)).elim h1 h2
 refine I.step (g' := s.gens) (d' := s.drawn) (t' := s.toks) (ch := ch) (fun b hb => ?_) (fun b o h1 h2 h3 e _ => a.keep b o (nS b h1 h2) h3 e) (fun b o _ _ h3 e _ => a.slot b o h3 e) (fun _ _ _ _ n => n)
   (fun b o h3 e => ?_) (fun _ _ e => e) (fun _ _ _ e => e) (fun b ps e => ⟨#[], by rw [e]; simp⟩) (fun m hm => ?_) (fun b u e => ?_) I.bare
 · obtain ⟨_, f1, _, f3, f4, f5⟩ := hc b hb
   exact ⟨f3, f1, f4, f5⟩
 · obtain ⟨sl, q⟩ := a.slot b o h3 e
   exact ⟨_, q⟩
 · obtain ⟨o, es, ep, ho, r⟩ := hm
   obtain ⟨sl, q⟩ := a.slot _ o (fun z => (hc _ z).2.1 rfl) ho
   exact ⟨_, es, ep, q, r⟩
 · refine (I.hok b u e).stay (fun c v hb q => a.keep c v (fun z => ?_) (fun z => ?_) q) (fun _ q => q) fun _ _ q => q
   · rcases hb with rfl | hb
     · rw [I.stkFree c z] at e; cases e
     · rw [I.stkFree c z] at hb; cases hb
   · rcases hb with rfl | hb
     · rw [(hc c z).1] at e; cases e
     · rw [(hc c z).1] at hb; cases hb
theorem track {x : Addr} {o : HO} (I : Inv X pins σ H s) (f : FpOk X pins H x) (new : ObjOk X.prog X.w (upd H x o) s.heap x o) : Inv X pins σ (upd H x o) s := by
 obtain ⟨f0, f1, f2, f3, f4, f5⟩ := f
 have nx : ∀ b u, H b = some u → b ≠ x := fun b u e z => by rw [z, f0] at e; cases e
 refine ⟨I.ok, I.os, I.bare, ⟨I.base.keep, I.base.slot, fun b ob e n hx => ?_, I.base.there, fun b xs e => ?_, fun b ob u e => ?_, fun b ps e => ?_⟩, I.loc, I.cell, ?_, fun y c e => ?_, fun p hp => ?_, fun b u e => ?_, I.len⟩
 · have hb : b ≠ x := fun z => by
     rcases f3 with q | q
     · exact hx (z ▸ q)
     · exact absurd (Nat.lt_of_lt_of_le (Heap.lt_size e) (z ▸ q)) (Nat.lt_irrefl _)
   rw [upd_ne hb]
   exact I.base.free b ob e n hx
 · have q := I.base.tups b xs e
   rw [upd_ne (nx _ _ q)]
   exact q
 · have q := I.base.frzs b ob u e
   rw [upd_ne (nx _ _ q)]
   exact q
 · obtain ⟨more, q⟩ := I.base.tbls b ps e
   exact ⟨more, by rw [upd_ne (nx _ _ q)]; exact q⟩
 · rw [upd_ne (Ne.symm f1)]
   exact I.free
 · rw [upd_ne (f4 y c e)]
   exact I.freeC y c e
 · obtain ⟨e, n, ne, nf, d⟩ := I.pin p hp
   exact ⟨e, by rw [upd_ne (f5 p hp)]; exact n, ne, nf, d⟩
 · by_cases hb : b = x
   · subst hb
     rw [upd_same] at e
     cases e
     exact new
   · rw [upd_ne hb] at e
     exact (I.hok b u e).stay (fun _ _ _ q => q) (fun c q => by rw [upd_ne (nx _ _ q)]; exact q) fun c xs q => by rw [upd_ne (nx _ _ q)]; exact q
end
structure ExIn (X : Cx) (pins : List (Addr × Obj)) (H : Hp) (s : Shared) (x : Addr) (C : Value) (dx : Option Addr) : Prop where
 own : FpOk X pins H x
 tr : Rec s.heap x C dx .none ∨ ∃ T fl, Rec s.heap x C dx (.ref T) ∧ T ≠ x ∧ Tra s.heap T fl ∧ FpOk X pins H T
def XeIs (X : Cx) (R : St → Prop) (Ek : XK) : Prop :=
 ∀ (pins : List (Addr × Obj)) (σ : St) (H : Hp) (s : Shared) (x : Addr) (C : Value) (dx : Option Addr), Inv X pins σ H s → R σ → ExIn X pins H s x C dx → Ek C dx H → X.xe (.ref x) s
def CX1 (P : Program) (w : World) : CXT := fun outer H s E e s' =>
 ∃ (x : Addr) (C : Value) (dx : Option Addr) (T : Addr) (H' : Hp), e = .ref x ∧ s'.os = s.os ∧ AllBare s'.gens ∧ Un (frs outer) [] H H' s.heap s'.heap ∧ HOk P w H' s'.heap ∧ (s.heap.objs.size ≤ x ∧ H' x = none) ∧ (s.heap.objs.size ≤ T ∧ H' T = none) ∧ T ≠ x ∧
   Rec s'.heap x C dx (.ref T) ∧ Tra s'.heap T .none ∧ E C dx H'
section
variable {X : Cx}
theorem pass1 {R : St → Prop} {E : XK} (hx : XeIs X R E) {pins : List (Addr × Obj)} {σ : St} {H : Hp} {s : Shared} {e : Value} {s' : Shared} (I : Inv X pins σ H s) (r : R σ) (h : CX1 X.prog X.w X.stack H s E e s') : X.xe e s' := by
 obtain ⟨x, C, dx, T, H', rfl, os, bare, un, hok, ⟨x1, x2⟩, ⟨t1, t2⟩, ne, rc, tr, q⟩ := h
 have I' : Inv X pins σ H' s' := I.call' os un hok bare (ch := []) (fun _ z => nomatch z)
 exact hx pins σ H' s' x C dx I' r ⟨I.fpOk x1 x2, .inr ⟨T, _, rc, ne, tr, I.fpOk t1 t2⟩⟩ q
end
theorem xe_def {P : Program} {w : World} {K : PySem.W.Frag} {mg : Str → Option Value} {base : Heap} {cm : Bool} {N : List Str} {qual : Str} {scope : Scope} {f : Addr} {cd : Value} {A : Around} {outer : List Env} {s : Shared} {H : Hp} {E : XK} :
   XeIs (cxOf (CX1 P w) cm P w K mg base N qual scope f cd A outer s H E) (fun _ => True) E := by
 intro pins σ H1 s1 x C dx I _ ex e
 show wpAny (model P w) (A.deeper (envOfC qual scope s.heap.objs.size f cd)) (leaving (envOfC qual scope s.heap.objs.size f cd) (.ref x)) (fun _ s2 => CX1 P w outer H s E (.ref x) s2) (fun e' s2 => CX1 P w outer H s E e' s2) s1
 have fin : ∀ (T : Addr) (h2 : Heap), Inv (cxOf (CX1 P w) cm P w K mg base N qual scope f cd A outer s H E) pins σ H1 { s1 with heap := h2 } → s.heap.objs.size ≤ T → H1 T = none → T ≠ x → Rec h2 x C dx (.ref T) → Tra h2 T .none → CX1 P w outer H s E (.ref x) { s1 with heap := h2 } := by
   intro T h2 J t1 t2 ne r t
   obtain ⟨f0, _, _, f3, _⟩ := ex.own
   have x1 : s.heap.objs.size ≤ x := f3.elim (fun z => absurd (show x ∈ ([] : List Addr) from z) (by simp)) id
   exact ⟨x, C, dx, T, H1, rfl, J.os, J.bare, J.base, J.hok, ⟨x1, f0⟩, ⟨t1, t2⟩, ne, r, t, e⟩
 unfold leaving
 rcases ex.tr with r | ⟨T0, fl0, r, ne0, t0, f0⟩
 · refine wpAny_bind (note_new I.ok.frames I.stack rfl r fun h' T a sz r' t' => ?_)
   have xT : T ≠ x := by
     obtain ⟨oe, _, he, _⟩ := r
     exact fun z => absurd (Nat.lt_of_lt_of_le (Heap.lt_size he) (z ▸ sz)) (Nat.lt_irrefl _)
   have hT := I.hok.fresh sz
   have I1 := aft I a (by intro b hb; have : b = x := by simpa using hb
                          subst this; exact ex.own)
   refine flight_none r' xT t' fun h2 a2 r2 t2 => ?_
   have I2 := aft (h' := h2) I1 (a2.mono (by simp) fun _ z => z) (by intro b hb; have : b = T := by simpa using hb
                                                                     subst this; exact I.fpOk sz hT)
   exact fin T h2 I2 (Nat.le_trans I.sz sz) hT xT r2 t2
 · refine wpAny_bind (note_any I.ok.frames I.stack rfl r ne0 t0 fun h' T fl' a sz r' t' => ?_)
   have xT : T ≠ x := by
     obtain ⟨oe, _, he, _⟩ := r
     rcases sz with z0 | z0
     · rw [z0]; exact ne0
     · exact fun z => absurd (Nat.lt_of_lt_of_le (Heap.lt_size he) (z ▸ z0)) (Nat.lt_irrefl _)
   have fT : FpOk (cxOf (CX1 P w) cm P w K mg base N qual scope f cd A outer s H E) pins H1 T := by
     rcases sz with z0 | z0
     · rw [z0]; exact f0
     · exact I.fpOk z0 (I.hok.fresh z0)
   have I1 := aft I a (by intro b hb
                          rcases (show b = x ∨ b = T0 by simpa using hb) with z | z
                          · subst z; exact ex.own
                          · subst z; exact f0)
   refine flight_none r' xT t' fun h2 a2 r2 t2 => ?_
   have I2 := aft (h' := h2) I1 (a2.mono (by simp) fun _ z => z) (by intro b hb; have : b = T := by simpa using hb
                                                                     subst this; exact fT)
   obtain ⟨g0, _, _, g3, _⟩ := fT
   exact fin T h2 I2 (g3.elim (fun z => absurd (show T ∈ ([] : List Addr) from z) (by simp)) id) g0 xT r2 t2
end L2
namespace L2
open PySem PySem.Spec PyProof.Rows L3
section
variable {X : Cx} {x : Str} {C : Addr} {np cpos pos : Pos} {e : Expr} {es : List Expr} {ta : TA} {R : St → Prop} {Ek : XK}
end
def tCallR (R : St → Prop) (sp : Sp) (dvs : List V) (E : XK) (t : TA) : TE := fun σ H Q => t σ H fun vs H1 => R σ ∧ sp (vs ++ dvs) H1 Q E
def tMethR (R : St → Prop) (C : Addr) (m : Str) (sp : Sp) (dvs : List V) (E : XK) (ta : TE) (t : TA) : TE := fun σ H Q => ta σ H fun x H1 => ∃ a dx fs, x = .ref a ∧ H1 a = some (.ins C dx fs) ∧ fs.lookup m = none ∧
 t σ H1 fun vs H2 => R σ ∧ sp (x :: (vs ++ dvs)) H2 Q E
section
variable {X : Cx} {cm : Bool} {k : Nat} {f C : Addr} {fd : FuncData} {ps : List Str} {sp : Sp} {dvs : List V} {ds : List Value} {E : XK} {R : St → Prop} {x m : Str} {p pos apos : Pos} {e o : Expr} {es : List Expr} {ta : TE} {t : TA}
theorem run_fnR {pins : List (Addr × Obj)} {σ : St} {H : Hp} {s : Shared} {Q : VK} {us : List Value} {vs : List V} (F : FnOk X.prog X.w X.K X.mg X.base (CX1 X.prog X.w) cm k f fd ps sp) (hr : Room cm k X.A) (hb : Binds X.K fd ps ds) (hd : Vals dvs ds) (hx : XeIs X R E)
   (I : Inv X pins σ H s) (r : Vals vs us) (hR : R σ) (h : sp (vs ++ dvs) H Q E) : wpAny (model X.prog X.w) X.A (call (.ref f) us) (EP X pins σ Q) X.xe s := by
 have r2 : Vals (vs ++ dvs) (us ++ ds) := r.append hd
 have hl : (us ++ ds).length = ps.length := by rw [← r2.length]; exact F.len _ _ _ _ h
 refine wpAny_call (codeAny_mono (F.run X.A X.stack s H ⟨us, []⟩ (us ++ ds) (vs ++ dvs) Q E hr I.env0 (hb s us I.kIn hl) r2 h) fun r s' hq => ?_)
 cases r with
 | error e => exact pass1 hx I hR hq
 | ok fl =>
   cases fl with
   | ret u => exact I.after hq
   | next => exact False.elim hq
   | brk => exact False.elim hq
   | cont => exact False.elim hq
theorem pe_callR (F : FnOk X.prog X.w X.K X.mg X.base (CX1 X.prog X.w) cm k f fd ps sp) (hr : Room cm k X.A) (hg : Gl X x) (hm : X.mg x = some (.ref f)) (hk : PySem.W.keepIn X.K (.ref f) = true) (hb : Binds X.K fd ps ds) (hd : Vals dvs ds) (hx : XeIs X R E)
   (ha : PA X (e :: es) t) (hdb : (x == ("__debug__" : Str)) = false := by decide) (he : starEach (e :: es) X.env = (false, eval e X.env) :: starEach es X.env := by rfl) (hpl : (backTo pos (starEach es X.env)).any (·.1) = false := by rfl) :
   PE X (.Call (.Name x p) (e :: es) [] pos) (tCallR R sp dvs E t) := by
 intro pins s σ H Q I h
 refine wpAny_Call_Name_kw (ld_glob I hg hm ?_ hdb)
 refine PySem.W.callWith_K (h₀ := X.base) I.ok.mod.kin hk (thn (ha pos pins s σ H _ I h) fun us s1 ⟨vs, H1, I1, r, hR, q⟩ => ⟨I1.kIn, ?_⟩) he hpl
 exact run_fnR F hr hb hd hx I1 r hR q
theorem pe_methR {pl : Sem Bool} (he : PE X o ta) (c : Cls X.K C) (hm : Meth X.K C m f) (F : FnOk X.prog X.w X.K X.mg X.base (CX1 X.prog X.w) cm k f fd ps sp) (hr : Room cm k X.A) (hb : Binds X.K fd ps ds) (hd : Vals dvs ds) (hx : XeIs X R E) (ha : PA X (e :: es) t)
   (hst : starEach (e :: es) X.env = (false, eval e X.env) :: starEach es X.env := by rfl) (hpl : (backTo pos (starEach es X.env)).any (·.1) = false := by rfl)
   (ht : eval (.Call (.Attribute o m apos) (e :: es) [] pos) X.env = (do
     let ov ← eval o X.env
     standAt apos.atName
     let (f, first) ← holding [ov] (getMethod ov m pl)
     callWith pos f first (backTo pos (starEach (e :: es) X.env)) (backToKw pos (keywordEach [] X.env))) := by rfl) :
   PE X (.Call (.Attribute o m apos) (e :: es) [] pos) (tMethR R C m sp dvs E ta t) := by
 intro pins s σ H Q I h
 refine PySem.W.methodCall_KW (pl := pl) (thn (he pins s σ H _ I h) fun u s1 ⟨x, H1, I1, rx, a, dx, fs, ex, ea, l, q⟩ => ?_) ht
 subst ex
 obtain rfl : u = Value.ref a := rx
 refine getmeth_ok I1 ea c hm l ?_
 refine PySem.W.callWith_K (first := [.ref a]) (h₀ := X.base) I.ok.mod.kin hm.kp (thn (ha pos pins s1 σ H1 _ I1 q) fun us s2 ⟨vs, H2, I2, r, hR, q2⟩ => ⟨I2.kIn, ?_⟩) hst hpl
 exact run_fnR (us := .ref a :: us) (vs := .ref a :: vs) F hr hb hd hx I2 (.cons rfl r) hR q2
end
structure FunD (K : PySem.W.Frag) (x qual : Str) (st : Stmt) (f : Addr) (fd : FuncData) (dV : Value) : Prop where
 ex : ∃ (oc : Value) (od : Option Addr) (kV doc pm : Value) (an : Option Addr) (cdv ct : Value) (osl : Array (Option Value)),
   fd = PySem.W.fnOf x qual (defArgs st) (defBody st) (defScope st) dV kV doc pm an cdv ct ∧ K.lookup f = some ⟨oc, od, .func fd, osl⟩ ∧ PySem.W.codeIn K cdv qual = true
 kp : PySem.W.keepIn K (.ref f) = true
section
variable {P : Program} {w : World} {K : PySem.W.Frag} {mg : Str → Option Value} {base : Heap} {cm : Bool}
theorem FunD.okX {x qual : Str} {st : Stmt} {f : Addr} {fd : FuncData} {dV : Value} {N ps : List Str} {k : Nat} {sp : Sp} (F : FunD K x qual st f fd dV) (S : FnScope N ps (defScope st)) (len : ∀ vs H Q E, sp vs H Q E → vs.length = ps.length)
   (hbody : ∀ (cdv : Value) (A : Around) (outer : List Env) (s : Shared) (H : Hp) (vs : List V) (Q : VK) (E : XK), Room cm k (A.deeper (envOfC qual (defScope st) s.heap.objs.size f cdv)) → sp vs H Q E →
     ∃ t, PSs (cxOf (CX1 P w) cm P w K mg base N qual (defScope st) f cdv A outer s H E) (defBody st) t ∧ t { nx := fun _ H' => Q .non H', rt := Q } (start N vs) H) : FnOk P w K mg base (CX1 P w) cm (k + 1) f fd ps sp := by
 obtain ⟨oc, od, kV, doc, pm, an, cdv, ct, osl, rfl, lk, hcd⟩ := F.ex
 exact fn_of lk hcd S len fun A outer s H vs Q E hr hsp => hbody cdv A outer s H vs Q E hr hsp
theorem FunD.ok {x qual : Str} {st : Stmt} {f : Addr} {fd : FuncData} {dV : Value} {N ps : List Str} {k : Nat} {sp : Sp} (F : FunD K x qual st f fd dV) (S : FnScope N ps (defScope st)) (len : ∀ vs H Q E, sp vs H Q E → vs.length = ps.length)
   (hbody : ∀ (cdv : Value) (A : Around) (outer : List Env) (s : Shared) (H : Hp) (vs : List V) (Q : VK) (E : XK), Room cm k (A.deeper (envOfC qual (defScope st) s.heap.objs.size f cdv)) → sp vs H Q E →
     ∃ t, PSs (cxOf CX0 cm P w K mg base N qual (defScope st) f cdv A outer s H E).nox (defBody st) t ∧ t { nx := fun _ H' => Q .non H', rt := Q } (start N vs) H) : FnOk P w K mg base CX0 cm (k + 1) f fd ps sp := by
 obtain ⟨oc, od, kV, doc, pm, an, cdv, ct, osl, rfl, lk, hcd⟩ := F.ex
 refine fn_of lk hcd S len fun A outer s H vs Q E hr hsp => ?_
 obtain ⟨t, h, q⟩ := hbody cdv A outer s H vs Q E hr hsp
 exact ⟨t, h.nox, q⟩
theorem FunD.binds {x qual : Str} {st : Stmt} {f : Addr} {fd : FuncData} {dV : Value} {ps : List Str} (F : FunD K x qual st f fd dV)
   (h : ∀ (kV doc pm : Value) (an : Option Addr) (cdv ct : Value) (us : List Value), us.length = ps.length → bindArgs (PySem.W.fnOf x qual (defArgs st) (defBody st) (defScope st) dV kV doc pm an cdv ct) ⟨us, []⟩ = pure (ps.zip us)) : Binds K fd ps [] := by
 obtain ⟨oc, od, kV, doc, pm, an, cdv, ct, osl, rfl, lk, hcd⟩ := F.ex
 exact .all (h kV doc pm an cdv ct)
theorem funD_mk {x qual : Str} {st : Stmt} {f : Addr} {oc dV : Value} {od an : Option Addr} {osl : Array (Option Value)} {kV doc pm cdv ct : Value} (l : K.lookup f = some ⟨oc, od, .func (PySem.W.fnOf x qual (defArgs st) (defBody st) (defScope st) dV kV doc pm an cdv ct), osl⟩)
   (c : PySem.W.codeIn K cdv qual = true) (k : PySem.W.keepIn K (.ref f) = true) : FunD K x qual st f (PySem.W.fnOf x qual (defArgs st) (defBody st) (defScope st) dV kV doc pm an cdv ct) dV := ⟨⟨oc, od, kV, doc, pm, an, cdv, ct, osl, rfl, l, c⟩, k⟩
end
end L2
namespace L2
open PySem PySem.Spec PyProof.Rows L3
abbrev into (X : Cx) (pn : List (Addr × Obj)) (E : Value → Shared → Prop) : Cx := { X with pn := pn, xe := E }
abbrev sup (X : Cx) (x : Addr) : Cx := { X with A := X.A.mark (some (.ref x)), calm := false, xe := fun _ _ => False }
def excO (x : Addr) (C : Value) (dx : Option Addr) : HO := .ext fun h => ∃ o vs, h.get? x = some o ∧ o.cls = C ∧ o.dict = dx ∧ o.data = .fields vs
theorem excO_ok {P : Program} {w : World} {H : Hp} {h : Heap} {x : Addr} {C : Value} {dx : Option Addr} {tb : Value} (r : Rec h x C dx tb) : ObjOk P w H h x (excO x C dx) := by
 obtain ⟨oe, vs, he, hc, hd, hf, _⟩ := r
 refine ⟨⟨oe, vs, he, hc, hd, hf⟩, ⟨oe, he⟩, fun h1 h2 z k => ?_⟩
 obtain ⟨o, vs, e, q⟩ := z
 exact ⟨o, vs, k o e, q⟩
theorem excO_get {P : Program} {w : World} {H : Hp} {h : Heap} {x : Addr} {C : Value} {dx : Option Addr} (hok : HOk P w H h) (e : H x = some (excO x C dx)) : ∃ o vs, h.get? x = some o ∧ o.cls = C ∧ o.dict = dx ∧ o.data = .fields vs := by
 obtain ⟨q, _⟩ := (show ObjOk P w H h x (excO x C dx) from hok x _ e)
 exact q
section
variable {X : Cx} {pins pins' : List (Addr × Obj)} {σ : St} {H : Hp} {s : Shared} {E : Value → Shared → Prop} {D : Ends}
theorem ok_into (ok : X.Ok) (pn : List (Addr × Obj)) (E : Value → Shared → Prop) : (into X pn E).Ok :=
 ⟨ok.mod, ok.kind, ok.glob, ok.blt, ok.above, ok.inj, ok.has, ok.cab, ok.hd, ok.frames, ok.stk, ok.exf, ok.bs, ok.bsz, ok.noex, ok.exfs, ok.funs, ok.frf⟩
theorem ok_outof {pn : List (Addr × Obj)} (ok : (into X pn E).Ok) : X.Ok :=
 ⟨ok.mod, ok.kind, ok.glob, ok.blt, ok.above, ok.inj, ok.has, ok.cab, ok.hd, ok.frames, ok.stk, ok.exf, ok.bs, ok.bsz, ok.noex, ok.exfs, ok.funs, ok.frf⟩
theorem inv_into (I : Inv X pins σ H s) (E : Value → Shared → Prop) : Inv (into X (X.pn ++ pins) E) [] σ H s :=
 ⟨ok_into I.ok _ E, I.os, I.bare, I.base, I.loc, I.cell, I.free, I.freeC, fun p hp => I.pin p (by simpa using hp), I.hok, I.len⟩
theorem inv_outof (I : Inv (into X (X.pn ++ pins) E) pins' σ H s) : Inv X pins σ H s :=
 ⟨ok_outof I.ok, I.os, I.bare, I.base, I.loc, I.cell, I.free, I.freeC, fun p hp => I.pin p (List.mem_append_left _ hp), I.hok, I.len⟩
theorem ok_sup (ok : X.Ok) (x : Addr) : (sup X x).Ok :=
 ⟨ok.mod, ok.kind, ok.glob, ok.blt, ok.above, ok.inj, ok.has, ok.cab, fun z => (by cases z), ok.frames, ok.stk, ok.exf, ok.bs, ok.bsz, ok.noex, ok.exfs, ok.funs, ok.frf⟩
theorem inv_sup (I : Inv X pins σ H s) (x : Addr) : Inv (sup X x) pins σ H s := ⟨ok_sup I.ok x, I.os, I.bare, I.base, I.loc, I.cell, I.free, I.freeC, I.pin, I.hok, I.len⟩
theorem inv_unsup {x : Addr} (ok : X.Ok) (I : Inv (sup X x) pins σ H s) : Inv X pins σ H s := ⟨ok, I.os, I.bare, I.base, I.loc, I.cell, I.free, I.freeC, I.pin, I.hok, I.len⟩
theorem sp_outof {f : Flow} {s' : Shared} (h : SP (into X (X.pn ++ pins) E) [] D f s') : SP X pins D f s' := by
 cases f with
 | next => obtain ⟨σ', H', I, q⟩ := h; exact ⟨σ', H', inv_outof I, q⟩
 | brk => obtain ⟨σ', H', I, q⟩ := h; exact ⟨σ', H', inv_outof I, q⟩
 | cont => obtain ⟨σ', H', I, q⟩ := h; exact ⟨σ', H', inv_outof I, q⟩
 | ret u => obtain ⟨v, σ', H', I, r, q⟩ := h; exact ⟨v, σ', H', inv_outof I, r, q⟩
theorem fp_outof {b : Addr} (f : FpOk (into X (X.pn ++ pins) E) pins' H b) : FpOk X pins H b := by
 obtain ⟨f0, f1, f2, f3, f4, f5⟩ := f
 exact ⟨f0, f1, f2, f3, f4, fun p hp => f5 p (List.mem_append_left _ hp)⟩
theorem unbind_ok {M : Model} {A : Around} {i : Nat} {n : Str} {pos : Pos} {Q : Unit → Shared → Prop} (I : Inv X pins σ H s) (hN : X.N.Nodup) (hi : X.N[i]? = some n) (hl : X.env.scope.names.lookup n = some .local)
   (h : ∀ s', Inv X pins (σ.set i none) H s' → Q () s') : wpAny M A (do bindName X.env n .none; unbindBehindTheSuite X.env n pos) Q E s := by
 obtain ⟨m, hn, hlk⟩ := id I.loc
 have hcls : (X.env.scope.kind == .class || (X.env.scope.kind == .module && X.env.locals != X.env.globals)) = false := by rw [I.ok.kind]; rfl
 obtain ⟨oL, _, _, hoL, _⟩ := id hn
 have lt : ∀ b o, X.s₀.heap.get? b = some o → b ≠ X.env.locals := fun b o e => Nat.ne_of_lt (Nat.lt_of_lt_of_le (Heap.lt_size e) I.ok.above)
 refine wpAny_nameGoes_keeps hl hn hcls fun h' v hn' hs => h _ ⟨I.ok, I.os, I.bare, ⟨fun b o e n hb hx => ?_, fun b o e n hb hx => ?_, I.base.free, fun b o e hx => ?_, I.base.tups, I.base.frzs, I.base.tbls⟩, ⟨_, hn', fun j y v' e1 e2 e3 => ?_⟩, fun y c e => ?_, I.free, I.freeC, fun p hp => ?_, fun b u e => ?_, by simpa using I.len⟩
 · exact (hs.2 b (lt b o e)).trans (I.base.keep b o e n hb hx)
 · obtain ⟨sl, e1⟩ := I.base.slot b o e n hb hx
   exact ⟨sl, (hs.2 b (lt b o e)).trans e1⟩
 · obtain ⟨o', e1⟩ := I.base.there b o e hx
   exact ⟨o', (hs.2 b (lt b o e)).trans e1⟩
 · by_cases hj : j = i
   · subst hj
     have hiσ : j < σ.length := by rw [I.len]; exact (List.getElem?_eq_some_iff.mp hi).1
     rw [List.getElem?_set_self hiσ] at e2
     cases e2
   · rw [List.getElem?_set_ne (Ne.symm hj)] at e2
     obtain ⟨u', r', q⟩ := hlk j y v' e1 e2 e3
     refine ⟨u', r', ?_⟩
     rcases q with ⟨k, e⟩ | ⟨k, c, e, z⟩
     · refine .inl ⟨k, ?_⟩
       have : y ≠ n := fun e => hj (nodup_ix hN e1 (e ▸ hi))
       simp [this, e]
     · exact .inr ⟨k, c, e, z.sameBut hs (I.cne y c e)⟩
 · obtain ⟨w', z⟩ := I.cell y c e
   exact ⟨w', z.sameBut hs (I.cne y c e)⟩
 · obtain ⟨e, n, ne, nf, d⟩ := I.pin p hp
   exact ⟨(hs.2 p.1 ne).trans e, n, ne, nf, d⟩
 · refine (I.hok b u e).stay (fun c w' hc q => (hs.2 c ?_).trans q) (fun _ q => q) fun _ _ q => q
   rintro rfl
   rcases hc with rfl | hc
   · rw [I.free] at e; cases e
   · rw [I.free] at hc; cases hc
end
def tTry (K : PySem.W.Frag) (CB : Addr) (i : Nat) (tb : (St → Prop) → XK → TS) (ts : TS) : TS := fun D σ H =>
 tb (fun σ' => σ' = σ) (fun C dx H' => PySem.W.exmOne K C (.ref CB) = some true ∧ ∀ x, H' x = none →
   ts { nx := fun σ2 H2 => D.nx (σ2.set i none) H2, rt := D.rt, bk := fun σ2 H2 => D.bk (σ2.set i none) H2, ct := fun σ2 H2 => D.ct (σ2.set i none) H2 } (σ.set i (some (.ref x))) (upd H' x (excO x C dx))) D σ H
section
variable {X : Cx}
theorem ps_try {body suite : List Stmt} {b0 : Stmt} {y n : Str} {np hpos pos : Pos} {CB : Addr} {i : Nat} {tb : (St → Prop) → XK → TS} {ts : TS} (hN : X.N.Nodup) (hi : X.N[i]? = some n) (hl : X.env.scope.names.lookup n = some .local)
   (hst : X.stack = X.env :: X.outer) (hfr : X.env.frame = some X.env.locals) (hg : Gl X y) (hm : X.mg y = some (.ref CB))
   (hb : ∀ (pn : List (Addr × Obj)) (E : Value → Shared → Prop) (R : St → Prop) (Ek : XK), PassesOwn (model X.prog X.w) X.A X.env E → XeIs (into X pn E) R Ek → PSs (into X pn E) body (tb R Ek)) (hs : ∀ x, PSs (sup X x) (b0 :: suite) ts)
   (hdb : (y == ("__debug__" : Str)) = false := by decide) : PS X (.Try body [.ExceptHandler (some (.Name y np)) (some n) (b0 :: suite) hpos] [] [] pos) (tTry X.K CB i tb ts) := by
 intro pins s σ H D I h
 refine wpAny_Try_except ?_
 have hxe : XeIs (into X (X.pn ++ pins) (fun e s1 => wpAny (model X.prog X.w) X.A (noteFrame e X.env) (fun _ s2 => wpAny (model X.prog X.w) X.A (setFlight e none)
     (fun _ s3 => wpAny (model X.prog X.w) X.A (handleBy e X.env [.ExceptHandler (some (.Name y np)) (some n) (b0 :: suite) hpos]) (SP X pins D) X.xe s3) X.xe s2) X.xe s1)) (fun σ' => σ' = σ)
     (fun C dx H' => PySem.W.exmOne X.K C (.ref CB) = some true ∧ ∀ x, H' x = none →
       ts { nx := fun σ2 H2 => D.nx (σ2.set i none) H2, rt := D.rt, bk := fun σ2 H2 => D.bk (σ2.set i none) H2, ct := fun σ2 H2 => D.ct (σ2.set i none) H2 } (σ.set i (some (.ref x))) (upd H' x (excO x C dx))) := by
   rintro pins' σ' H' s' x C dx I' rfl ex ⟨hmt, hsu⟩
   have I1 : Inv X pins σ' H' s' := inv_outof I'
   have own : FpOk X pins H' x := fp_outof ex.own
   -- behind noteFrame and setFlight
   have fin : ∀ (T : Addr) (s3 : Shared), Inv X pins σ' H' s3 → FpOk X pins H' T → T ≠ x → Rec s3.heap x C dx (.ref T) → Tra s3.heap T .none →
       wpAny (model X.prog X.w) X.A (handleBy (.ref x) X.env [.ExceptHandler (some (.Name y np)) (some n) (b0 :: suite) hpos]) (SP X pins D) X.xe s3 := by
     intro T s3 I3 fT ne r3 t3
     have LT : PySem.W.Looks (model X.prog X.w) s3.heap (typeOf (.ref x)) C := by
       obtain ⟨oe, vs, he, hc, _⟩ := id r3
       exact hc ▸ (PySem.W.Looks.ld he).andThen .now
     refine wpAny_handleBy_cons (codeAny_handlers_test (ld_glob (X := sup X x) (inv_sup I3 x) hg hm ((PySem.W.exm_one I3.kIn LT hmt).here ?_) hdb)) (by intro z; cases z)
     show codeAny _ _ (.handlers (.ref x) [.ExceptHandler none (some n) (b0 :: suite) hpos] X.env) _ s3
     refine codeAny_handlers_suite_as (flight_none r3 ne t3 fun h4 a4 r4 t4 => ?_)
     have I4 : Inv X pins σ' H' { s3 with heap := h4 } := aft I3 (a4.mono (by simp) fun _ z => z) (by intro b hb; have : b = T := by simpa using hb
                                                                                                      subst this; exact fT)
     have I5 := track (o := excO x C dx) I4 own (excO_ok r4)
     refine store_ok (X := sup X x) (inv_sup I5 x) hN hi (.inl hl) (v := .ref x) rfl (fun s6 I6 => ?_) (.inr hl)
     refine wpAny_mono (hs x pins s6 _ _ _ I6 (hsu x own.1)) (fun f s7 q => ?_) fun _ _ z => z.elim
     cases f with
     | next => obtain ⟨σ7, H7, I7, q7⟩ := q; exact unbind_ok (inv_unsup I.ok I7) hN hi hl fun s8 I8 => ⟨_, _, I8, q7⟩
     | brk => obtain ⟨σ7, H7, I7, q7⟩ := q; exact unbind_ok (inv_unsup I.ok I7) hN hi hl fun s8 I8 => ⟨_, _, I8, q7⟩
     | cont => obtain ⟨σ7, H7, I7, q7⟩ := q; exact unbind_ok (inv_unsup I.ok I7) hN hi hl fun s8 I8 => ⟨_, _, I8, q7⟩
     | ret u => obtain ⟨v7, σ7, H7, I7, r7, q7⟩ := q; exact unbind_ok (inv_unsup I.ok I7) hN hi hl fun s8 I8 => ⟨v7, _, _, I8, r7, q7⟩
   have fr : X.A.frames = some (X.env :: X.outer) := by rw [I1.ok.frames, hst]
   have stk : s'.heap.FunFrames X.base (X.env :: X.outer) := by rw [← hst]; exact I1.stack
   have big : ∀ {T : Addr}, s'.heap.objs.size ≤ T → (∃ tb, Rec s'.heap x C dx tb) → T ≠ x := fun sz ⟨_, oe, _, he, _⟩ z => absurd (Nat.lt_of_lt_of_le (Heap.lt_size he) (z ▸ sz)) (Nat.lt_irrefl _)
   rcases ex.tr with r | ⟨T0, fl0, r, ne0, t0, f0⟩
   · refine note_new fr stk hfr r fun h' T a sz r' t' => ?_
     have J1 := aft I1 (by rw [hst]; exact a) (by intro b hb; have : b = x := by simpa using hb
                                                  subst this; exact own)
     have ne := big sz ⟨_, r⟩
     have fT := I1.fpOk (H' := H') sz (I1.hok.fresh sz)
     refine flight_none r' ne t' fun h2 a2 r2 t2 => ?_
     exact fin T _ (aft (h' := h2) J1 (a2.mono (by simp) fun _ z => z) (by intro b hb; have : b = T := by simpa using hb
                                                                           subst this; exact fT)) fT ne r2 t2
   · refine note_any fr stk hfr r ne0 t0 fun h' T fl' a sz r' t' => ?_
     have J1 := aft I1 (by rw [hst]; exact a) (by intro b hb
                                                  rcases (show b = x ∨ b = T0 by simpa using hb) with z | z
                                                  · subst z; exact own
                                                  · subst z; exact fp_outof f0)
     have ne : T ≠ x := by
       rcases sz with z0 | z0
       · rw [z0]; exact ne0
       · exact big z0 ⟨_, r⟩
     have fT : FpOk X pins H' T := by
       rcases sz with z0 | z0
       · rw [z0]; exact fp_outof f0
       · exact I1.fpOk (H' := H') z0 (I1.hok.fresh z0)
     refine flight_none r' ne t' fun h2 a2 r2 t2 => ?_
     exact fin T _ (aft (h' := h2) J1 (a2.mono (by simp) fun _ z => z) (by intro b hb; have : b = T := by simpa using hb
                                                                           subst this; exact fT)) fT ne r2 t2
 refine wpAny_mono (hb (X.pn ++ pins) _ _ _ PassesOwn.looking hxe [] s σ H D (inv_into I _) h) (fun f s1 q => ?_) fun _ _ z => z
 have q' := sp_outof q
 cases f with
 | next => exact wpAny_execs_nil q'
 | brk => exact q'
 | cont => exact q'
 | ret u => exact q'
end
end L2
namespace L2
open PySem PySem.Spec PyProof.Rows L3
theorem kitx_exc {K : PySem.W.Frag} {x C : Addr} (T : XCls K C) : PySem.W.KitX K (.ref x) (.ref C) (fun h => ∃ o, h.get? x = some o ∧ o.cls = .ref C) where
 ty := fun M h _ p => by
   obtain ⟨o, e, c⟩ := p
   exact c ▸ (PySem.W.Looks.ld e).andThen .now
 it := fun M h X _ => by
   obtain ⟨⟨nm, q, N, bs, sn, sub, ab, col, dd, k0, k1, k2, k3, k5, cC⟩, _⟩ := T.xc X
   intro A Q E s k z
   unfold isType loadHead
   exact wpAny_bind (wpAny_loadPart (k _ _ cC) (wpAny_pure z))
 ne := fun h tp dd its n sl X htp => by
   obtain ⟨⟨nm, q, N, bs, sn, sub, ab, col, dd', k0, k1, k2, k3, k5, cC⟩, _⟩ := T.xc X
   refine Bool.eq_false_iff.mpr fun z => ?_
   have e : C = tp := Value.ref.inj (beq_iff_eq.mp z)
   subst e
   rw [cC] at htp
   have z2 := congrArg Obj.data (Option.some.inj htp)
   cases z2
 ca := fun {P w A E Q s} X p k => by
   obtain ⟨o, e, c⟩ := p
   obtain ⟨h, g, d, t, os⟩ := s
   exact cls_attr PySem.F.excAttr_ValueError (T.xc X) (rds_of X T.ga) (rds_of X T.gh) (rds_of X T.cl) e c k
inductive TyX (K : PySem.W.Frag) (H : Hp) : V → Value → Prop where
 | of {x : V} {t : Value} (e : TyOf K H x t) : TyX K H x t
 | exc {a C : Addr} {dx : Option Addr} (e : H a = some (excO a (.ref C) dx)) (T : XCls K C) : TyX K H (.ref a) (.ref C)
def clsV : V → Option Value
 | .ty n => some (.type n)
 | .ref a => some (.ref a)
 | _ => none
theorem clsV_is {c : V} {u t : Value} (e : clsV c = some u) (r : RelV c t) : t = u := by
 cases c with
 | ty n => cases e; exact r
 | ref a => cases e; exact r
 | _ => cases e
def rIs (K : PySem.W.Frag) : List V → Hp → VK → Prop := fun xs H Q => ∃ x c t u b, xs = [x, c] ∧ TyX K H x t ∧ clsV c = some u ∧ PySem.W.kitOne K t u = some b ∧ Q (.bl b) H
section
variable {X : Cx}
theorem call_is : CallR X (.builtin "isinstance") (rIs X.K) := by
 intro pins s σ H xs us Q I r h
 obtain ⟨x, c, t, u, b, rfl, ty, hc, e, q⟩ := h
 cases r with
 | cons r1 r2 =>
   cases r2 with
   | cons r2 r3 =>
     cases r3
     rename_i v1 v2
     rw [clsV_is hc r2]
     cases ty with
     | of ty => exact isinst_ok I r1 ty e fun tk => ⟨.bl b, H, I.tok _, rfl, q⟩
     | @exc a C dx ea T =>
       cases (show v1 = Value.ref a from r1)
       obtain ⟨o, vs, e1, e2, _⟩ := excO_get I.hok ea
       exact PySem.W.kia_one (kitx_exc T) I.kIn ⟨o, e1, e2⟩ e (fun z => nomatch z) fun tk => ⟨.bl b, H, I.tok _, rfl, q⟩
end
def tFldX (K : PySem.W.Frag) (ta : TE) (f : Str) : TE := fun σ H Q => ta σ H fun x H1 => ∃ a C dx fs v, x = .ref a ∧ H1 a = some (excO a (.ref C) (some dx)) ∧ H1 dx = some (.xd fs) ∧ XCls K C ∧ NoAttr K C f ∧ fs.lookup f = some v ∧ Q v H1
section
variable {X : Cx} {e : Expr} {f : Str} {pos : Pos} {ta : TE}
theorem pe_fldX (he : PE X e ta) (hb : attributeBase e f X.env (eval e X.env) = eval e X.env) : PE X (.Attribute e f pos) (tFldX X.K ta f) := by
 intro pins s σ H Q I h
 refine attr_of hb (thn (he pins s σ H _ I h) fun u s1 ⟨x, H1, I1, rx, a, C, dx, fs, v, ex, ea, ed, T, n, l, q⟩ => ?_)
 subst ex
 obtain rfl : u = Value.ref a := rx
 obtain ⟨o, vs, e1, e2, e3, e4⟩ := excO_get I1.hok ea
 obtain ⟨mA, hn, rel⟩ := (show ObjOk X.prog X.w H1 s1.heap dx (.xd fs) from I1.hok dx _ ed)
 obtain ⟨w', hw, rw'⟩ := RelO.some_of (v := v) (o := mA f) (by rw [← l]; exact rel f)
 obtain ⟨hp, g, d, t, os⟩ := s1
 exact get_attr PySem.F.excAttr_ValueError (T.xc I1.kIn) (rds_of I1.kIn T.ga) (rds_of I1.kIn T.gh) (rds_of I1.kIn n) e1 e2 e4 e3 hn hw (PySem.W.handedOut_of (handed_of rw')) ⟨v, H1, I1.tok _, rw', q⟩
end
end L2
namespace L2
open PySem PySem.Spec PyProof.Rows L3
def bareO (x : Addr) (C : Value) (dx : Option Addr) : HO := .ext fun h => ∃ t, h.get? x = some { cls := C, dict := dx, data := .fields #[.ref t, .none, .none, .none, .bool false, .none] }
theorem bareO_ok {P : Program} {w : World} {H : Hp} {h : Heap} {x t : Addr} {C : Value} {dx : Option Addr} (e : h.get? x = some { cls := C, dict := dx, data := .fields #[.ref t, .none, .none, .none, .bool false, .none] }) : ObjOk P w H h x (bareO x C dx) :=
 ⟨⟨t, e⟩, ⟨_, e⟩, fun h1 h2 ⟨t', z⟩ k => ⟨t', k _ z⟩⟩
theorem bareO_get {P : Program} {w : World} {H : Hp} {h : Heap} {x : Addr} {C : Value} {dx : Option Addr} (hok : HOk P w H h) (e : H x = some (bareO x C dx)) : ∃ t, h.get? x = some { cls := C, dict := dx, data := .fields #[.ref t, .none, .none, .none, .bool false, .none] } :=
 (show ObjOk P w H h x (bareO x C dx) from hok x _ e).1
theorem within_xd {fs : List (Str × V)} {mA : Str → Option Value} (rel : ∀ f, RelO (fs.lookup f) (mA f)) : PySem.Within mA (fs.map (·.1)) := fun g hg => by
 cases q : fs.lookup g with
 | none => exact absurd (RelO.none_of (by rw [← q]; exact rel g)) hg
 | some v => exact List.mem_map.mpr ⟨(g, v), PySem.mem_of_lookup q, rfl⟩
theorem rel_put {fs : List (Str × V)} {mA : Str → Option Value} {f : Str} {y : V} {u : Value} (rel : ∀ g, RelO (fs.lookup g) (mA g)) (ry : RelV y u) (g : Str) : RelO ((putF f y fs).lookup g) (if g = f then some u else mA g) := by
 rw [lookup_putF]
 by_cases q : g = f
 · rw [if_pos q, if_pos q]; exact ry
 · rw [if_neg q, if_neg q]; exact rel g
section
variable {X : Cx} {pins : List (Addr × Obj)} {σ : St} {H : Hp} {s : Shared} {A : Around} {E : Value → Shared → Prop} {a C : Addr} {f : Str} {y : V} {u : Value} {Q : Unit → Shared → Prop}
theorem setb_new (I : Inv X pins σ H s) (ea : H a = some (bareO a (.ref C) none)) (T : XCls X.K C) (n : NoAttr X.K C f) (ry : RelV y u)
   (h : ∀ d s', H d = none → d ≠ a → Inv X pins σ (upd (upd H d (.xd (putF f y []))) a (bareO a (.ref C) (some d))) s' → Q () s') : wpAny (model X.prog X.w) A (setAttr (.ref a) f u) Q E s := by
 obtain ⟨t, e0⟩ := bareO_get I.hok ea
 obtain ⟨hp, g, dr, tk, os⟩ := s
 have KX := I.kIn
 refine set_attr (mA := fun _ => none) (ns := []) PySem.F.store_ValueError (T.xc KX) (T.pass KX) (rds_of KX T.sa) (rds_of KX n) ⟨_, e0, rfl, (fun c z => nomatch z), .inl ⟨rfl, fun _ => rfl⟩⟩ (fun g hg => absurd rfl hg) (Nat.zero_le _) fun h' tk' st => ?_
 obtain ⟨⟨o', i1, i2, i3, i4⟩, keep, same, newd⟩ := st
 obtain ⟨o1, s1, s2, s3, s4, _⟩ := same _ e0
 obtain ⟨o2, n1, n2⟩ := newd _ e0 rfl
 have q1 : o2 = o1 := Option.some.inj (n1.symm.trans s1)
 have q2 : o' = o1 := Option.some.inj (i1.symm.trans s1)
 rw [q1] at n2
 rw [q2] at i4
 have hne : hp.objs.size ≠ a := Nat.ne_of_gt (Heap.lt_size e0)
 have hd : H hp.objs.size = none := I.hok.fresh (Nat.le_refl _)
 rcases i4 with ⟨z, _⟩ | ⟨d', z, z2, ns⟩
 · rw [n2] at z; cases z
 · rw [n2] at z
   cases z
   have e1 : h'.get? a = some { cls := .ref C, dict := some hp.objs.size, data := .fields #[.ref t, .none, .none, .none, .bool false, .none] } := by
     rw [s1]
     obtain ⟨oc, od, odt, osl⟩ := o1
     dsimp only at s2 s3 s4 n2
     subst s2 s3 s4 n2
     rfl
   have kp : ∀ b o, b ≠ a → hp.get? b = some o → h'.get? b = some o := fun b o hb e => keep b o hb (fun o0 dx q1 q2 => by rw [e0] at q1; cases q1; cases q2) e
   refine h hp.objs.size _ hd hne (I.step (g' := g) (d' := dr) (t' := tk') (ch := []) (fun _ z => nomatch z) (fun b o _ _ _ e nb => kp b o (fun z => by rw [z, ea] at nb; cases nb) e) (fun b o _ _ _ e nb => ⟨o.slots, kp b o (fun z => by rw [z, ea] at nb; cases nb) e⟩)
     (fun b o _ e nb => ?_) (fun b o _ e => ?_) (fun b xs e => ?_) (fun b o v e => ?_) (fun b ps e => ?_) (fun m hm => ?_) (fun b v e => ?_) I.bare)
   · rw [upd_ne (fun z => by rw [z, ea] at nb; cases nb), upd_ne (Nat.ne_of_lt (Heap.lt_size e))]
     exact nb
   · by_cases hb : b = a
     · exact ⟨_, hb ▸ e1⟩
     · exact ⟨o, kp b o hb e⟩
   · rw [upd_ne (fun z => by rw [z, ea] at e; cases e), upd_ne (ne_of_none e hd)]
     exact e
   · rw [upd_ne (fun z => by rw [z, ea] at e; cases e), upd_ne (ne_of_none e hd)]
     exact e
   · exact ⟨#[], by rw [upd_ne (fun z => by rw [z, ea] at e; cases e), upd_ne (ne_of_none e hd), e]; simp⟩
   · obtain ⟨o, es, ep, ho, r⟩ := hm
     exact ⟨o, es, ep, kp _ o (fun z => by have q := I.free; rw [z, ea] at q; cases q) ho, r⟩
   · by_cases hb : b = a
     · subst hb
       rw [upd_same] at e
       cases e
       exact bareO_ok e1
     · rw [upd_ne hb] at e
       by_cases hb2 : b = hp.objs.size
       · subst hb2
         rw [upd_same] at e
         cases e
         exact ⟨_, ns, fun g => rel_put (fs := []) (mA := fun _ => none) (fun _ => True.intro) ry g⟩
       · rw [upd_ne hb2] at e
         refine (I.hok b v e).stay (fun c o hc q => kp c o (fun z => ?_) q) (fun c q => ?_) fun c xs q => ?_
         · rcases hc with rfl | hc
           · exact hb z
           · rw [z, ea] at hc; cases hc
         · rw [upd_ne (fun z => by rw [z, ea] at q; cases q), upd_ne (ne_of_none q hd)]; exact q
         · rw [upd_ne (fun z => by rw [z, ea] at q; cases q), upd_ne (ne_of_none q hd)]; exact q
theorem setb_more {d : Addr} {fs : List (Str × V)} (I : Inv X pins σ H s) (ea : H a = some (bareO a (.ref C) (some d))) (ed : H d = some (.xd fs)) (T : XCls X.K C) (n : NoAttr X.K C f) (hl : fs.length < 1000) (ry : RelV y u)
   (h : ∀ s', Inv X pins σ (upd H d (.xd (putF f y fs))) s' → Q () s') : wpAny (model X.prog X.w) A (setAttr (.ref a) f u) Q E s := by
 obtain ⟨t, e0⟩ := bareO_get I.hok ea
 obtain ⟨mA, hn, rel⟩ := (show ObjOk X.prog X.w H s.heap d (.xd fs) from I.hok d _ ed)
 obtain ⟨hp, g, dr, tk, os⟩ := s
 have KX := I.kIn
 have hda : d ≠ a := fun z => by rw [z, ea] at ed; cases ed
 refine set_attr (mA := mA) (ns := fs.map (·.1)) PySem.F.store_ValueError (T.xc KX) (T.pass KX) (rds_of KX T.sa) (rds_of KX n) ⟨_, e0, rfl, (fun c z => nomatch z), .inr ⟨d, rfl, hda, hn⟩⟩ (within_xd rel) (by rw [List.length_map, sizeLine_eq]; omega) fun h' tk' st => ?_
 obtain ⟨⟨o', i1, i2, i3, i4⟩, keep, same, newd⟩ := st
 obtain ⟨o1, s1, s2, s3, s4, s5⟩ := same _ e0
 have n2 := s5 d rfl
 have q2 : o' = o1 := Option.some.inj (i1.symm.trans s1)
 rw [q2] at i4
 rcases i4 with ⟨z, _⟩ | ⟨d', z, z2, ns⟩
 · rw [n2] at z; cases z
 · rw [n2] at z
   cases z
   have e1 : h'.get? a = some { cls := .ref C, dict := some d, data := .fields #[.ref t, .none, .none, .none, .bool false, .none] } := by
     rw [s1]
     obtain ⟨oc, od, odt, osl⟩ := o1
     dsimp only at s2 s3 s4 n2
     subst s2 s3 s4 n2
     rfl
   have kp : ∀ b o, b ≠ d → hp.get? b = some o → h'.get? b = some o := fun b o hb e => by
     by_cases z : b = a
     · rw [z] at e ⊢
       rw [e0] at e
       cases e
       exact e1
     · exact keep b o z (fun o0 dx q1 q2 => by rw [e0] at q1; cases q1; cases q2; exact hb) e
   refine h _ (I.step (g' := g) (d' := dr) (t' := tk') (ch := []) (fun _ z => nomatch z) (fun b o _ _ _ e nb => kp b o (fun z => by rw [z, ed] at nb; cases nb) e) (fun b o _ _ _ e nb => ⟨o.slots, kp b o (fun z => by rw [z, ed] at nb; cases nb) e⟩)
     (fun b o _ e nb => ?_) (fun b o _ e => ?_) (fun b xs e => ?_) (fun b o v e => ?_) (fun b ps e => ?_) (fun m hm => ?_) (fun b v e => ?_) I.bare)
   · rw [upd_ne (fun z => by rw [z, ed] at nb; cases nb)]
     exact nb
   · by_cases hb : b = d
     · obtain ⟨od, _, _, q, _⟩ := ns
       exact ⟨_, hb ▸ q⟩
     · exact ⟨o, kp b o hb e⟩
   · rw [upd_ne (fun z => by rw [z, ed] at e; cases e)]
     exact e
   · rw [upd_ne (fun z => by rw [z, ed] at e; cases e)]
     exact e
   · exact ⟨#[], by rw [upd_ne (fun z => by rw [z, ed] at e; cases e), e]; simp⟩
   · obtain ⟨o, es, ep, ho, r⟩ := hm
     exact ⟨o, es, ep, kp _ o (fun z => by have q := I.free; rw [z, ed] at q; cases q) ho, r⟩
   · by_cases hb : b = d
     · subst hb
       rw [upd_same] at e
       cases e
       exact ⟨_, ns, fun g => rel_put rel ry g⟩
     · rw [upd_ne hb] at e
       refine (I.hok b v e).stay (fun c o hc q => kp c o (fun z => ?_) q) (fun c q => ?_) fun c xs q => ?_
       · rcases hc with rfl | hc
         · exact hb z
         · rw [z, ed] at hc; cases hc
       · rw [upd_ne (fun z => by rw [z, ed] at q; cases q)]; exact q
       · rw [upd_ne (fun z => by rw [z, ed] at q; cases q)]; exact q
theorem letgo {x : Addr} {C : Value} {dx : Option Addr} (I : Inv X pins σ H s) (e : H x = some (bareO x C dx)) : Inv X pins σ (fun b => if b = x then none else H b) s := by
 have go : ∀ {b : Addr} {o : HO}, (fun b => if b = x then none else H b) b = some o → H b = some o := fun {b o} q => by
   dsimp only at q
   split at q
   · cases q
   · exact q
 have off : ∀ {b : Addr}, H b = none → (fun b => if b = x then none else H b) b = none := fun {b} q => by
   dsimp only
   split
   · rfl
   · exact q
 have on : ∀ {b : Addr} {o : HO}, H b = some o → o ≠ bareO x C dx → (fun b => if b = x then none else H b) b = some o := fun {b o} q ne => by
   dsimp only
   rw [if_neg (fun z => ne (by rw [z, e] at q; exact (Option.some.inj q).symm))]
   exact q
 refine ⟨I.ok, I.os, I.bare, ⟨I.base.keep, I.base.slot, fun b ob q n hx => off (I.base.free b ob q n hx), I.base.there, fun b xs q => on (I.base.tups b xs q) (fun z => nomatch z), fun b ob u q => on (I.base.frzs b ob u q) (fun z => nomatch z), fun b ps q => ?_⟩, I.loc, I.cell, off I.free, fun y c q => off (I.freeC y c q), fun p hp => ?_, fun b u q => ?_, I.len⟩
 · obtain ⟨more, q'⟩ := I.base.tbls b ps q
   exact ⟨more, on q' (fun z => nomatch z)⟩
 · obtain ⟨q, n, r⟩ := I.pin p hp
   exact ⟨q, off n, r⟩
 · exact (I.hok b u (go q)).stay (fun _ _ _ z => z) (fun c z => on z (fun z => nomatch z)) fun c xs z => on z (fun z => nomatch z)
end
def sFldB (K : PySem.W.Frag) (ta tv : TE) (f : Str) : TS := fun D σ H => tv σ H fun y H1 => ta σ H1 fun x H2 => ∃ a C, x = .ref a ∧ XCls K C ∧ NoAttr K C f ∧
 ((H2 a = some (bareO a (.ref C) none) ∧ ∀ d, H2 d = none → d ≠ a → D.nx σ (upd (upd H2 d (.xd (putF f y []))) a (bareO a (.ref C) (some d)))) ∨
  (∃ d fs, H2 a = some (bareO a (.ref C) (some d)) ∧ H2 d = some (.xd fs) ∧ fs.length < 1000 ∧ D.nx σ (upd H2 d (.xd (putF f y fs)))))
section
variable {X : Cx} {o value : Expr} {f : Str} {pos pos' : Pos} {ta tv : TE}
theorem ps_fldB (ha : PE X o ta) (hv : PE X value tv) (hs : swapsWith value (some (.Attribute o f pos')) pos.line X.env = pure false) : PS X (.Assign [.Attribute o f pos'] value pos) (sFldB X.K ta tv f) := by
 intro pins s σ H D I h
 refine plainObj_wpAny_Assign_Attribute (thn (hv pins s σ H _ I h) fun u s1 ⟨y, H1, I1, ry, q⟩ => thn (ha pins s1 σ H1 _ I1 q) fun ov s2 ⟨x, H2, I2, rx, a, C, ex, T, n, q2⟩ => ?_) hs
 subst ex
 obtain rfl : ov = Value.ref a := rx
 rcases q2 with ⟨ea, q2⟩ | ⟨d, fs, ea, ed, l, q2⟩
 · exact setb_new I2 ea T n ry fun d s3 hd hda I3 => ⟨σ, _, I3, q2 d hd hda⟩
 · exact setb_more I2 ea ed T n l ry fun s3 I3 => ⟨σ, _, I3, q2⟩
end
def tRaiseI (R : St → Prop) (C : Addr) (sp : Sp) (ta : TA) (Ek : XK) : TS := fun _ σ H => ta σ H fun vs H1 => vs.length ≤ sizeLine ∧ R σ ∧ ∀ x, H1 x = none →
 sp (.ref x :: vs) (upd H1 x (bareO x (.ref C) none)) (fun v H2 => v = .non ∧ ∃ dx, H2 x = some (bareO x (.ref C) dx) ∧ Ek (.ref C) dx (fun b => if b = x then none else H2 b)) E0
section
variable {X : Cx} {cm : Bool} {k : Nat} {fI : Addr} {fd : FuncData} {ps : List Str} {sp : Sp} {x : Str} {C : Addr} {np cpos pos : Pos} {e : Expr} {es : List Expr} {ta : TA} {R : St → Prop} {Ek : XK}
theorem ps_raiseI (hc : X.calm = true) (hxe : XeIs X R Ek) (hg : Gl X x) (hm : X.mg x = some (.ref C)) (T : XCls X.K C) (hi : PySem.W.findIn X.K (.ref C) "__init__" = some (some (.ref fI))) (hfn : PySem.W.isFn X.K (.ref fI) = true)
   (F : FnOk X.prog X.w X.K X.mg X.base CX0 cm k fI fd ps sp) (hr : Room cm (k + 1) X.A) (hb : Binds X.K fd ps []) (ha : PA X (e :: es) ta)
   (hdb : (x == ("__debug__" : Str)) = false := by decide) (he : starEach (e :: es) X.env = (false, eval e X.env) :: starEach es X.env := by rfl) (hpl : (backTo cpos (starEach (e :: es) X.env)).any (·.1) = false := by rfl) :
   PS X (.Raise (some (.Call (.Name x np) (e :: es) [] cpos)) none pos) (tRaiseI R C sp ta Ek) := by
 intro pins s σ H D I h
 refine raise_call (C := C) (bm := bmOf X.K C) (iv := .ref fI) (I.ok.hd hc) hpl (ld_glob I hg hm ⟨rfl, ?_⟩ hdb)
 have hbk : backTo cpos (starEach (e :: es) X.env) = (false, eval e X.env) :: backTo cpos (starEach es X.env) := by rw [he]; rfl
 rw [hbk]
 refine Calls.evalArgs_plain ?_
 rw [← hbk]
 refine thn (ha cpos pins s σ H _ I h) fun us s1 ⟨vs, H1, I1, r, hl, hR, hE⟩ => ?_
 have hlen : us.length ≤ sizeLine := by rw [← r.length]; exact hl
 refine ⟨rfl, hlen, T.xc I1.kIn, rds_of I1.kIn hi, fun h' x' hm' hs' => ?_⟩
 obtain ⟨hp, g, d, t, os⟩ := s1
 have nx : H1 x' = none := I1.hok.fresh hs'
 have fx : FpOk X pins H1 x' := I1.fpOk hs' nx
 obtain ⟨tt, hx2, htn, ht⟩ := hm'.there
 have I2 : Inv X pins σ H1 ⟨h', g, d, t, os⟩ := I1.kept (t' := t) hm'.keeps
 have I3 := track (o := bareO x' (.ref C) none) I2 fx (bareO_ok hx2)
 refine PySem.W.Looks.here (s := ⟨h', g, d, t, os⟩) (PySem.W.bind_fn I3.kIn (.ref x') (beq_iff_eq.mp hfn)) ?_
 have sp1 := hE x' nx
 have rv : Vals (.ref x' :: vs) (.ref x' :: us) := .cons rfl r
 have hln : (Value.ref x' :: us).length = ps.length := by rw [← rv.length]; exact F.len _ _ _ _ sp1
 have hbi : BindsTo ⟨h', g, d, t, os⟩ fd ⟨.ref x' :: us, []⟩ (ps.zip (.ref x' :: us)) := by
   have z := hb ⟨h', g, d, t, os⟩ (.ref x' :: us) I3.kIn (by rw [List.append_nil]; exact hln)
   rw [List.append_nil] at z
   exact z
 refine wpAny_call (codeAny_mono (F.run _ X.stack _ _ ⟨.ref x' :: us, []⟩ (.ref x' :: us) (.ref x' :: vs) _ E0 (hr.make C us []) (I3.env0.make C us []) hbi rv sp1) fun rr s4 hq => ?_)
 cases rr with
 | error e => exact False.elim hq
 | ok fl =>
   cases fl with
   | next => exact False.elim hq
   | brk => exact False.elim hq
   | cont => exact False.elim hq
   | ret u =>
     obtain ⟨v, H2, os2, bare2, un2, hok2, rv2, rfl, dx, ex, hEk⟩ := hq
     have I4 : Inv X pins σ H2 s4 := I3.call' os2 un2 hok2 bare2 (ch := []) (fun _ z => nomatch z)
     obtain ⟨t4, e4⟩ := bareO_get I4.hok ex
     have I5 := letgo I4 ex
     refine ⟨rv2, T.xc I4.kIn, ⟨dx, t4, e4⟩, hxe pins σ _ s4 x' (.ref C) dx I5 hR ⟨⟨if_pos rfl, fx.2⟩, .inl ⟨_, _, e4, rfl, rfl, rfl, rfl⟩⟩ hEk⟩
end
end L2
namespace L2
open PySem PySem.Spec PyProof.Rows L3
section
variable {X : Cx}
theorem op_mulB : OpR X (binaryOp .Mult) (rI IntMulOk fun i j => .int (i * j)) := opI fun _ _ _ _ _ _ _ hc q => mul_int q hc
end
theorem bits_of {x : Int} (lo : -(2 ^ 250 * 2 ^ 250 * 2 ^ 250 * 2 ^ 250) ≤ x) (hi : x ≤ 2 ^ 250 * 2 ^ 250 * 2 ^ 250 * 2 ^ 250) : Builtin.Int.intBits x ≤ 1001 := by
 refine PySem.intBits_le_iff.mpr ?_
 have e : (2 : Nat) ^ 1001 = 2 ^ 250 * 2 ^ 250 * 2 ^ 250 * 2 ^ 250 * 2 := by
   rw [show (1001 : Nat) = 250 + 250 + 250 + 250 + 1 from rfl, Nat.pow_add, Nat.pow_add, Nat.pow_add, Nat.pow_add]
 rw [e]
 omega
theorem mul_of {x y : Int} (l1 : -(2 ^ 250 * 2 ^ 250 * 2 ^ 250 * 2 ^ 250) ≤ x) (h1 : x ≤ 2 ^ 250 * 2 ^ 250 * 2 ^ 250 * 2 ^ 250) (l2 : -(2 ^ 250 * 2 ^ 250 * 2 ^ 250 * 2 ^ 250) ≤ y) (h2 : y ≤ 2 ^ 250 * 2 ^ 250 * 2 ^ 250 * 2 ^ 250) : IntMulOk x y :=
 PySem.IntMulOk.of_le (bits_of l1 h1) (bits_of l2 h2) (by decide)
theorem decT {p : Prop} [Decidable p] {A B : Prop} (h : p) (k : A) : if decide p = true then A else B := by rw [if_pos (decide_eq_true h)]; exact k
theorem decF {p : Prop} [Decidable p] {A B : Prop} (h : ¬ p) (k : B) : if decide p = true then A else B := by rw [if_neg (by simpa using h)]; exact k
theorem dec2 {p : Prop} [Decidable p] {A B : Prop} (h1 : p → A) (h2 : ¬ p → B) : if decide p = true then A else B := by
 by_cases h : p
 · exact decT h (h1 h)
 · exact decF h (h2 h)
theorem ndecT {p : Prop} [Decidable p] {A B : Prop} (h : ¬ p) (k : A) : if (!decide p) = true then A else B := by rw [if_pos (by simp [h])]; exact k
theorem ndecF {p : Prop} [Decidable p] {A B : Prop} (h : p) (k : B) : if (!decide p) = true then A else B := by rw [if_neg (by simp [h])]; exact k
theorem ndec2 {p : Prop} [Decidable p] {A B : Prop} (h1 : ¬ p → A) (h2 : p → B) : if (!decide p) = true then A else B := by
 by_cases h : p
 · exact ndecF h (h2 h)
 · exact ndecT h (h1 h)
end L2
namespace L2
open PySem PySem.Spec PyProof.Rows L3
theorem bt_len : bootBuiltins "len" = some (.builtin "len") := by decide +kernel
theorem bt_isinstance : bootBuiltins "isinstance" = some (.builtin "isinstance") := by decide +kernel
theorem bt_int : bootBuiltins "int" = some (.type "int") := by decide +kernel
theorem bt_bool : bootBuiltins "bool" = some (.type "bool") := by decide +kernel
theorem bt_tuple : bootBuiltins "tuple" = some (.type "tuple") := by decide +kernel
theorem bt_list : bootBuiltins "list" = some (.type "list") := by decide +kernel
theorem bt_ValueError : bootBuiltins "ValueError" = some (.type "ValueError") := by decide +kernel
def Def (K : PySem.W.Frag) (mg : Str → Option Value) (x : Str) (st : Stmt) (dV : Value) : Prop := ∃ f fd, FunD K x x st f fd dV ∧ mg x = some (.ref f)
def Cal (P : Program) (w : World) (K : PySem.W.Frag) (mg : Str → Option Value) (base : Heap) (CX : CXT) (cm : Bool) (k : Nat) (x : Str) (ps : List Str) (ds : List V) (sp : Sp) : Prop :=
 ∃ f fd dvs, FnOk P w K mg base CX cm k f fd ps sp ∧ mg x = some (.ref f) ∧ PySem.W.keepIn K (.ref f) = true ∧ Binds K fd ps [] ∧ Vals ds dvs ∧ Binds K fd ps dvs
theorem FunD.bindsD {K : PySem.W.Frag} {x qual : Str} {st : Stmt} {f T : Addr} {fd : FuncData} {ps : List Str} {ds : List Value} {items : Array Value} {od : Option Addr} {n : Nat} {sl : Array (Option Value)} (F : FunD K x qual st f fd (.ref T))
   (lT : K.lookup T = some ⟨.type "tuple", od, .seq items n, sl⟩) (m : Nat) (hm : m + ds.length = ps.length)
   (h : ∀ (kV doc pm : Value) (an : Option Addr) (cdv ct : Value) (us : List Value), us.length = m →
     ∃ k, bindArgs (PySem.W.fnOf x qual (defArgs st) (defBody st) (defScope st) (.ref T) kV doc pm an cdv ct) ⟨us, []⟩ = seqItems? (.ref T) >>= k ∧ k (some items) = pure (ps.zip (us ++ ds))) : Binds K fd ps ds := by
 obtain ⟨oc, od', kV, doc, pm, an, cdv, ct, osl, rfl, lk, hcd⟩ := F.ex
 intro s us KX hl
 obtain ⟨k, h1, h2⟩ := h kV doc pm an cdv ct us (by rw [List.length_append] at hl; omega)
 exact BindsTo.of_defaults rfl (KX _ _ lT) rfl h1 h2
theorem call_isS {X : Cx} {x : Addr} : CallR (sup X x) (.builtin "isinstance") (rIs X.K) := call_is (X := sup X x)
theorem ix_seqS {X : Cx} {x : Addr} : IxR (sup X x) (rIx X.K) := ix_seq (X := sup X x)
end L2
namespace L2
open PySem PySem.Spec PyProof.Rows L3
theorem xe_off {X : Cx} : XeIs X (fun _ => True) E0 := fun _ _ _ _ _ _ _ _ _ _ z => z.elim
end L2
namespace L2
open PySem PySem.Spec PyProof.Rows L3
theorem Room.sup {cm : Bool} {k : Nat} {A : Around} (r : Room cm k A) (h : Option Value) : Room false k (A.mark h) := ⟨(fun z => nomatch z), r.dp, r.un⟩
end L2
namespace L2
open PySem PySem.Spec PyProof.Rows L3
def eqPl : V → Bool
 | .byt _ => false
 | .flt _ => false
 | _ => true
theorem eqAt_self {A : Around} {s : Shared} {x : V} {v u : Value} (hp : eqPl x = true) (r : RelV x v) (r' : RelV x u) : SeqAt.EqAt A s v u true := by
 cases x with
 | non => cases r; cases r'; exact SeqAt.EqAt.same _
 | bl b => cases r; cases r'; exact SeqAt.EqAt.same _
 | int i =>
   obtain ⟨t, rfl⟩ := r
   obtain ⟨t', rfl⟩ := r'
   have := SeqAt.EqAt.int_int (A := A) (s := s) i t i t'
   rw [beq_self_eq_true] at this
   exact this
 | str i =>
   obtain ⟨t, rfl⟩ := r
   obtain ⟨t', rfl⟩ := r'
   have := SeqAt.EqAt.str_str (A := A) (s := s) i t i t'
   rw [beq_self_eq_true] at this
   exact this
 | byt b => cases hp
 | flt b => cases hp
 | ref a => cases r; cases r'; exact SeqAt.EqAt.same _
 | ty n => cases r; cases r'; exact SeqAt.EqAt.same _
theorem vals_at : ∀ {xs : List V} {us : List Value}, Vals xs us → ∀ j (h : j < us.length), ∃ x, xs[j]? = some x ∧ RelV x us[j] := by
 intro xs us r
 induction r with
 | nil => intro j h; cases h
 | cons r rr ih =>
   intro j h
   cases j with
   | zero => exact ⟨_, rfl, r⟩
   | succ j => exact ih j (by simpa using h)
end L2
namespace L2
open PySem PySem.Spec PyProof.Rows L3
def Cx.inC (X : Cx) (scope : Scope) (cl : List (Str × Addr)) (C : Addr) (s2 : Shared) (H2 : Hp) (fp : List Addr) (N' : List Str) (xe : Value → Shared → Prop) : Cx :=
 { X with N := N', s₀ := s2, H₀ := H2, env := compEnvC scope cl C X.env, outer := X.stack, ex := fp, fn := fun _ => false, pn := [], xe := xe }
def tLC (wi : TI) (te : TE) (js : List Nat) : TE := fun σ H Q => wi σ H fun J H1 => ∃ W : Nat → Nat → List V → Hp → Prop, (∃ m, W 0 m [] H1) ∧ ∀ i m ys H, W i m ys H →
 (J.stop i H ∧ ∀ l, H l = none → Q (.ref l) (upd H l (.lst ys))) ∨ (J.go i H ∧ ys.length < sizeLine ∧ ∃ N : VK, (∀ y H2, N y H2 → ∃ m', m' < m ∧ W (i + 1) m' (ys ++ [y]) H2) ∧ ∀ x H', J.yld i H x H' → te (some x :: js.map (fun j => σ.getD j none)) H' N)
section
variable {X : Cx}
structure LcOk (X : Cx) (x : Str) (scope : Scope) (cl : List (Str × Addr)) (js : List Nat) : Prop where
 clos : closureFor scope X.env = pure cl
 sub : ∀ y c, cl.lookup y = some c → X.env.cells.lookup y = some c
 kind : scope.kind = .function
 cell : ∀ y ∈ scope.names, y.2 ≠ .cell
 names : ∀ y ∈ scope.names, y.2 = .local → scope.names.lookup y.1 = some .local
 loc : scope.names.lookup x = some .local
 has : ∀ y, (((relabel scope X.env).names.lookup y = some .cell) ∨ ((relabel scope X.env).names.lookup y = some .free)) → ∃ c, cl.lookup y = some c
 nd : (x :: js.map (fun j => X.N.getD j "")).Nodup
 fr : ∀ j ∈ js, ∃ y, X.N[j]? = some y ∧ X.env.kindOf y = some .cell ∧ (relabel scope X.env).names.lookup y = some .cell ∧ ∃ c, cl.lookup y = some c
theorem Inv.inC {x : Str} {scope : Scope} {cl : List (Str × Addr)} {js : List Nat} {pins : List (Addr × Obj)} {σ : St} {H2 : Hp} {s2 : Shared} {fp : List Addr} {C D : Addr} {h1 : Heap} {xe : Value → Shared → Prop} {oD : Obj} {m0 : Str → Option Value}
   (L : LcOk X x scope cl js) (I2 : Inv X pins σ H2 s2) (f2 : ∀ b ∈ fp, FpOk X pins H2 b) (fo : ∀ b ∈ fp, ∃ o, s2.heap.get? b = some o) (hC : s2.heap.objs.size ≤ C) (hD : s2.heap.objs.size ≤ D) (hDC : D ≠ C)
   (old : ∀ b o, s2.heap.get? b = some o → h1.get? b = some o) (hns : h1.Ns C m0) (hoD : h1.get? D = some oD) (hdD : ∀ v, oD.data ≠ .cell v) {t' : Nat} :
   Inv (X.inC scope cl C s2 H2 fp (x :: js.map (fun j => X.N.getD j "")) xe) [(D, oD)] (none :: js.map (fun j => σ.getD j none)) H2 { s2 with heap := h1, toks := t' } where
 ok := {
   mod := I2.ok.mod
   kind := L.kind
   glob := I2.ok.glob
   blt := I2.ok.blt
   above := hC
   inj := fun a b c e1 e2 => I2.ok.inj a b c (L.sub a c e1) (L.sub b c e2)
   has := fun y hy => L.has y hy
   cab := fun _ _ z => nomatch z
   hd := I2.ok.hd
   frames := I2.ok.frames
   stk := .inl rfl
   exf := fun b hb => by
     obtain ⟨o, e⟩ := fo b hb
     refine ⟨Nat.ne_of_lt (Nat.lt_of_lt_of_le (Heap.lt_size e) hC), fun y c e' => ?_⟩
     exact (f2 b hb).2.2.2.2.1 y c (L.sub y c e')
   bs := fun b o e => I2.bs b o e
   bsz := Nat.le_trans I2.ok.bsz I2.sz
   noex := fun b o e hb => by
     rcases (f2 b hb).2.2.2.1 with z | z
     · exact I2.ok.noex b o e z
     · exact absurd (Nat.lt_of_lt_of_le (Heap.lt_size e) (Nat.le_trans I2.ok.bsz z)) (Nat.lt_irrefl _)
   exfs := fun b hb z => by
     rcases List.mem_cons.mp (I2.stkSub b z) with e | e
     · exact (f2 b hb).2.1 e
     · exact (f2 b hb).2.2.1 e
   funs := I2.stack
   frf := I2.stkFree }
 os := rfl
 bare := I2.bare
 base := Un.kept old
 loc := by
   refine ⟨m0, hns, fun i y v e1 e2 e3 => ?_⟩
   cases i with
   | zero => cases e2
   | succ k =>
     have e1' : (js.map (fun j => X.N.getD j ""))[k]? = some y := e1
     have e2' : (js.map (fun j => σ.getD j none))[k]? = some (some v) := e2
     rw [List.getElem?_map] at e1' e2'
     cases hj : js[k]? with
     | none => rw [hj] at e1'; cases e1'
     | some j =>
       rw [hj] at e1' e2'
       obtain ⟨y', n1, n2, n3, c, n4⟩ := L.fr j (List.mem_of_getElem? hj)
       have e1'' : X.N.getD j "" = y := Option.some.inj e1'
       have e2'' : σ.getD j none = some v := Option.some.inj e2'
       have : y' = y := by
         rw [List.getD, n1] at e1''
         exact e1''
       subst this
       have hσ : σ[j]? = some (some v) := by
         rw [List.getD] at e2''
         cases q : σ[j]? with
         | none => rw [q] at e2''; cases e2''
         | some z => rw [q] at e2''; exact congrArg some e2''
       obtain ⟨m, hn, hl⟩ := I2.loc
       obtain ⟨u, r, l⟩ := hl j y' v n1 hσ (.inr (.inl n2))
       refine ⟨u, r, ?_⟩
       rcases l with ⟨k1, _⟩ | ⟨_, c', k2, k3⟩
       · rw [n2] at k1; cases k1
       · have : c' = c := by
           have := L.sub _ _ n4
           rw [k2] at this
           exact Option.some.inj this
         subst this
         obtain ⟨o, ho, hd⟩ := k3
         exact .inr ⟨.inl n3, c', n4, o, old _ _ ho, hd⟩
 cell := fun y c e => by
   obtain ⟨v, o, ho, hd⟩ := I2.cell y c (L.sub y c e)
   exact ⟨v, o, old _ _ ho, hd⟩
 free := I2.hok.fresh hC
 freeC := fun y c e => I2.freeC y c (L.sub y c e)
 pin := fun p hp => by
   have e : p = (D, oD) := by simpa [Cx.inC] using hp
   subst e
   refine ⟨hoD, I2.hok.fresh hD, hDC, fun z => ?_, hdD⟩
   rcases List.mem_cons.mp (I2.stkSub D z) with e | e
   · exact absurd I2.lt (by rw [← e]; exact Nat.not_lt.mpr hD)
   · exact I2.nofs hD e
 hok := I2.hok.kept old
 len := by simp [Cx.inC]
theorem lc_core {elt iter : Expr} {x : Str} {px pos cpos : Pos} {scope : Scope} {cl : List (Str × Addr)} {wi : TI} {te : TE} {js : List Nat} {use : Option (Value → Sem Unit)} {Qc : Value → Shared → Prop} {pins : List (Addr × Obj)} {s : Shared} {σ : St} {H : Hp} {Q : VK}
   (hc : X.calm = true) (L : LcOk X x scope cl js) (hi : PI X (.Name x px) iter wi) (G : Cx → Prop)
   (he : ∀ C s2 H2 fp xe, G (X.inC scope cl C s2 H2 fp (x :: js.map (fun j => X.N.getD j "")) xe) → PE (X.inC scope cl C s2 H2 fp (x :: js.map (fun j => X.N.getD j "")) xe) elt te)
   (hG : ∀ (C D : Addr) (s2 : Shared) (H2 : Hp) (fp : List Addr), Inv X pins σ H2 s2 → (∀ b ∈ fp, FpOk X pins H2 b) → (∀ b ∈ fp, ∃ o, s2.heap.get? b = some o) → s2.heap.objs.size < C →
     G (X.inC scope cl C s2 H2 fp (x :: js.map (fun j => X.N.getD j "")) (notedBy (model X.prog X.w) X.A (compEnvC scope cl C X.env) fun e s' => compPost (model X.prog X.w) X.A X.xe use Qc (.ref D) C (.error e) s')))
   (hs : ∀ z, foldedSetIterable iter X.env z = pure z) (I : Inv X pins σ H s) (h : tLC wi te js σ H Q)
   (fin : ∀ (D C : Addr) (H4 : Hp) (s4 : Shared) (m : Str → Option Value), s4.heap.Ns C m → FpOk X pins H4 C → (∀ h', Heap.SameBut C s4.heap h' → Inv X pins σ H4 { s4 with heap := h' }) → Q (.ref D) H4 → compPost (model X.prog X.w) X.A X.xe use Qc (.ref D) C (.ok .next) s4) :
   wpAny (model X.prog X.w) X.A (comprehension (.ListComp elt [⟨.Name x px, iter, [], 0⟩] scope pos) scope X.env cpos (newList []) false (eval iter X.env) use) Qc X.xe s := by
 refine wpAny_comprehension_free (cl := cl) (use := use) rfl hs L.clos L.kind L.names ?_
 refine thn (hi pins s σ H _ I h) fun v s1 h1 => thn h1 fun itv s2 h2 => ?_
 obtain ⟨it, fp, tn, J, H2, e, I2, T, st2, f2, W, ⟨k0, w0⟩, turn⟩ := h2
 subst e
 refine wpAny_newObj_type (wpAny_newFunctionEnv L.cell (by intro y hy; simp at hy) (fun h₁ hns₁ hsb₁ => ?_) L.kind)
 dsimp only at hns₁ hsb₁ ⊢
 generalize hH2 : s2.heap.push { cls := .type "list", dict := none, data := .seq ([] : List Value).toArray } = Hp2 at hns₁ hsb₁ ⊢
 have hC : Hp2.objs.size = s2.heap.objs.size + 1 := by rw [← hH2, Heap.size_push]
 generalize hD0 : s2.heap.objs.size = D at hC ⊢
 generalize hC0 : Hp2.objs.size = C at hC hns₁ hsb₁ ⊢
 have hDC : D ≠ C := by omega
 have below : ∀ b, b < D → b ≠ C := fun b hb => by omega
 have old : ∀ b o, s2.heap.get? b = some o → h₁.get? b = some o := fun b o e =>
   hsb₁.extBut b o (below b (by rw [← hD0]; exact Heap.lt_size e)) (Heap.get?_push_of_some _ (hH2 ▸ Heap.get?_push_of_some _ e))
 have hacc : h₁.get? D = some { cls := .type "list", data := .seq ([] : List Value).toArray 0 } := by
   subst hD0
   exact hsb₁.extBut _ _ hDC (Heap.get?_push_of_some _ (hH2 ▸ Heap.get?_push_size _ rfl))
 have fo : ∀ b ∈ fp, ∃ o, s2.heap.get? b = some o := fun b hb => let ⟨o, e, _⟩ := T.obj _ _ st2 b hb; ⟨o, e⟩
 have flt : ∀ b ∈ fp, b < D := fun b hb => let ⟨o, e⟩ := fo b hb; by rw [← hD0]; exact Heap.lt_size e
 have st1 : tn 0 h₁ := T.keep _ _ _ st2 fun b hb o e => old b o e
 have gx := hG C D s2 H2 fp I2 f2 fo (by omega)
 let R := compPost (model X.prog X.w) X.A X.xe use Qc (.ref D) C
 let xe := notedBy (model X.prog X.w) X.A (compEnvC scope cl C X.env) fun e s' => R (.error e) s'
 let X' := X.inC scope cl C s2 H2 fp (x :: js.map (fun j => X.N.getD j "")) xe
 have I0 : ∀ {t' : Nat}, Inv X' [(D, _)] (none :: js.map (fun j => σ.getD j none)) H2 { s2 with heap := h₁, toks := t' } := fun {t'} =>
   Inv.inC L I2 f2 fo (by omega) (by omega) hDC old hns₁ hacc (fun v z => by cases z)
 have fpk : ∀ {pD : List (Addr × Obj)} {H' : Hp}, (∀ p ∈ pD, p.1 = D) → (∀ b ∈ fp, H' b = none) → ∀ b ∈ fp, FpOk X' pD H' b := fun {pD H'} hp hn b hb => by
   refine ⟨hn b hb, below b (flt b hb), fun z => ?_, .inl hb, fun y c e => (f2 b hb).2.2.2.2.1 y c (L.sub y c e), fun p hp' z => ?_⟩
   · rcases List.mem_cons.mp (I2.stkSub b z) with e | e
     · exact (f2 b hb).2.1 e
     · exact (f2 b hb).2.2.1 e
   · have q := hp p (by simpa [X', Cx.inC] using hp')
     have := flt b hb
     rw [← z, q] at this
     exact Nat.lt_irrefl _ this
 have loop : ∀ s3 : Shared, (∃ k i ys H' its n σ0, Inv X' [(D, { cls := .type "list", data := .seq (its : List Value).toArray n })] (σ0 :: js.map (fun j => σ.getD j none)) H' s3 ∧ tn i s3.heap ∧ (∀ b ∈ fp, H' b = none) ∧ W i k ys H' ∧ Vals ys its ∧ ys.length ≤ sizeLine) →
     codeAny (model X.prog X.w) X.A (.compLoop (.ListComp elt [⟨.Name x px, iter, [], 0⟩] scope pos) 0 (.ref it) (.ref D) (compEnvC scope cl C X.env)) R s3 := by
   rintro s3 ⟨k, hk⟩
   refine codeAny_loop rfl (fun k s3 => ∃ i ys H' its n σ0, Inv X' [(D, { cls := .type "list", data := .seq (its : List Value).toArray n })] (σ0 :: js.map (fun j => σ.getD j none)) H' s3 ∧ tn i s3.heap ∧ (∀ b ∈ fp, H' b = none) ∧ W i k ys H' ∧ Vals ys its ∧ ys.length ≤ sizeLine) (fun k s3 hI => ?_) k hk
   obtain ⟨i, ys, H3, its, n, σ0, I3, st3, fr3, w3, vy, hz⟩ := hI
   show wpAny _ _ ((compTurn (.ListComp elt [⟨.Name x px, iter, [], 0⟩] scope pos) 0 (.ref it) (.ref D) (compEnvC scope cl C X.env)).onRaise (fun x => do noteFrame x (compEnvC scope cl C X.env); theTreesLotGoes x)) _ _ s3
   refine wpAny_noted ?_
   rw [compTurn_list1]
   have hpD : ∀ {o : Obj}, ∀ p ∈ [(D, o)], p.1 = D := fun p hp => by rw [List.mem_singleton.mp hp]
   refine wpAny_bind (wpAny_standAt (wpAny_bind ?_))
   rcases turn i k ys H3 w3 with ⟨stop, qn⟩ | ⟨go, hlen, N, hN, step⟩
   · refine thn (T.done X' rfl rfl rfl hc i _ s3 _ H3 xe I3 (fpk hpD fr3) st3 stop) fun r s4 ⟨hr, I4⟩ => ?_
     subst hr
     refine wpAny_pure ?_
     obtain ⟨m, hn, _⟩ := I4.loc
     obtain ⟨eD, nD, _⟩ := I4.pin (D, _) (List.mem_append_right _ (List.mem_singleton.mpr rfl))
     have fC : FpOk X pins (upd H3 D (.lst ys)) C := I2.fpOk (by omega) (by
       rw [upd_ne (Ne.symm hDC)]
       exact I4.free)
     refine fin D C (upd H3 D (.lst ys)) s4 m hn fC (fun h' sb => ?_) (qn D nD)
     obtain ⟨hh, g, d, t, os'⟩ := s4
     obtain rfl : os' = s2.os := I4.os
     have kp : ∀ b o, b ≠ C → hh.get? b = some o → h'.get? b = some o := fun b o hb e => (sb.2 b hb).trans e
     have lt2 : ∀ b o, s2.heap.get? b = some o → b ≠ C ∧ b ≠ D := fun b o e => by
       have q : b < D := by rw [← hD0]; exact Heap.lt_size e
       exact ⟨below b q, Nat.ne_of_lt q⟩
     have B : Un (frs X.stack) fp H2 H3 s2.heap hh := I4.base
     have hDn : H3 D = none := nD
     have I5 : Inv X pins σ (upd H3 D (.lst ys)) { s2 with heap := h', gens := g, drawn := d, toks := t } := by
       refine I2.call (h' := h') (g' := g) (d' := d) (t' := t) (ch := fp) ⟨?_, ?_, ?_, ?_, ?_, ?_, ?_⟩ ?_ I4.bare ?_
       · exact fun b o e n hb hx => kp b o (lt2 b o e).1 (B.keep b o e n hb hx)
       · intro b o e n hb hx
         obtain ⟨sl, q⟩ := B.slot b o e n hb hx
         exact ⟨sl, kp b _ (lt2 b o e).1 q⟩
       · intro b o e n hx
         rw [upd_ne (lt2 b o e).2]
         exact B.free b o e n hx
       · intro b o e hx
         obtain ⟨o', q⟩ := B.there b o e hx
         exact ⟨o', kp b o' (lt2 b o e).1 q⟩
       · intro b xs e
         have q := B.tups b xs e
         rw [upd_ne (ne_of_none q hDn)]
         exact q
       · intro b o u e
         have q := B.frzs b o u e
         rw [upd_ne (ne_of_none q hDn)]
         exact q
       · intro b ps e
         obtain ⟨more, q⟩ := B.tbls b ps e
         exact ⟨more, by rw [upd_ne (ne_of_none q hDn)]; exact q⟩
       · intro b u e
         by_cases hb : b = D
         · subst hb
           rw [upd_same] at e
           cases e
           exact ⟨hz, its, n, vy, kp _ _ hDC eD⟩
         · rw [upd_ne hb] at e
           have nC : ∀ c o, H3 c = some o → c ≠ C := fun c o q => ne_of_none q I4.free
           refine (I4.hok b u e).stay (fun c v hc' q => kp c v ?_ q) (fun c q => by rw [upd_ne (ne_of_none q hDn)]; exact q) fun c xs q => by rw [upd_ne (ne_of_none q hDn)]; exact q
           rcases hc' with z | z
           · rw [z]; exact nC b u e
           · exact nC c _ z
       · intro b hb
         obtain ⟨_, f1, _, f3, f4, f5⟩ := f2 b hb
         exact ⟨f3, f1, f4, f5⟩
     exact I5
   · refine thn (T.item X' rfl rfl rfl hc i _ s3 _ H3 xe I3 (fpk hpD fr3) st3 go) fun r s4 ⟨u, hr, h4⟩ => ?_
     subst hr
     refine wpAny_bind (thn h4 fun _ s5 ⟨xv, H5, I5, r5, y5, st5, fr5⟩ => ?_)
     have I5' := I5.pinned (fpk hpD fr5) (T.obj _ _ st5)
     refine wpAny_bind (thn (pg_name (X := X') (i := 0) L.nd rfl (Or.inl (lookup_relabel_local L.loc)) (Or.inr (lookup_relabel_local L.loc)) _ s5 _ H5 xv u (fun σ6 H6 => σ6 = some xv :: js.map (fun j => σ.getD j none) ∧ H6 = H5) I5' r5 ⟨rfl, rfl⟩) fun _ s6 ⟨σ6, H6, I6, e6, e6'⟩ => ?_)
     subst e6 e6'
     refine wpAny_bind (wpAny_bind (thn (he C s2 H2 fp xe gx _ s6 _ _ _ I6 (step xv _ y5)) fun y s7 ⟨yv, H7, I7, ry, n7⟩ => ?_))
     obtain ⟨m', hm, w7⟩ := hN yv H7 n7
     have I7' := I7.unpinned
     obtain ⟨eD, nD, neC, nfs, _⟩ := I7'.pin (D, _) (List.mem_append_right _ (List.mem_singleton.mpr rfl))
     have eD' : s7.heap.get? D = some { cls := .type "list", data := .seq its.toArray n } := eD
     have lv := vy.length
     refine wpAny_bind (call_meets F.slot_list_append ⟨_, eD', rfl⟩ F.entry_list_append (F.args_list_append_2 _ _) (PySem.list_append D its.toArray n y (by rw [List.size_toArray]; omega)) ⟨eD', ?_⟩)
     refine wpAny_pure (wpAny_pure ⟨rfl, m', hm, i + 1, ys ++ [yv], H7, its ++ [y], ?_⟩)
     have q := PySem.IsL.update eD' (fun a : Array Value => a.push y)
     have I8 : Inv X' [] (some xv :: js.map (fun j => σ.getD j none)) H7 { s7 with heap := s7.heap.update D (Obj.mapSeq (fun a : Array Value => a.push y)) } :=
       (I7'.pins_of (pins' := []) (fun p hp => nomatch hp)).turned (t' := s7.toks) (it := D) (fun b o hb e => (Heap.get?_update_other s7.heap _ (Ne.symm hb)).trans e) nD neC (.inr (by show s2.heap.objs.size ≤ D; omega))
         (fun z c e w => by
           obtain ⟨v', o', ho', _⟩ := I2.cell z c (L.sub z c e)
           have := Heap.lt_size ho'
           rw [w, hD0] at this
           exact Nat.lt_irrefl _ this) (fun p hp => nomatch hp)
     have pinf : ∀ b ∈ fp, ∀ o, s5.heap.get? b = some o → s7.heap.get? b = some o ∧ H7 b = none := fun b hb o e => by
       have z := I7.pin (b, o) (List.mem_append_right _ (List.mem_append_right _ (mem_pinsAt hb e)))
       exact ⟨z.1, z.2.1⟩
     obtain ⟨n', q'⟩ : ∃ n', (s7.heap.update D (Obj.mapSeq (fun a : Array Value => a.push y))).get? D = some { cls := .type "list", data := .seq (its ++ [y]).toArray n' } := by
       rw [show (its ++ [y]).toArray = its.toArray.push y by simp]
       exact ⟨_, q⟩
     refine ⟨n', some xv, I8.pins_of fun p hp => ?_, ?_, fun b hb => ?_, w7, vy.append (.cons ry .nil), by rw [List.length_append, List.length_singleton]; omega⟩
     · rw [List.mem_singleton.mp hp]
       exact ⟨q', nD, neC, nfs, fun v z => by cases z⟩
     · refine T.keep _ _ _ st5 fun b hb o e => ?_
       have hb' : D ≠ b := fun z => by
         have := flt b hb
         rw [← z] at this
         exact Nat.lt_irrefl _ this
       exact (Heap.get?_update_other s7.heap _ hb').trans (pinf b hb o e).1
     · obtain ⟨o, e, _⟩ := T.obj _ _ st5 b hb
       exact (pinf b hb o e).2
 have start : ∀ {t' : Nat}, ∃ k i ys H' its n σ0, Inv X' [(D, { cls := .type "list", data := .seq (its : List Value).toArray n })] (σ0 :: js.map (fun j => σ.getD j none)) H' { s2 with heap := h₁, toks := t' } ∧ tn i h₁ ∧ (∀ b ∈ fp, H' b = none) ∧ W i k ys H' ∧ Vals ys its ∧ ys.length ≤ sizeLine := fun {t'} =>
   ⟨k0, 0, [], H2, [], 0, none, I0, st1, fun b hb => (f2 b hb).1, w0, .nil, Nat.zero_le _⟩
 exact codeAny_compStart_list (loop _ start) (T.self X.A 0 _ _ _ st1 (loop _ start))
theorem pe_lc {elt iter : Expr} {x : Str} {px pos : Pos} {scope : Scope} {cl : List (Str × Addr)} {wi : TI} {te : TE} (js : List Nat) (hc : X.calm = true) (L : LcOk X x scope cl js) (hi : PI X (.Name x px) iter wi)
   (he : ∀ C s2 H2 fp xe, PE (X.inC scope cl C s2 H2 fp (x :: js.map (fun j => X.N.getD j "")) xe) elt te)
   (hs : ∀ z, foldedSetIterable iter X.env z = pure z := by intro _; rfl) :
   PE X (.ListComp elt [⟨.Name x px, iter, [], 0⟩] scope pos) (tLC wi te js) := by
 intro pins s σ H Q I h
 rw [eval_ListComp]
 exact lc_core (use := none) hc L hi (fun _ => True) (fun C s2 H2 fp xe _ => he C s2 H2 fp xe) (fun _ _ _ _ _ _ _ _ _ => trivial) hs I h fun D C H4 s4 m hn _ I4 q => ⟨m, hn, fun h' sb => ⟨.ref D, H4, I4 h' sb, rfl, q⟩⟩
end
end L2
namespace L2
open PySem PySem.Spec PyProof.Rows L3
theorem lc_list {K : PySem.W.Frag} {a : Addr} {xs : List V} {T : V → Hp → VK → Prop} {R : Addr → Hp → List V → Prop} {H : Hp} (Pv : Nat → List V → Hp → Prop) (h0 : Pv 0 [] H) (hn : xs.length ≤ sizeLine) (hl : ∀ i ys H, i ≤ xs.length → Pv i ys H → SqL K H a xs ∧ ys.length = i)
   (hs : ∀ i x ys H, xs[i]? = some x → Pv i ys H → T x H fun y H2 => Pv (i + 1) (ys ++ [y]) H2) (hd : ∀ ys H, Pv xs.length ys H → ∀ l, H l = none → R l H ys) :
   ∃ W : Nat → Nat → List V → Hp → Prop, (∃ m, W 0 m [] H) ∧ ∀ i m ys H, W i m ys H →
     ((Itl K a).stop i H ∧ ∀ l, H l = none → R l H ys) ∨ ((Itl K a).go i H ∧ ys.length < sizeLine ∧ ∃ N : VK, (∀ y H2, N y H2 → ∃ m', m' < m ∧ W (i + 1) m' (ys ++ [y]) H2) ∧ ∀ x H', (Itl K a).yld i H x H' → T x H' N) := by
 refine ⟨fun i m ys H => m = xs.length - i ∧ i ≤ xs.length ∧ Pv i ys H, ⟨xs.length, by simp, Nat.zero_le _, h0⟩, ?_⟩
 rintro i m ys H ⟨rfl, hi, p⟩
 obtain ⟨q, hy⟩ := hl i ys H hi p
 by_cases hlt : i < xs.length
 · refine .inr ⟨⟨xs, xs[i], q, by simp [hlt]⟩, by omega, fun y H2 => Pv (i + 1) (ys ++ [y]) H2, fun y H2 p' => ⟨xs.length - (i + 1), by omega, rfl, hlt, p'⟩, fun x H' ⟨e, y⟩ => ?_⟩
   subst e
   exact hs i x ys _ (y xs q) p
 · have e : i = xs.length := by omega
   subst e
   exact .inl ⟨⟨xs, q, Nat.le_refl _⟩, hd ys H p⟩
theorem ints_of : ∀ {ns : List Int} {its : List Value}, Vals (ns.map V.int) its → IntsAre its ns
 | [], _, .nil => .nil
 | n :: r, _, .cons ⟨t, e⟩ rr => by
   subst e
   exact .cons n t (ints_of rr)
section
variable {X : Cx}
theorem call_sum {k : Nat} (hr : Room true k X.A) : CallR X (.builtin "sum") (fun xs H Q => ∃ (p : Addr) (ns : List Int), xs = [.ref p] ∧ SqL X.K H p (ns.map V.int) ∧ Q (.int ns.sum) H) := by
 intro pins s σ H xs us Q I r h
 obtain ⟨p, ns, rfl, hq, q⟩ := h
 obtain ⟨u, rfl, rx⟩ := vals1 r
 cases rx
 obtain ⟨its, r', pl, hz⟩ := I.list hq
 have hi := ints_of r'
 obtain ⟨xs, hx⟩ := hi.allInts.items
 have hl' : s.heap.IsList p (intItems xs) := hx ▸ pl.isList
 refine sum_intListG (hr.hd rfl) hl' fun h' tk t' hk => ?_
 have e1 : ns = xs.toList.map (·.1) := by
   rw [← nums_intItems, ← hx]
   exact (show numsOf its.toArray.toList = ns from hi.numsOf).symm
 have e2 : preSum (numAt xs) xs.size = ns.sum := by
   rw [preSum_eq, List.take_of_length_le (by simp), e1]
 rw [e2]
 exact ⟨.int ns.sum, H, I.kept hk, ⟨t', rfl⟩, q⟩
end
theorem lookup_relabel_not {env : Env} {k : NameKind} : ∀ {names : List (Str × NameKind)} {y : Str}, (∀ z ∈ names, z.2 ≠ .free) → (∀ z ∈ names, z.2 ≠ k) → (names.map fun (n, k) => if (k == NameKind.free && env.scope.kind == .function && env.kindOf n == some .cell) then (n, NameKind.cell) else (n, k)).lookup y = some k → False
 | [], _, _, _, h => by simp at h
 | (n, k') :: r, y, hf, hk, h => by
   have e : (k' == NameKind.free) = false := by simpa using hf (n, k') List.mem_cons_self
   rw [List.map_cons] at h
   simp only [e, Bool.false_and, Bool.false_eq_true, if_false] at h
   rw [List.lookup_cons] at h
   cases hx : y == n with
   | true => rw [hx] at h; exact hk (n, k') List.mem_cons_self (Option.some.inj h)
   | false => rw [hx] at h; exact lookup_relabel_not (fun z hz => hf z (List.mem_cons_of_mem _ hz)) (fun z hz => hk z (List.mem_cons_of_mem _ hz)) h
theorem LcOk.plain {X : Cx} {x : Str} {scope : Scope} (hfree : ∀ y ∈ scope.names, y.2 ≠ .free) (hcell : ∀ y ∈ scope.names, y.2 ≠ .cell) (hkind : scope.kind = .function) (hnames : ∀ y ∈ scope.names, y.2 = .local → scope.names.lookup y.1 = some .local)
   (hloc : scope.names.lookup x = some .local) : LcOk X x scope [] [] where
 clos := closureFor_none hfree
 sub := fun _ _ e => nomatch e
 kind := hkind
 cell := hcell
 names := hnames
 loc := hloc
 has := fun y h => by
   rcases h with h | h
   · exact (lookup_relabel_not hfree hcell h).elim
   · exact (lookup_relabel_not hfree hfree h).elim
 nd := by simp
 fr := fun _ h => nomatch h
theorem bt_sum : bootBuiltins "sum" = some (.builtin "sum") := by decide +kernel
theorem bt_sorted : bootBuiltins "sorted" = some (.builtin "sorted") := by decide +kernel
end L2
namespace L2
open PySem PySem.Spec PyProof.Rows L3
theorem lookup_relabel_free {env : Env} {k : NameKind} (hk : k = .cell ∨ k = .free) : ∀ {names : List (Str × NameKind)} {y : Str}, (∀ z ∈ names, z.2 ≠ .cell) → (names.map fun (n, k) => if (k == NameKind.free && env.scope.kind == .function && env.kindOf n == some .cell) then (n, NameKind.cell) else (n, k)).lookup y = some k → ∃ z ∈ names, z.1 = y ∧ z.2 = .free
 | [], _, _, h => by simp at h
 | (n, k') :: r, y, hc, h => by
   rw [List.map_cons] at h
   have fst : (if (k' == NameKind.free && env.scope.kind == .function && env.kindOf n == some .cell) = true then (n, NameKind.cell) else (n, k')).1 = n := by split <;> rfl
   cases hx : y == n with
   | true =>
     have e : y = n := eq_of_beq hx
     subst e
     by_cases hf : k' = .free
     · exact ⟨(y, k'), List.mem_cons_self, rfl, hf⟩
     · exfalso
       have e : (k' == NameKind.free) = false := by simpa using hf
       simp only [e, Bool.false_and, Bool.false_eq_true, if_false] at h
       rw [List.lookup_cons] at h
       rw [hx] at h
       have h' : k' = k := Option.some.inj h
       rcases hk with z | z
       · exact hc (y, k') List.mem_cons_self (h'.trans z)
       · exact hf (h'.trans z)
   | false =>
     rw [List.lookup_cons] at h
     rw [fst, hx] at h
     obtain ⟨z, m, q⟩ := lookup_relabel_free hk (fun z hz => hc z (List.mem_cons_of_mem _ hz)) h
     exact ⟨z, List.mem_cons_of_mem _ m, q⟩
theorem lookup_mem {cl : List (Str × Addr)} {y : Str} (h : y ∈ cl.map (·.1)) : ∃ c, cl.lookup y = some c := by
 induction cl with
 | nil => cases h
 | cons p r ih =>
   rw [List.lookup_cons]
   cases hx : y == p.1 with
   | true => exact ⟨_, rfl⟩
   | false =>
     rcases List.mem_cons.mp h with e | e
     · rw [e, beq_self_eq_true] at hx; cases hx
     · exact ih e
theorem mem_lookup {cl : List (Str × Addr)} {y : Str} {c : Addr} (h : cl.lookup y = some c) : (y, c) ∈ cl := by
 induction cl with
 | nil => cases h
 | cons p r ih =>
   rw [List.lookup_cons] at h
   cases hx : y == p.1 with
   | true =>
     rw [hx] at h
     have e := eq_of_beq hx
     have e2 : p.2 = c := Option.some.inj h
     rw [show p = (y, c) by rw [e, ← e2]]
     exact List.mem_cons_self
   | false => rw [hx] at h; exact List.mem_cons_of_mem _ (ih h)
theorem LcOk.free {X : Cx} {x : Str} {scope : Scope} {cl : List (Str × Addr)} {js : List Nat} (fns : List Str) (hclos : closureFor scope X.env = pure cl) (hf : cl.map (·.1) = fns) (hsub : ∀ p ∈ cl, X.env.cells.lookup p.1 = some p.2) (hcell : ∀ y ∈ scope.names, y.2 ≠ .cell) (hkind : scope.kind = .function) (hnames : ∀ y ∈ scope.names, y.2 = .local → scope.names.lookup y.1 = some .local)
   (hloc : scope.names.lookup x = some .local) (hcov : ∀ z ∈ scope.names, z.2 = .free → z.1 ∈ fns) (hnd : (x :: js.map (fun j => X.N.getD j "")).Nodup)
   (hfr : ∀ j ∈ js, ∃ y, X.N[j]? = some y ∧ X.env.kindOf y = some .cell ∧ (relabel scope X.env).names.lookup y = some .cell ∧ y ∈ fns) : LcOk X x scope cl js where
 clos := hclos
 sub := fun y c e => hsub (y, c) (mem_lookup e)
 kind := hkind
 cell := hcell
 names := hnames
 loc := hloc
 has := fun y h => by
   have : ∃ z ∈ scope.names, z.1 = y ∧ z.2 = .free := by
     rcases h with h | h
     · exact lookup_relabel_free (.inl rfl) hcell h
     · exact lookup_relabel_free (.inr rfl) hcell h
   obtain ⟨z, m, rfl, e⟩ := this
   exact lookup_mem (by rw [hf]; exact hcov z m e)
 nd := hnd
 fr := fun j hj => by
   obtain ⟨y, a, b, c, d⟩ := hfr j hj
   exact ⟨y, a, b, c, lookup_mem (by rw [hf]; exact d)⟩
end L2
namespace L2
open PySem PySem.Spec PyProof.Rows L3
def tLCIf (wi : TI) (tt : TT) (te : TE) (js : List Nat) : TE := fun σ H Q => wi σ H fun J H1 => ∃ W : Nat → Nat → List V → Hp → Prop, (∃ m, W 0 m [] H1) ∧ ∀ i m ys H, W i m ys H →
 (J.stop i H ∧ ∀ l, H l = none → Q (.ref l) (upd H l (.lst ys))) ∨ (J.go i H ∧ ys.length < sizeLine ∧ ∃ (N : VK) (S : Hp → Prop), (∀ y H2, N y H2 → ∃ m', m' < m ∧ W (i + 1) m' (ys ++ [y]) H2) ∧ (∀ H2, S H2 → ∃ m', m' < m ∧ W (i + 1) m' ys H2) ∧
   ∀ x H', J.yld i H x H' → tt (some x :: js.map (fun j => σ.getD j none)) H' fun b H2 => if b = true then te (some x :: js.map (fun j => σ.getD j none)) H2 N else S H2)
section
variable {X : Cx}
theorem lcIf_core {elt iter c : Expr} {x : Str} {px pos cpos : Pos} {scope : Scope} {cl : List (Str × Addr)} {wi : TI} {te : TE} {tt : TT} {js : List Nat} {use : Option (Value → Sem Unit)} {Qc : Value → Shared → Prop} {pins : List (Addr × Obj)} {s : Shared} {σ : St} {H : Hp} {Q : VK}
   (hc : X.calm = true) (L : LcOk X x scope cl js) (hi : PI X (.Name x px) iter wi)
   (he : ∀ C s2 H2 fp xe, PE (X.inC scope cl C s2 H2 fp (x :: js.map (fun j => X.N.getD j "")) xe) elt te)
   (ht : ∀ C s2 H2 fp xe, PT (X.inC scope cl C s2 H2 fp (x :: js.map (fun j => X.N.getD j "")) xe) c tt)
   (hs : ∀ z, foldedSetIterable iter X.env z = pure z) (I : Inv X pins σ H s) (h : tLCIf wi tt te js σ H Q)
   (fin : ∀ (D C : Addr) (H4 : Hp) (s4 : Shared) (m : Str → Option Value), s4.heap.Ns C m → FpOk X pins H4 C → (∀ h', Heap.SameBut C s4.heap h' → Inv X pins σ H4 { s4 with heap := h' }) → Q (.ref D) H4 → compPost (model X.prog X.w) X.A X.xe use Qc (.ref D) C (.ok .next) s4) :
   wpAny (model X.prog X.w) X.A (comprehension (.ListComp elt [⟨.Name x px, iter, [c], 0⟩] scope pos) scope X.env cpos (newList []) false (eval iter X.env) use) Qc X.xe s := by
 refine wpAny_comprehension_free (cl := cl) (use := use) rfl hs L.clos L.kind L.names ?_
 refine thn (hi pins s σ H _ I h) fun v s1 h1 => thn h1 fun itv s2 h2 => ?_
 obtain ⟨it, fp, tn, J, H2, e, I2, T, st2, f2, W, ⟨k0, w0⟩, turn⟩ := h2
 subst e
 refine wpAny_newObj_type (wpAny_newFunctionEnv L.cell (by intro y hy; simp at hy) (fun h₁ hns₁ hsb₁ => ?_) L.kind)
 dsimp only at hns₁ hsb₁ ⊢
 generalize hH2 : s2.heap.push { cls := .type "list", dict := none, data := .seq ([] : List Value).toArray } = Hp2 at hns₁ hsb₁ ⊢
 have hC : Hp2.objs.size = s2.heap.objs.size + 1 := by rw [← hH2, Heap.size_push]
 generalize hD0 : s2.heap.objs.size = D at hC ⊢
 generalize hC0 : Hp2.objs.size = C at hC hns₁ hsb₁ ⊢
 have hDC : D ≠ C := by omega
 have below : ∀ b, b < D → b ≠ C := fun b hb => by omega
 have old : ∀ b o, s2.heap.get? b = some o → h₁.get? b = some o := fun b o e =>
   hsb₁.extBut b o (below b (by rw [← hD0]; exact Heap.lt_size e)) (Heap.get?_push_of_some _ (hH2 ▸ Heap.get?_push_of_some _ e))
 have hacc : h₁.get? D = some { cls := .type "list", data := .seq ([] : List Value).toArray 0 } := by
   subst hD0
   exact hsb₁.extBut _ _ hDC (Heap.get?_push_of_some _ (hH2 ▸ Heap.get?_push_size _ rfl))
 have fo : ∀ b ∈ fp, ∃ o, s2.heap.get? b = some o := fun b hb => let ⟨o, e, _⟩ := T.obj _ _ st2 b hb; ⟨o, e⟩
 have flt : ∀ b ∈ fp, b < D := fun b hb => let ⟨o, e⟩ := fo b hb; by rw [← hD0]; exact Heap.lt_size e
 have st1 : tn 0 h₁ := T.keep _ _ _ st2 fun b hb o e => old b o e
 let R := compPost (model X.prog X.w) X.A X.xe use Qc (.ref D) C
 let xe := notedBy (model X.prog X.w) X.A (compEnvC scope cl C X.env) fun e s' => R (.error e) s'
 let X' := X.inC scope cl C s2 H2 fp (x :: js.map (fun j => X.N.getD j "")) xe
 have I0 : ∀ {t' : Nat}, Inv X' [(D, _)] (none :: js.map (fun j => σ.getD j none)) H2 { s2 with heap := h₁, toks := t' } := fun {t'} =>
   Inv.inC L I2 f2 fo (by omega) (by omega) hDC old hns₁ hacc (fun v z => by cases z)
 have fpk : ∀ {pD : List (Addr × Obj)} {H' : Hp}, (∀ p ∈ pD, p.1 = D) → (∀ b ∈ fp, H' b = none) → ∀ b ∈ fp, FpOk X' pD H' b := fun {pD H'} hp hn b hb => by
   refine ⟨hn b hb, below b (flt b hb), fun z => ?_, .inl hb, fun y c e => (f2 b hb).2.2.2.2.1 y c (L.sub y c e), fun p hp' z => ?_⟩
   · rcases List.mem_cons.mp (I2.stkSub b z) with e | e
     · exact (f2 b hb).2.1 e
     · exact (f2 b hb).2.2.1 e
   · have q := hp p (by simpa [X', Cx.inC] using hp')
     have := flt b hb
     rw [← z, q] at this
     exact Nat.lt_irrefl _ this
 have loop : ∀ s3 : Shared, (∃ k i ys H' its n σ0, Inv X' [(D, { cls := .type "list", data := .seq (its : List Value).toArray n })] (σ0 :: js.map (fun j => σ.getD j none)) H' s3 ∧ tn i s3.heap ∧ (∀ b ∈ fp, H' b = none) ∧ W i k ys H' ∧ Vals ys its ∧ ys.length ≤ sizeLine) →
     codeAny (model X.prog X.w) X.A (.compLoop (.ListComp elt [⟨.Name x px, iter, [c], 0⟩] scope pos) 0 (.ref it) (.ref D) (compEnvC scope cl C X.env)) R s3 := by
   rintro s3 ⟨k, hk⟩
   refine codeAny_loop rfl (fun k s3 => ∃ i ys H' its n σ0, Inv X' [(D, { cls := .type "list", data := .seq (its : List Value).toArray n })] (σ0 :: js.map (fun j => σ.getD j none)) H' s3 ∧ tn i s3.heap ∧ (∀ b ∈ fp, H' b = none) ∧ W i k ys H' ∧ Vals ys its ∧ ys.length ≤ sizeLine) (fun k s3 hI => ?_) k hk
   obtain ⟨i, ys, H3, its, n, σ0, I3, st3, fr3, w3, vy, hz⟩ := hI
   show wpAny _ _ ((compTurn (.ListComp elt [⟨.Name x px, iter, [c], 0⟩] scope pos) 0 (.ref it) (.ref D) (compEnvC scope cl C X.env)).onRaise (fun x => do noteFrame x (compEnvC scope cl C X.env); theTreesLotGoes x)) _ _ s3
   refine wpAny_noted ?_
   rw [compTurn_list]
   have hpD : ∀ {o : Obj}, ∀ p ∈ [(D, o)], p.1 = D := fun p hp => by rw [List.mem_singleton.mp hp]
   refine wpAny_bind (wpAny_standAt (wpAny_bind ?_))
   rcases turn i k ys H3 w3 with ⟨stop, qn⟩ | ⟨go, hlen, N, S, hN, hS, step⟩
   · refine thn (T.done X' rfl rfl rfl hc i _ s3 _ H3 xe I3 (fpk hpD fr3) st3 stop) fun r s4 ⟨hr, I4⟩ => ?_
     subst hr
     refine wpAny_pure ?_
     obtain ⟨m, hn, _⟩ := I4.loc
     obtain ⟨eD, nD, _⟩ := I4.pin (D, _) (List.mem_append_right _ (List.mem_singleton.mpr rfl))
     have fC : FpOk X pins (upd H3 D (.lst ys)) C := I2.fpOk (by omega) (by
       rw [upd_ne (Ne.symm hDC)]
       exact I4.free)
     refine fin D C (upd H3 D (.lst ys)) s4 m hn fC (fun h' sb => ?_) (qn D nD)
     obtain ⟨hh, g, d, t, os'⟩ := s4
     obtain rfl : os' = s2.os := I4.os
     have kp : ∀ b o, b ≠ C → hh.get? b = some o → h'.get? b = some o := fun b o hb e => (sb.2 b hb).trans e
     have lt2 : ∀ b o, s2.heap.get? b = some o → b ≠ C ∧ b ≠ D := fun b o e => by
       have q : b < D := by rw [← hD0]; exact Heap.lt_size e
       exact ⟨below b q, Nat.ne_of_lt q⟩
     have B : Un (frs X.stack) fp H2 H3 s2.heap hh := I4.base
     have hDn : H3 D = none := nD
     have I5 : Inv X pins σ (upd H3 D (.lst ys)) { s2 with heap := h', gens := g, drawn := d, toks := t } := by
       refine I2.call (h' := h') (g' := g) (d' := d) (t' := t) (ch := fp) ⟨?_, ?_, ?_, ?_, ?_, ?_, ?_⟩ ?_ I4.bare ?_
       · exact fun b o e n hb hx => kp b o (lt2 b o e).1 (B.keep b o e n hb hx)
       · intro b o e n hb hx
         obtain ⟨sl, q⟩ := B.slot b o e n hb hx
         exact ⟨sl, kp b _ (lt2 b o e).1 q⟩
       · intro b o e n hx
         rw [upd_ne (lt2 b o e).2]
         exact B.free b o e n hx
       · intro b o e hx
         obtain ⟨o', q⟩ := B.there b o e hx
         exact ⟨o', kp b o' (lt2 b o e).1 q⟩
       · intro b xs e
         have q := B.tups b xs e
         rw [upd_ne (ne_of_none q hDn)]
         exact q
       · intro b o u e
         have q := B.frzs b o u e
         rw [upd_ne (ne_of_none q hDn)]
         exact q
       · intro b ps e
         obtain ⟨more, q⟩ := B.tbls b ps e
         exact ⟨more, by rw [upd_ne (ne_of_none q hDn)]; exact q⟩
       · intro b u e
         by_cases hb : b = D
         · subst hb
           rw [upd_same] at e
           cases e
           exact ⟨hz, its, n, vy, kp _ _ hDC eD⟩
         · rw [upd_ne hb] at e
           have nC : ∀ c o, H3 c = some o → c ≠ C := fun c o q => ne_of_none q I4.free
           refine (I4.hok b u e).stay (fun c v hc' q => kp c v ?_ q) (fun c q => by rw [upd_ne (ne_of_none q hDn)]; exact q) fun c xs q => by rw [upd_ne (ne_of_none q hDn)]; exact q
           rcases hc' with z | z
           · rw [z]; exact nC b u e
           · exact nC c _ z
       · intro b hb
         obtain ⟨_, f1, _, f3, f4, f5⟩ := f2 b hb
         exact ⟨f3, f1, f4, f5⟩
     exact I5
   · refine thn (T.item X' rfl rfl rfl hc i _ s3 _ H3 xe I3 (fpk hpD fr3) st3 go) fun r s4 ⟨u, hr, h4⟩ => ?_
     subst hr
     refine wpAny_bind (thn h4 fun _ s5 ⟨xv, H5, I5, r5, y5, st5, fr5⟩ => ?_)
     have I5' := I5.pinned (fpk hpD fr5) (T.obj _ _ st5)
     refine wpAny_bind (thn (pg_name (X := X') (i := 0) L.nd rfl (Or.inl (lookup_relabel_local L.loc)) (Or.inr (lookup_relabel_local L.loc)) _ s5 _ H5 xv u (fun σ6 H6 => σ6 = some xv :: js.map (fun j => σ.getD j none) ∧ H6 = H5) I5' r5 ⟨rfl, rfl⟩) fun _ s6 ⟨σ6, H6, I6, e6, e6'⟩ => ?_)
     subst e6 e6'
     refine wpAny_bind (thn (wpAny_tests_one (ht C s2 H2 fp xe _ s6 _ _ _ I6 (step xv _ y5))) fun ok s6b ⟨H6b, I6b, q6b⟩ => ?_)
     cases ok with
     | false =>
       have q6b : S H6b := q6b
       obtain ⟨m', hm, w7⟩ := hS H6b q6b
       have pinf : ∀ b ∈ fp, ∀ o, s5.heap.get? b = some o → s6b.heap.get? b = some o ∧ H6b b = none := fun b hb o e => by
         have z := I6b.pin (b, o) (List.mem_append_right _ (List.mem_append_right _ (mem_pinsAt hb e)))
         exact ⟨z.1, z.2.1⟩
       refine wpAny_pure ⟨rfl, m', hm, i + 1, ys, H6b, its, n, some xv, I6b.unpinned, T.keep _ _ _ st5 fun b hb o e => (pinf b hb o e).1, fun b hb => ?_, w7, vy, hz⟩
       obtain ⟨o, e, _⟩ := T.obj _ _ st5 b hb
       exact (pinf b hb o e).2
     | true =>
       have q6b : te (some xv :: js.map (fun j => σ.getD j none)) H6b N := q6b
       refine wpAny_bind (wpAny_bind (thn (he C s2 H2 fp xe _ s6b _ _ _ I6b q6b) fun y s7 ⟨yv, H7, I7, ry, n7⟩ => ?_))
       obtain ⟨m', hm, w7⟩ := hN yv H7 n7
       have I7' := I7.unpinned
       obtain ⟨eD, nD, neC, nfs, _⟩ := I7'.pin (D, _) (List.mem_append_right _ (List.mem_singleton.mpr rfl))
       have eD' : s7.heap.get? D = some { cls := .type "list", data := .seq its.toArray n } := eD
       have lv := vy.length
       refine wpAny_bind (call_meets F.slot_list_append ⟨_, eD', rfl⟩ F.entry_list_append (F.args_list_append_2 _ _) (PySem.list_append D its.toArray n y (by rw [List.size_toArray]; omega)) ⟨eD', ?_⟩)
       refine wpAny_pure (wpAny_pure ⟨rfl, m', hm, i + 1, ys ++ [yv], H7, its ++ [y], ?_⟩)
       have q := PySem.IsL.update eD' (fun a : Array Value => a.push y)
       have I8 : Inv X' [] (some xv :: js.map (fun j => σ.getD j none)) H7 { s7 with heap := s7.heap.update D (Obj.mapSeq (fun a : Array Value => a.push y)) } :=
         (I7'.pins_of (pins' := []) (fun p hp => nomatch hp)).turned (t' := s7.toks) (it := D) (fun b o hb e => (Heap.get?_update_other s7.heap _ (Ne.symm hb)).trans e) nD neC (.inr (by show s2.heap.objs.size ≤ D; omega))
           (fun z c e w => by
             obtain ⟨v', o', ho', _⟩ := I2.cell z c (L.sub z c e)
             have := Heap.lt_size ho'
             rw [w, hD0] at this
             exact Nat.lt_irrefl _ this) (fun p hp => nomatch hp)
       have pinf : ∀ b ∈ fp, ∀ o, s5.heap.get? b = some o → s7.heap.get? b = some o ∧ H7 b = none := fun b hb o e => by
         have z := I7.pin (b, o) (List.mem_append_right _ (List.mem_append_right _ (mem_pinsAt hb e)))
         exact ⟨z.1, z.2.1⟩
       obtain ⟨n', q'⟩ : ∃ n', (s7.heap.update D (Obj.mapSeq (fun a : Array Value => a.push y))).get? D = some { cls := .type "list", data := .seq (its ++ [y]).toArray n' } := by
         rw [show (its ++ [y]).toArray = its.toArray.push y by simp]
         exact ⟨_, q⟩
       refine ⟨n', some xv, I8.pins_of fun p hp => ?_, ?_, fun b hb => ?_, w7, vy.append (.cons ry .nil), by rw [List.length_append, List.length_singleton]; omega⟩
       · rw [List.mem_singleton.mp hp]
         exact ⟨q', nD, neC, nfs, fun v z => by cases z⟩
       · refine T.keep _ _ _ st5 fun b hb o e => ?_
         have hb' : D ≠ b := fun z => by
           have := flt b hb
           rw [← z] at this
           exact Nat.lt_irrefl _ this
         exact (Heap.get?_update_other s7.heap _ hb').trans (pinf b hb o e).1
       · obtain ⟨o, e, _⟩ := T.obj _ _ st5 b hb
         exact (pinf b hb o e).2
 have start : ∀ {t' : Nat}, ∃ k i ys H' its n σ0, Inv X' [(D, { cls := .type "list", data := .seq (its : List Value).toArray n })] (σ0 :: js.map (fun j => σ.getD j none)) H' { s2 with heap := h₁, toks := t' } ∧ tn i h₁ ∧ (∀ b ∈ fp, H' b = none) ∧ W i k ys H' ∧ Vals ys its ∧ ys.length ≤ sizeLine := fun {t'} =>
   ⟨k0, 0, [], H2, [], 0, none, I0, st1, fun b hb => (f2 b hb).1, w0, .nil, Nat.zero_le _⟩
 exact codeAny_compStart_list (loop _ start) (T.self X.A 0 _ _ _ st1 (loop _ start))
theorem pe_lcIf {elt iter c : Expr} {x : Str} {px pos : Pos} {scope : Scope} {cl : List (Str × Addr)} {wi : TI} {te : TE} {tt : TT} (js : List Nat) (hc : X.calm = true) (L : LcOk X x scope cl js) (hi : PI X (.Name x px) iter wi)
   (ht : ∀ C s2 H2 fp xe, PT (X.inC scope cl C s2 H2 fp (x :: js.map (fun j => X.N.getD j "")) xe) c tt)
   (he : ∀ C s2 H2 fp xe, PE (X.inC scope cl C s2 H2 fp (x :: js.map (fun j => X.N.getD j "")) xe) elt te)
   (hs : ∀ z, foldedSetIterable iter X.env z = pure z := by intro _; rfl) :
   PE X (.ListComp elt [⟨.Name x px, iter, [c], 0⟩] scope pos) (tLCIf wi tt te js) := by
 intro pins s σ H Q I h
 rw [eval_ListComp]
 exact lcIf_core (use := none) hc L hi he ht hs I h fun D C H4 s4 m hn _ I4 q => ⟨m, hn, fun h' sb => ⟨.ref D, H4, I4 h' sb, rfl, q⟩⟩
end
end L2
namespace L2
open PySem PySem.Spec PyProof.Rows L3
def RawD (h : Heap) (d : Addr) (es : Array DictEntry) (ep : Nat) : Prop := ∃ o, h.get? d = some o ∧ o.ExactDict ∧ o.data = .dict es ep
section
variable {prog : Program} {w : World} {A : Around} {E : Value → Shared → Prop} {s : Shared}
theorem RawD.typeIs {d : Addr} {es : Array DictEntry} {ep : Nat} (x : RawD s.heap d es ep) : s.TypeIs (.ref d) "dict" := by
 obtain ⟨o, ho, hc, _⟩ := x
 exact ⟨o, ho, hc.1⟩
theorem raw_iter {d : Addr} {es : Array DictEntry} {ep : Nat} {Q : Value → Shared → Prop} (hd : (d == sysModules) = false) (hm : RawD s.heap d es ep)
   (hQ : Q (.ref s.heap.objs.size) { s with heap := s.heap.push { cls := .type "dict_keyiterator", data := .fields #[.ref d, .int 0 0, .int es.size 0, .int ep 0] } }) :
   wpAny (model prog w) A (pyIter (.ref d)) Q E s := by
 have hT := hm.typeIs
 obtain ⟨o, ho, hc, hdat⟩ := hm
 refine wpAny_pyIter_slot hT F.slot_dict_iter (wpAny_call_entry F.slot_dict_iter hT F.entry_dict_iter ?_ (F.args_dict_iter_1 _))
 unfold Builtin.«dict.__iter__» Builtin.Dict.dictSlotNone
 refine wpAny_bind (wpAny_bind (wpAny_notOrdered_dict hT ?_))
 show wpAny _ _ (pure (Value.ref d)) _ _ s
 refine wpAny_pure ?_
 show wpAny _ _ (Builtin.Dict.showsAll d >>= _) _ _ s
 unfold Builtin.Dict.showsAll
 rw [if_neg (by rw [hd]; exact Bool.false_ne_true)]
 refine wpAny_bind (wpAny_pure (wpAny_bind (wpAny_dictEntries ho hdat (wpAny_bind (wpAny_dictEpoch ho hdat ?_)))))
 refine wpAny_bind (wpAny_newObj_type (wpAny_pure ⟨_, rfl, "dict_keyiterator", _, ⟨_, Heap.get?_push_size _ rfl, rfl⟩, F.slot_dict_keyiterator_next.lookup, ?_⟩))
 simpa [rawInt] using hQ
theorem raw_next {it d : Addr} {i ep : Nat} {es : Array DictEntry} {Q : Option Value → Shared → Prop} (hh : A.handled = none) (hit : s.heap.IsKeyIter it d i es.size ep) (hm : RawD s.heap d es ep)
   (h1 : ∀ (h : i < es.size) h', h'.IsKeyIter it d (i + 1) es.size ep → Heap.SameBut it s.heap h' → Q (some es[i].key) { s with heap := h' })
   (h2 : es.size ≤ i → ∀ h', Heap.ExtBut it s.heap h' → Q none { s with heap := h' }) : wpAny (model prog w) A (pyNext (.ref it)) Q E s := by
 obtain ⟨o, ho, hc, hd⟩ := id hit
 obtain ⟨od, hod, hcd, hdd⟩ := id hm
 unfold pyNext
 refine wpAny_bind (wpAny_attempt (wpAny_callSpecial?_slot (name := Str.ofString "__next__") hit.typeIs F.slot_dict_keyiterator_next
   (wpAny_call_entry F.slot_dict_keyiterator_next hit.typeIs F.entry_dict_keyiterator_next ?_ (F.args_dict_keyiterator_next_1 _))))
 refine wpAny_bind (wpAny_pure (wpAny_bind (wpAny_bind ?_)))
 first | refine wpAny_bind (wpAny_typeNameOfWhole_keyiter hit.typeIs (wpAny_pure ?_)) | refine wpAny_bind (wpAny_typeNameOf_keyiter hit.typeIs (wpAny_pure ?_))
 refine wpAny_bind (wpAny_fieldsOf ho hd ?_)
 have hown : Builtin.Dict_items.ownsTuple "dict_keyiterator" = false := by decide
 simp only [hown, Bool.false_eq_true, if_false]
 show wpAny _ _ (if (Value.ref d == Value.none) = true then _ else _) _ _ s
 rw [if_neg (show ¬ ((Value.ref d == Value.none) = true) from Bool.false_ne_true)]
 refine wpAny_bind (wpAny_pure (wpAny_bind (wpAny_dictEntries hod hdd ?_)))
 rw [if_neg (by simp)]
 refine wpAny_bind (wpAny_pure (wpAny_bind (wpAny_dictEpoch hod hdd ?_)))
 rw [if_neg (by simp)]
 refine wpAny_pure ?_
 rcases Nat.lt_or_ge i es.size with hlt | hge
 · simp only [show ¬ ((i : Int) < 0) from by omega, if_false, Int.toNat_natCast, Array.getElem?_eq_getElem hlt]
   refine wpAny_bind ?_
   first | refine wpAny_bind (wpAny_typeNameOfWhole_keyiter hit.typeIs (wpAny_pure ?_)) | refine wpAny_bind (wpAny_typeNameOf_keyiter hit.typeIs (wpAny_pure ?_))
   refine wpAny_bind (wpAny_isOneOf_keyiter hit.typeIs ?_)
   show wpAny _ _ (setField (.ref it) 1 (rawInt ((i : Int) + 1)) >>= _) _ _ s
   refine wpAny_bind (wpAny_setField ho hd (by simp) ?_)
   have hit' : (s.heap.update it (Obj.mapFields (·.setIfInBounds 1 (rawInt ((i : Int) + 1))))).IsKeyIter it d (i + 1) es.size ep :=
     ⟨_, Heap.get?_update_self _ ho (Obj.isFreed_of_fields (Obj.data_mapFields hd _)), (Obj.cls_mapFields ..).trans hc, by rw [Obj.data_mapFields hd]; simp [rawInt]⟩
   refine wpAny_bind (wpAny_holding ?_)
   refine wpAny_bind (wpAny_isOneOf_keyiter (s := { s with heap := s.heap.update it (Obj.mapFields (·.setIfInBounds 1 (rawInt ((i : Int) + 1)))) }) hit'.typeIs ?_)
   show wpAny _ _ (pure es[i].key) _ _ _
   exact wpAny_pure (wpAny_pure ⟨_, rfl, wpAny_pure (h1 hlt _ hit' (Heap.SameBut.update ..))⟩)
 · simp only [show ¬ ((i : Int) < 0) from by omega, if_false, Int.toNat_natCast, Array.getElem?_eq_none hge]
   refine wpAny_bind ?_
   first | refine wpAny_bind (wpAny_typeNameOfWhole_keyiter hit.typeIs (wpAny_pure ?_)) | refine wpAny_bind (wpAny_typeNameOf_keyiter hit.typeIs (wpAny_pure ?_))
   show wpAny _ _ (setField (.ref it) 0 .none >>= _) _ _ s
   refine wpAny_bind (wpAny_setField ho hd (by simp) ?_)
   show wpAny _ _ (newExc (.type "StopIteration") [] >>= _) _ _ _
   refine wpAny_bind ?_
   simp only [newExc, newTuple]
   refine wpAny_bind (wpAny_newObj_type ?_ (by size_fits))
   refine wpAny_bind (m := firstArgMember _ _) (wpAny_of_eq (a := Value.none) (by first | rfl | (simp only [firstArgMember]; rfl)) ?_)
   refine wpAny_newObj_type ?_ (by size_fits)
   simp only [raiseNew]
   refine wpAny_bind (wpAny_handled ?_)
   rw [show A.in1.handled = none from hh]
   refine wpAny_bind (wpAny_pure (wpAny_throw ?_))
   refine wpAny_bind (wpAny_isInstance (T := "StopIteration") (b := true) ⟨_, Heap.get?_push_size _ rfl, rfl⟩ isSubtype_stop ?_)
   exact wpAny_pure (h2 hge _ (((Heap.SameBut.update ..).extBut.push _).push _))
end
section
variable {X : Cx}
end
theorem bt_max : bootBuiltins "max" = some (.builtin "max") := by decide +kernel
end L2
namespace L2
open PySem PySem.Spec PyProof.Rows L3
section
variable {X : Cx} {pins : List (Addr × Obj)} {σ : St} {H : Hp} {s : Shared}
end
section
variable {X : Cx}
end
end L2
namespace L2
open PySem PySem.Spec PyProof.Rows L3
def DefM (K : PySem.W.Frag) (C : Addr) (m qual : Str) (st : Stmt) (dV : Value) : Prop := ∃ f fd, FunD K m qual st f fd dV ∧ Meth K C m f
def CalM (P : Program) (w : World) (K : PySem.W.Frag) (mg : Str → Option Value) (base : Heap) (CX : CXT) (cm : Bool) (k : Nat) (C : Addr) (m : Str) (ps : List Str) (ds : List V) (sp : Sp) : Prop :=
 ∃ f fd dvs, FnOk P w K mg base CX cm k f fd ps sp ∧ Meth K C m f ∧ Binds K fd ps [] ∧ Vals ds dvs ∧ Binds K fd ps dvs
def DefI (K : PySem.W.Frag) (C : Addr) (qual : Str) (st : Stmt) (dV : Value) : Prop := ∃ f fd, FunD K "__init__" qual st f fd dV ∧ Mk K C f
def CalI (P : Program) (w : World) (K : PySem.W.Frag) (mg : Str → Option Value) (base : Heap) (CX : CXT) (cm : Bool) (k : Nat) (C : Addr) (ps : List Str) (ds : List V) (sp : Sp) : Prop :=
 ∃ f fd dvs, FnOk P w K mg base CX cm k f fd ps sp ∧ Mk K C f ∧ Binds K fd ps [] ∧ Vals ds dvs ∧ Binds K fd ps dvs
theorem ix_seqC {X : Cx} {scope : Scope} {cl : List (Str × Addr)} {C : Addr} {s2 : Shared} {H2 : Hp} {fp : List Addr} {N' : List Str} {xe : Value → Shared → Prop} : IxR (X.inC scope cl C s2 H2 fp N' xe) (rIx X.K) := ix_seq (X := X.inC scope cl C s2 H2 fp N' xe)
end L2
namespace L2
open PySem PySem.Spec PyProof.Rows L3
section
variable {X : Cx}
end
end L2
namespace L2
open PySem PySem.Spec PyProof.Rows L3
theorem lc_range {lo : Int} {n : Nat} {T : V → Hp → VK → Prop} {R : Addr → Hp → List V → Prop} {H : Hp} (Pv : Nat → List V → Hp → Prop) (h0 : Pv 0 [] H) (hn : n ≤ sizeLine) (hl : ∀ i ys H, i ≤ n → Pv i ys H → ys.length = i)
   (hs : ∀ i ys H, i < n → Pv i ys H → T (.int (lo + i)) H fun y H2 => Pv (i + 1) (ys ++ [y]) H2) (hd : ∀ ys H, Pv n ys H → ∀ l, H l = none → R l H ys) :
   ∃ W : Nat → Nat → List V → Hp → Prop, (∃ m, W 0 m [] H) ∧ ∀ i m ys H, W i m ys H →
     ((Itr lo n).stop i H ∧ ∀ l, H l = none → R l H ys) ∨ ((Itr lo n).go i H ∧ ys.length < sizeLine ∧ ∃ N : VK, (∀ y H2, N y H2 → ∃ m', m' < m ∧ W (i + 1) m' (ys ++ [y]) H2) ∧ ∀ x H', (Itr lo n).yld i H x H' → T x H' N) := by
 refine ⟨fun i m ys H => m = n - i ∧ i ≤ n ∧ Pv i ys H, ⟨n, by simp, Nat.zero_le _, h0⟩, ?_⟩
 rintro i m ys H ⟨rfl, hi, p⟩
 have hy := hl i ys H hi p
 by_cases hlt : i < n
 · refine .inr ⟨hlt, by omega, fun y H2 => Pv (i + 1) (ys ++ [y]) H2, fun y H2 p' => ⟨n - (i + 1), by omega, rfl, hlt, p'⟩, fun x H' ⟨e, y⟩ => ?_⟩
   subst e y
   exact hs i ys _ hlt p
 · have e : i = n := by omega
   subst e
   exact .inl ⟨Nat.le_refl _, hd ys H p⟩
end L2
namespace L2
open PySem PySem.Spec PyProof.Rows L3
section
variable {X : Cx}
theorem Inv.laidAll {pins : List (Addr × Obj)} {σ : St} {H H' : Hp} {s : Shared} {h' : Heap} {t' : Nat} (I : Inv X pins σ H s) (k : ∀ b u, s.heap.get? b = some u → h'.get? b = some u) (same : ∀ b o, H b = some o → H' b = some o)
   (new : ∀ b, b < s.heap.objs.size → H b = none → H' b = none) (ok : ∀ b o, H b = none → H' b = some o → ObjOk X.prog X.w H' h' b o) : Inv X pins σ H' { s with heap := h', toks := t' } := by
 refine I.un ⟨fun b u q _ _ _ => k b u q, fun b u q _ _ _ => ⟨u.slots, k b u q⟩, fun b u q n _ => new b (Heap.lt_size q) n, fun b u q _ => ⟨u, k b u q⟩, fun b xs q => same _ _ q, fun b o u q => same _ _ q, fun b ps q => ⟨#[], by rw [same _ _ q]; simp⟩⟩ fun b o e => ?_
 cases hb : H b with
 | none => exact ok b o hb e
 | some o1 =>
   have e2 := same b o1 hb
   rw [e] at e2
   cases e2
   exact (I.hok b _ hb).stay (fun c v _ q => k c v q) (fun c q => same _ _ q) fun c xs q => same _ _ q
def eqT (K : PySem.W.Frag) (H : Hp) (x y : V) : Prop := (x = y ∧ eqPl x = true) ∨ ∃ a b xs, x = .ref a ∧ y = .ref b ∧ SqT K H a xs ∧ SqT K H b xs ∧ ∀ z ∈ xs, eqPl z = true
theorem Inv.eqT {pins : List (Addr × Obj)} {σ : St} {H : Hp} {s : Shared} {x y : V} {v u : Value} {A : Around} (I : Inv X pins σ H s) (hu : A.units < cLine) (e : eqT X.K H x y) (rx : RelV x v) (ry : RelV y u) : SeqAt.EqAt A s v u true := by
 rcases e with ⟨rfl, hp⟩ | ⟨a, b, xs, rfl, rfl, ha, hb, hp⟩
 · exact eqAt_self hp rx ry
 · cases rx
   cases ry
   by_cases hab : a = b
   · subst hab
     exact SeqAt.EqAt.same _
   obtain ⟨its, r, pl, hz⟩ := I.tuple ha
   obtain ⟨its2, r2, pl2, hz2⟩ := I.tuple hb
   have l1 := r.length
   have l2 := r2.length
   have h := SeqAt.RcAt.tuples (A := A) (e := fun _ => true) (show s.heap.IsTuple a its.toArray from pl) (show s.heap.IsTuple b its2.toArray from pl2) hu (fun j h1 h2 => by
     simp only [List.size_toArray] at h1 h2
     obtain ⟨x, e, rx⟩ := vals_at r j h1
     obtain ⟨x2, e2, rx2⟩ := vals_at r2 j h2
     rw [e] at e2
     cases e2
     simp only [List.getElem_toArray]
     exact eqAt_self (hp x (List.mem_of_getElem? e)) rx rx2)
   have hb : ((List.range (min its.toArray.size its2.toArray.size)).all (fun _ => true) && its.toArray.size == its2.toArray.size) = true := by
     simp only [List.size_toArray]
     rw [← l1, ← l2]
     simp
   rw [hb] at h
   exact SeqAt.EqAt.of_refs hab h
def EqLs (K : PySem.W.Frag) (H : Hp) (xs ys : List V) : Prop := xs.length = ys.length ∧ ∀ (j : Nat) x y, xs[j]? = some x → ys[j]? = some y → eqT K H x y
theorem op_eqD {cm : Bool} {k : Nat} (hr : Room cm k X.A) : OpR X (compareOp .Eq) (fun x y H Q => ∃ a b xs ys, x = .ref a ∧ y = .ref b ∧ SqL X.K H a xs ∧ SqL X.K H b ys ∧ EqLs X.K H xs ys ∧ Q (.bl true) H) := by
 intro pins s σ H x y v u Q I rx ry h
 obtain ⟨a, b, xs, ys, rfl, rfl, ha, hb, ⟨hl, he⟩, q⟩ := h
 cases rx
 cases ry
 obtain ⟨its, r, pl, hz⟩ := I.list ha
 obtain ⟨its2, r2, pl2, hz2⟩ := I.list hb
 have l1 := r.length
 have l2 := r2.length
 have hu : X.A.units < cLine := by have := hr.un; omega
 have hu1 : X.A.in1.units < cLine := by have := hr.un; show X.A.units + 1 < cLine; omega
 refine SeqAt.eq_listAt (e := fun _ => true) pl.isList pl2.isList (by simp only [List.size_toArray]; omega) hu (fun j h1 h2 => ?_) ?_
 · simp only [List.size_toArray] at h1 h2
   obtain ⟨x, e, rx⟩ := vals_at r j h1
   obtain ⟨x2, e2, rx2⟩ := vals_at r2 j h2
   simp only [List.getElem_toArray]
   exact I.eqT hu1 (he j x x2 e e2) rx rx2
 · rw [show ((List.range its.toArray.size).all fun _ => true) = true by simp]
   exact ⟨.bl true, H, I, rfl, q⟩
theorem op_neD {cm : Bool} {k : Nat} (hr : Room cm k X.A) : OpR X (compareOp .NotEq) (fun x y H Q => ∃ a b xs ys, x = .ref a ∧ y = .ref b ∧ SqL X.K H a xs ∧ SqL X.K H b ys ∧ EqLs X.K H xs ys ∧ Q (.bl false) H) := by
 intro pins s σ H x y v u Q I rx ry h
 obtain ⟨a, b, xs, ys, rfl, rfl, ha, hb, ⟨hl, he⟩, q⟩ := h
 cases rx
 cases ry
 obtain ⟨its, r, pl, hz⟩ := I.list ha
 obtain ⟨its2, r2, pl2, hz2⟩ := I.list hb
 have l1 := r.length
 have l2 := r2.length
 have hu : X.A.units < cLine := by have := hr.un; omega
 have hu1 : X.A.in1.units < cLine := by have := hr.un; show X.A.units + 1 < cLine; omega
 refine SeqAt.RcNeAt.lists (e := fun _ => true) pl.isList pl2.isList (by simp only [List.size_toArray]; omega) hu (fun j h1 h2 => ?_) _ _ _ _ ?_
 · simp only [List.size_toArray] at h1 h2
   obtain ⟨x, e, rx⟩ := vals_at r j h1
   obtain ⟨x2, e2, rx2⟩ := vals_at r2 j h2
   simp only [List.getElem_toArray]
   exact I.eqT hu1 (he j x x2 e e2) rx rx2
 · rw [show ((List.range its.toArray.size).all fun _ => true) = true by simp]
   exact ⟨.bl false, H, I, rfl, q⟩
theorem EqLs.refl {K : PySem.W.Frag} {H : Hp} {xs : List V} (h : ∀ z ∈ xs, eqPl z = true) : EqLs K H xs xs := ⟨rfl, fun j x y e1 e2 => by
 rw [e1] at e2
 cases e2
 exact .inl ⟨rfl, h x (List.mem_of_getElem? e1)⟩⟩
def rJoin (K : PySem.W.Frag) : V → List V → Hp → VK → Prop := fun x vs H Q => ∃ (z : Str) (p : Addr) (zs : List Str), x = .str z ∧ vs = [.ref p] ∧ SqL K H p (zs.map V.str) ∧ JoinOk z zs = true ∧ Q (.str (Txt.join z zs)) H
theorem strs_of : ∀ {zs : List Str} {its : List Value}, Vals (zs.map V.str) its → ∃ l : List (Str × Tok), its = strValues l ∧ l.map (·.1) = zs
 | [], _, .nil => ⟨[], rfl, rfl⟩
 | z :: zs, _, .cons (b := v) r t => by
   obtain ⟨l, rfl, e⟩ := strs_of t
   obtain ⟨tk, rfl⟩ := r
   exact ⟨(z, tk) :: l, rfl, by rw [List.map_cons, e]⟩
theorem mt_join : MtR X "str.join" (rJoin X.K) := by
 intro pins s σ H x vs v us Q I rx rv h
 obtain ⟨z, p, zs, rfl, rfl, hS, ok, q⟩ := h
 obtain ⟨t, rfl⟩ := rx
 obtain ⟨u, rfl, ru⟩ := rv.one
 cases ru
 obtain ⟨its, r, pl, hz⟩ := I.list hS
 obtain ⟨l, rfl, e⟩ := strs_of r
 exact SC.join (l := l) pl.isList e ok fun t' k => ⟨.str _, H, I.kept (t' := k) fun _ _ e => e, ⟨t', rfl⟩, q⟩
theorem rel_key {P : Program} {w : World} {k : Key} {u : Value} (h : (mixKind P w).is k u = true) : RelV (kV k) u := by
 rcases keyIs_shape (show keyIs k u = true from h) with ⟨i, t, rfl, rfl⟩ | ⟨x, t, rfl, rfl⟩
 · exact ⟨t, rfl⟩
 · exact ⟨t, rfl⟩
def ivw (v d : Addr) : HO := .ext fun h => h.IsItemsView v d
def rItems : V → List V → Hp → VK → Prop := fun x vs H Q => ∃ (d : Addr) (kvs : List (Key × V)), x = .ref d ∧ vs = [] ∧ H d = some (.dK kvs) ∧ ∀ v, H v = none → Q (.ref v) (upd H v (ivw v d))
theorem mt_items : MtR X "dict.items" rItems := by
 intro pins s σ H x vs v us Q I rx rv h
 obtain ⟨d, kvs, rfl, rfl, hd, q⟩ := h
 cases rx
 cases rv
 obtain ⟨z, hsm, xs, rel, dd⟩ := dk_of I.hok hd
 refine call_meetsIn PySem.F.slot_dict_items dd.typeIs PySem.F.entry_dict_items (PySem.F.args_dict_items_1 _) (meets_dict_items (mixKind X.prog X.w) d hsm) ⟨⟨xs, dd⟩, ?_⟩
 refine ⟨.ref s.heap.objs.size, _, I.laid (a := s.heap.objs.size) (o := ivw s.heap.objs.size d) (t' := s.toks) (fun _ _ q => Heap.get?_push_of_some _ q) (Nat.le_refl _) ?_, rfl, q _ I.fresh⟩
 exact ⟨⟨_, Heap.get?_push_size _ rfl, rfl, rfl⟩, ⟨_, Heap.get?_push_size _ rfl⟩, fun h1 h2 ⟨o, ho, hc, hd⟩ k => ⟨o, k o ho, hc, hd⟩⟩
def hpPairs (H : Hp) (l : Addr) (as : List Addr) (kvs : List (Key × V)) : Hp := fun b => if b = l then some (.lst (as.map V.ref)) else match (as.zip kvs).find? (fun p => decide (p.1 = b)) with
 | some p => some (.tup [kV p.2.1, p.2.2])
 | none => H b
theorem find_zip : ∀ (as : List Addr) (kvs : List (Key × V)), as.Nodup → ∀ (j : Nat) a kv, as[j]? = some a → kvs[j]? = some kv → (as.zip kvs).find? (fun p => decide (p.1 = a)) = some (a, kv)
 | [], _, _, j, a, kv, h, _ => by simp at h
 | _ :: _, [], _, j, a, kv, _, h => by simp at h
 | b :: as, y :: kvs, nd, 0, a, kv, h1, h2 => by
   cases h1
   cases h2
   simp
 | b :: as, y :: kvs, nd, j + 1, a, kv, h1, h2 => by
   have nd' := List.nodup_cons.mp nd
   have h1' : as[j]? = some a := by simpa using h1
   have h2' : kvs[j]? = some kv := by simpa using h2
   have ne : ¬ b = a := fun z => nd'.1 (by rw [z]; exact List.mem_of_getElem? h1')
   rw [List.zip_cons_cons, List.find?_cons]
   simp only [ne, decide_false]
   exact find_zip as kvs nd'.2 j a kv h1' h2'
theorem find_zip_not {as : List Addr} {kvs : List (Key × V)} {b : Addr} (h : b ∉ as) : (as.zip kvs).find? (fun p => decide (p.1 = b)) = none := by
 rw [List.find?_eq_none]
 intro p hp
 have : p.1 ∈ as := (List.of_mem_zip hp).1
 simp only [decide_eq_true_eq]
 intro z
 exact h (z ▸ this)
def rListItems : List V → Hp → VK → Prop := fun xs H Q => ∃ (v d : Addr) (kvs : List (Key × V)), xs = [.ref v] ∧ H v = some (ivw v d) ∧ H d = some (.dK kvs) ∧
 ∀ (l : Addr) (as : List Addr) (H' : Hp), Same H H' → H l = none → H' l = some (.lst (as.map V.ref)) → as.length = kvs.length → (∀ (j : Nat) a kv, as[j]? = some a → kvs[j]? = some kv → H' a = some (.tup [kV kv.1, kv.2])) → Q (.ref l) H'
theorem call_list_items (hc : X.calm = true) : CallR X (.type "list") rListItems := by
 intro pins s σ H xs us Q I rv h
 obtain ⟨v, d, kvs, rfl, hv, hd, q⟩ := h
 obtain ⟨u, rfl, ru⟩ := rv.one
 cases ru
 obtain ⟨z, hsm, vs, rel, dd⟩ := dk_of I.hok hd
 obtain ⟨ep, da⟩ := dd.dictAt
 have hvw : s.heap.IsItemsView v d := (I.hok v _ hv).1
 have rl : kvs.length = vs.length := rel.length
 refine PySem.W.kdx_call (knd := mixKind X.prog X.w) (kvs := vs) (ep := ep) (I.ok.hd hc) hvw da (by omega) fun h' tk acc c as hk hS hl hG hacc => ?_
 have nd : as.Nodup := hG.rise.imp fun h => Nat.ne_of_lt h
 have above := hG.above
 have same : Same H (hpPairs H s.heap.objs.size as kvs) := fun b o e => by
   have hb : b < s.heap.objs.size := (I.hok b o e).lt
   unfold hpPairs
   rw [if_neg (Nat.ne_of_lt hb), find_zip_not (fun m => absurd (above b m) (Nat.not_lt.mpr (Nat.le_of_lt hb)))]
   exact e
 have hpair : ∀ (j : Nat) a kv, as[j]? = some a → kvs[j]? = some kv → hpPairs H s.heap.objs.size as kvs a = some (.tup [kV kv.1, kv.2]) := fun j a kv e1 e2 => by
   unfold hpPairs
   rw [if_neg (Nat.ne_of_gt (above a (List.mem_of_getElem? e1))), find_zip as kvs nd j a kv e1 e2]
 refine ⟨.ref s.heap.objs.size, hpPairs H s.heap.objs.size as kvs, I.laidAll hk same (fun b hb n => ?_) (fun b o n e => ?_), rfl, q _ as _ same I.fresh (by unfold hpPairs; rw [if_pos rfl]) (by omega) hpair⟩
 · unfold hpPairs
   rw [if_neg (Nat.ne_of_lt hb), find_zip_not (fun m => absurd (above b m) (Nat.not_lt.mpr (Nat.le_of_lt hb)))]
   exact n
 · by_cases hb : b = s.heap.objs.size
   · subst hb
     unfold hpPairs at e
     rw [if_pos rfl] at e
     cases e
     refine ⟨by rw [List.length_map]; omega, as.map Value.ref, c, ?_, ?_⟩
     · have all : ∀ l : List Addr, Vals (l.map V.ref) (l.map Value.ref) := fun l => by
         induction l with
         | nil => exact .nil
         | cons a l ih => exact .cons rfl ih
       exact all as
     · rw [hS, ← hacc]
   · by_cases hm : b ∈ as
     · obtain ⟨j, hj⟩ := List.mem_iff_getElem?.mp hm
       obtain ⟨key, k, x, e1, e2, e3⟩ := hG.pairs j b hj
       obtain ⟨kv, hkv, ek, ev⟩ : ∃ kv, kvs[j]? = some kv ∧ kv.1 = k ∧ RelV kv.2 x := by
         have all : ∀ {l : List (Key × V)} {m : List (Key × Value)}, KV l m → ∀ (j : Nat) p, m[j]? = some p → ∃ kv, l[j]? = some kv ∧ kv.1 = p.1 ∧ RelV kv.2 p.2 := by
           intro l m r
           unfold KV at r
           induction r with
           | nil => intro j p hp; simp at hp
           | @cons p q ps qs h t ih =>
             intro j p' hp
             cases j with
             | zero =>
               cases hp
               exact ⟨p, rfl, h.1, h.2⟩
             | succ j => exact ih j p' (by simpa using hp)
         exact all rel j (k, x) e1
       rw [hpair j b kv hj hkv] at e
       cases e
       refine ⟨by show 2 ≤ sizeLine; decide, [key, x], .cons ?_ (.cons ev .nil), ⟨_, e3, rfl, 0, rfl⟩⟩
       rw [ek]
       exact rel_key e2
     · unfold hpPairs at e
       rw [if_neg hb, find_zip_not hm, n] at e
       cases e
end
end L2
namespace L2
open PySem PySem.Spec PyProof.Rows L3
def tLCT (wi : TI) (g : TG) (te : TE) (n : Nat) (js : List Nat) : TE := fun σ H Q => wi σ H fun J H1 => ∃ W : Nat → Nat → List V → Hp → Prop, (∃ m, W 0 m [] H1) ∧ ∀ i m ys H, W i m ys H →
 (J.stop i H ∧ ∀ l, H l = none → Q (.ref l) (upd H l (.lst ys))) ∨ (J.go i H ∧ ys.length < sizeLine ∧ ∃ N : VK, (∀ y H2, N y H2 → ∃ m', m' < m ∧ W (i + 1) m' (ys ++ [y]) H2) ∧ ∀ x H', J.yld i H x H' → ∀ σ0 : St, σ0.length = n → g x (σ0 ++ js.map (fun j => σ.getD j none)) H' fun σ6 H6 => ∃ σ1 : St, σ1.length = n ∧ σ6 = σ1 ++ js.map (fun j => σ.getD j none) ∧ te σ6 H6 N)
section
variable {X : Cx}
structure LcOkT (X : Cx) (xs : List Str) (scope : Scope) (cl : List (Str × Addr)) (js : List Nat) : Prop where
 clos : closureFor scope X.env = pure cl
 sub : ∀ y c, cl.lookup y = some c → X.env.cells.lookup y = some c
 kind : scope.kind = .function
 cell : ∀ y ∈ scope.names, y.2 ≠ .cell
 names : ∀ y ∈ scope.names, y.2 = .local → scope.names.lookup y.1 = some .local
 loc : ∀ x ∈ xs, scope.names.lookup x = some .local
 has : ∀ y, (((relabel scope X.env).names.lookup y = some .cell) ∨ ((relabel scope X.env).names.lookup y = some .free)) → ∃ c, cl.lookup y = some c
 nd : (xs ++ js.map (fun j => X.N.getD j "")).Nodup
 fr : ∀ j ∈ js, ∃ y, X.N[j]? = some y ∧ X.env.kindOf y = some .cell ∧ (relabel scope X.env).names.lookup y = some .cell ∧ ∃ c, cl.lookup y = some c
theorem Inv.inCT {xs : List Str} {scope : Scope} {cl : List (Str × Addr)} {js : List Nat} {pins : List (Addr × Obj)} {σ : St} {H2 : Hp} {s2 : Shared} {fp : List Addr} {C D : Addr} {h1 : Heap} {xe : Value → Shared → Prop} {oD : Obj} {m0 : Str → Option Value}
   (L : LcOkT X xs scope cl js) (I2 : Inv X pins σ H2 s2) (f2 : ∀ b ∈ fp, FpOk X pins H2 b) (fo : ∀ b ∈ fp, ∃ o, s2.heap.get? b = some o) (hC : s2.heap.objs.size ≤ C) (hD : s2.heap.objs.size ≤ D) (hDC : D ≠ C)
   (old : ∀ b o, s2.heap.get? b = some o → h1.get? b = some o) (hns : h1.Ns C m0) (hoD : h1.get? D = some oD) (hdD : ∀ v, oD.data ≠ .cell v) {t' : Nat} :
   Inv (X.inC scope cl C s2 H2 fp (xs ++ js.map (fun j => X.N.getD j "")) xe) [(D, oD)] (xs.map (fun _ => none) ++ js.map (fun j => σ.getD j none)) H2 { s2 with heap := h1, toks := t' } where
 ok := {
   mod := I2.ok.mod
   kind := L.kind
   glob := I2.ok.glob
   blt := I2.ok.blt
   above := hC
   inj := fun a b c e1 e2 => I2.ok.inj a b c (L.sub a c e1) (L.sub b c e2)
   has := fun y hy => L.has y hy
   cab := fun _ _ z => nomatch z
   hd := I2.ok.hd
   frames := I2.ok.frames
   stk := .inl rfl
   exf := fun b hb => by
     obtain ⟨o, e⟩ := fo b hb
     refine ⟨Nat.ne_of_lt (Nat.lt_of_lt_of_le (Heap.lt_size e) hC), fun y c e' => ?_⟩
     exact (f2 b hb).2.2.2.2.1 y c (L.sub y c e')
   bs := fun b o e => I2.bs b o e
   bsz := Nat.le_trans I2.ok.bsz I2.sz
   noex := fun b o e hb => by
     rcases (f2 b hb).2.2.2.1 with z | z
     · exact I2.ok.noex b o e z
     · exact absurd (Nat.lt_of_lt_of_le (Heap.lt_size e) (Nat.le_trans I2.ok.bsz z)) (Nat.lt_irrefl _)
   exfs := fun b hb z => by
     rcases List.mem_cons.mp (I2.stkSub b z) with e | e
     · exact (f2 b hb).2.1 e
     · exact (f2 b hb).2.2.1 e
   funs := I2.stack
   frf := I2.stkFree }
 os := rfl
 bare := I2.bare
 base := Un.kept old
 loc := by
   refine ⟨m0, hns, fun i y v e1 e2 e3 => ?_⟩
   have hik : ¬ i < xs.length := fun z => by
     have e2' : (xs.map (fun _ => (none : Option V)) ++ js.map (fun j => σ.getD j none))[i]? = some (some v) := e2
     rw [List.getElem?_append_left (by rw [List.length_map]; exact z), List.getElem?_map] at e2'
     rw [List.getElem?_eq_getElem z] at e2'
     cases e2'
   have hsplit : ∃ k, i = xs.length + k := ⟨i - xs.length, by omega⟩
   obtain ⟨k, rfl⟩ := hsplit
   · have e1' : (js.map (fun j => X.N.getD j ""))[k]? = some y := by
       have e1' : (xs ++ js.map (fun j => X.N.getD j ""))[xs.length + k]? = some y := e1
       rw [List.getElem?_append_right (by omega)] at e1'
       simpa using e1'
     have e2' : (js.map (fun j => σ.getD j none))[k]? = some (some v) := by
       have e2' : (xs.map (fun _ => (none : Option V)) ++ js.map (fun j => σ.getD j none))[xs.length + k]? = some (some v) := e2
       rw [List.getElem?_append_right (by rw [List.length_map]; omega)] at e2'
       simpa using e2'
     rw [List.getElem?_map] at e1' e2'
     cases hj : js[k]? with
     | none => rw [hj] at e1'; cases e1'
     | some j =>
       rw [hj] at e1' e2'
       obtain ⟨y', n1, n2, n3, c, n4⟩ := L.fr j (List.mem_of_getElem? hj)
       have e1'' : X.N.getD j "" = y := Option.some.inj e1'
       have e2'' : σ.getD j none = some v := Option.some.inj e2'
       have : y' = y := by
         rw [List.getD, n1] at e1''
         exact e1''
       subst this
       have hσ : σ[j]? = some (some v) := by
         rw [List.getD] at e2''
         cases q : σ[j]? with
         | none => rw [q] at e2''; cases e2''
         | some z => rw [q] at e2''; exact congrArg some e2''
       obtain ⟨m, hn, hl⟩ := I2.loc
       obtain ⟨u, r, l⟩ := hl j y' v n1 hσ (.inr (.inl n2))
       refine ⟨u, r, ?_⟩
       rcases l with ⟨k1, _⟩ | ⟨_, c', k2, k3⟩
       · rw [n2] at k1; cases k1
       · have : c' = c := by
           have := L.sub _ _ n4
           rw [k2] at this
           exact Option.some.inj this
         subst this
         obtain ⟨o, ho, hd⟩ := k3
         exact .inr ⟨.inl n3, c', n4, o, old _ _ ho, hd⟩
 cell := fun y c e => by
   obtain ⟨v, o, ho, hd⟩ := I2.cell y c (L.sub y c e)
   exact ⟨v, o, old _ _ ho, hd⟩
 free := I2.hok.fresh hC
 freeC := fun y c e => I2.freeC y c (L.sub y c e)
 pin := fun p hp => by
   have e : p = (D, oD) := by simpa [Cx.inC] using hp
   subst e
   refine ⟨hoD, I2.hok.fresh hD, hDC, fun z => ?_, hdD⟩
   rcases List.mem_cons.mp (I2.stkSub D z) with e | e
   · exact absurd I2.lt (by rw [← e]; exact Nat.not_lt.mpr hD)
   · exact I2.nofs hD e
 hok := I2.hok.kept old
 len := by simp [Cx.inC]
theorem lcT_core {elt iter tg : Expr} {g : TG} {xs : List Str} {pos cpos : Pos} {scope : Scope} {cl : List (Str × Addr)} {wi : TI} {te : TE} {js : List Nat} {use : Option (Value → Sem Unit)} {Qc : Value → Shared → Prop} {pins : List (Addr × Obj)} {s : Shared} {σ : St} {H : Hp} {Q : VK}
   (hc : X.calm = true) (L : LcOkT X xs scope cl js) (hi : PI X tg iter wi) (hg : ∀ C s2 H2 fp xe, PG (X.inC scope cl C s2 H2 fp (xs ++ js.map (fun j => X.N.getD j "")) xe) tg g)
   (he : ∀ C s2 H2 fp xe, PE (X.inC scope cl C s2 H2 fp (xs ++ js.map (fun j => X.N.getD j "")) xe) elt te)
   (hs : ∀ z, foldedSetIterable iter X.env z = pure z) (I : Inv X pins σ H s) (h : tLCT wi g te xs.length js σ H Q)
   (fin : ∀ (D C : Addr) (H4 : Hp) (s4 : Shared) (m : Str → Option Value), s4.heap.Ns C m → FpOk X pins H4 C → (∀ h', Heap.SameBut C s4.heap h' → Inv X pins σ H4 { s4 with heap := h' }) → Q (.ref D) H4 → compPost (model X.prog X.w) X.A X.xe use Qc (.ref D) C (.ok .next) s4) :
   wpAny (model X.prog X.w) X.A (comprehension (.ListComp elt [⟨tg, iter, [], 0⟩] scope pos) scope X.env cpos (newList []) false (eval iter X.env) use) Qc X.xe s := by
 refine wpAny_comprehension_free (cl := cl) (use := use) rfl hs L.clos L.kind L.names ?_
 refine thn (hi pins s σ H _ I h) fun v s1 h1 => thn h1 fun itv s2 h2 => ?_
 obtain ⟨it, fp, tn, J, H2, e, I2, T, st2, f2, W, ⟨k0, w0⟩, turn⟩ := h2
 subst e
 refine wpAny_newObj_type (wpAny_newFunctionEnv L.cell (by intro y hy; simp at hy) (fun h₁ hns₁ hsb₁ => ?_) L.kind)
 dsimp only at hns₁ hsb₁ ⊢
 generalize hH2 : s2.heap.push { cls := .type "list", dict := none, data := .seq ([] : List Value).toArray } = Hp2 at hns₁ hsb₁ ⊢
 have hC : Hp2.objs.size = s2.heap.objs.size + 1 := by rw [← hH2, Heap.size_push]
 generalize hD0 : s2.heap.objs.size = D at hC ⊢
 generalize hC0 : Hp2.objs.size = C at hC hns₁ hsb₁ ⊢
 have hDC : D ≠ C := by omega
 have below : ∀ b, b < D → b ≠ C := fun b hb => by omega
 have old : ∀ b o, s2.heap.get? b = some o → h₁.get? b = some o := fun b o e =>
   hsb₁.extBut b o (below b (by rw [← hD0]; exact Heap.lt_size e)) (Heap.get?_push_of_some _ (hH2 ▸ Heap.get?_push_of_some _ e))
 have hacc : h₁.get? D = some { cls := .type "list", data := .seq ([] : List Value).toArray 0 } := by
   subst hD0
   exact hsb₁.extBut _ _ hDC (Heap.get?_push_of_some _ (hH2 ▸ Heap.get?_push_size _ rfl))
 have fo : ∀ b ∈ fp, ∃ o, s2.heap.get? b = some o := fun b hb => let ⟨o, e, _⟩ := T.obj _ _ st2 b hb; ⟨o, e⟩
 have flt : ∀ b ∈ fp, b < D := fun b hb => let ⟨o, e⟩ := fo b hb; by rw [← hD0]; exact Heap.lt_size e
 have st1 : tn 0 h₁ := T.keep _ _ _ st2 fun b hb o e => old b o e
 let R := compPost (model X.prog X.w) X.A X.xe use Qc (.ref D) C
 let xe := notedBy (model X.prog X.w) X.A (compEnvC scope cl C X.env) fun e s' => R (.error e) s'
 let X' := X.inC scope cl C s2 H2 fp (xs ++ js.map (fun j => X.N.getD j "")) xe
 have I0 : ∀ {t' : Nat}, Inv X' [(D, _)] (xs.map (fun _ => none) ++ js.map (fun j => σ.getD j none)) H2 { s2 with heap := h₁, toks := t' } := fun {t'} =>
   Inv.inCT L I2 f2 fo (by omega) (by omega) hDC old hns₁ hacc (fun v z => by cases z)
 have fpk : ∀ {pD : List (Addr × Obj)} {H' : Hp}, (∀ p ∈ pD, p.1 = D) → (∀ b ∈ fp, H' b = none) → ∀ b ∈ fp, FpOk X' pD H' b := fun {pD H'} hp hn b hb => by
   refine ⟨hn b hb, below b (flt b hb), fun z => ?_, .inl hb, fun y c e => (f2 b hb).2.2.2.2.1 y c (L.sub y c e), fun p hp' z => ?_⟩
   · rcases List.mem_cons.mp (I2.stkSub b z) with e | e
     · exact (f2 b hb).2.1 e
     · exact (f2 b hb).2.2.1 e
   · have q := hp p (by simpa [X', Cx.inC] using hp')
     have := flt b hb
     rw [← z, q] at this
     exact Nat.lt_irrefl _ this
 have loop : ∀ s3 : Shared, (∃ k i ys H' its n, ∃ σ0 : St, σ0.length = xs.length ∧ Inv X' [(D, { cls := .type "list", data := .seq (its : List Value).toArray n })] (σ0 ++ js.map (fun j => σ.getD j none)) H' s3 ∧ tn i s3.heap ∧ (∀ b ∈ fp, H' b = none) ∧ W i k ys H' ∧ Vals ys its ∧ ys.length ≤ sizeLine) →
     codeAny (model X.prog X.w) X.A (.compLoop (.ListComp elt [⟨tg, iter, [], 0⟩] scope pos) 0 (.ref it) (.ref D) (compEnvC scope cl C X.env)) R s3 := by
   rintro s3 ⟨k, hk⟩
   refine codeAny_loop rfl (fun k s3 => ∃ i ys H' its n, ∃ σ0 : St, σ0.length = xs.length ∧ Inv X' [(D, { cls := .type "list", data := .seq (its : List Value).toArray n })] (σ0 ++ js.map (fun j => σ.getD j none)) H' s3 ∧ tn i s3.heap ∧ (∀ b ∈ fp, H' b = none) ∧ W i k ys H' ∧ Vals ys its ∧ ys.length ≤ sizeLine) (fun k s3 hI => ?_) k hk
   obtain ⟨i, ys, H3, its, n, σ0, hσ0, I3, st3, fr3, w3, vy, hz⟩ := hI
   show wpAny _ _ ((compTurn (.ListComp elt [⟨tg, iter, [], 0⟩] scope pos) 0 (.ref it) (.ref D) (compEnvC scope cl C X.env)).onRaise (fun x => do noteFrame x (compEnvC scope cl C X.env); theTreesLotGoes x)) _ _ s3
   refine wpAny_noted ?_
   rw [compTurn_list1]
   have hpD : ∀ {o : Obj}, ∀ p ∈ [(D, o)], p.1 = D := fun p hp => by rw [List.mem_singleton.mp hp]
   refine wpAny_bind (wpAny_standAt (wpAny_bind ?_))
   rcases turn i k ys H3 w3 with ⟨stop, qn⟩ | ⟨go, hlen, N, hN, step⟩
   · refine thn (T.done X' rfl rfl rfl hc i _ s3 _ H3 xe I3 (fpk hpD fr3) st3 stop) fun r s4 ⟨hr, I4⟩ => ?_
     subst hr
     refine wpAny_pure ?_
     obtain ⟨m, hn, _⟩ := I4.loc
     obtain ⟨eD, nD, _⟩ := I4.pin (D, _) (List.mem_append_right _ (List.mem_singleton.mpr rfl))
     have fC : FpOk X pins (upd H3 D (.lst ys)) C := I2.fpOk (by omega) (by
       rw [upd_ne (Ne.symm hDC)]
       exact I4.free)
     refine fin D C (upd H3 D (.lst ys)) s4 m hn fC (fun h' sb => ?_) (qn D nD)
     obtain ⟨hh, g, d, t, os'⟩ := s4
     obtain rfl : os' = s2.os := I4.os
     have kp : ∀ b o, b ≠ C → hh.get? b = some o → h'.get? b = some o := fun b o hb e => (sb.2 b hb).trans e
     have lt2 : ∀ b o, s2.heap.get? b = some o → b ≠ C ∧ b ≠ D := fun b o e => by
       have q : b < D := by rw [← hD0]; exact Heap.lt_size e
       exact ⟨below b q, Nat.ne_of_lt q⟩
     have B : Un (frs X.stack) fp H2 H3 s2.heap hh := I4.base
     have hDn : H3 D = none := nD
     have I5 : Inv X pins σ (upd H3 D (.lst ys)) { s2 with heap := h', gens := g, drawn := d, toks := t } := by
       refine I2.call (h' := h') (g' := g) (d' := d) (t' := t) (ch := fp) ⟨?_, ?_, ?_, ?_, ?_, ?_, ?_⟩ ?_ I4.bare ?_
       · exact fun b o e n hb hx => kp b o (lt2 b o e).1 (B.keep b o e n hb hx)
       · intro b o e n hb hx
         obtain ⟨sl, q⟩ := B.slot b o e n hb hx
         exact ⟨sl, kp b _ (lt2 b o e).1 q⟩
       · intro b o e n hx
         rw [upd_ne (lt2 b o e).2]
         exact B.free b o e n hx
       · intro b o e hx
         obtain ⟨o', q⟩ := B.there b o e hx
         exact ⟨o', kp b o' (lt2 b o e).1 q⟩
       · intro b xs e
         have q := B.tups b xs e
         rw [upd_ne (ne_of_none q hDn)]
         exact q
       · intro b o u e
         have q := B.frzs b o u e
         rw [upd_ne (ne_of_none q hDn)]
         exact q
       · intro b ps e
         obtain ⟨more, q⟩ := B.tbls b ps e
         exact ⟨more, by rw [upd_ne (ne_of_none q hDn)]; exact q⟩
       · intro b u e
         by_cases hb : b = D
         · subst hb
           rw [upd_same] at e
           cases e
           exact ⟨hz, its, n, vy, kp _ _ hDC eD⟩
         · rw [upd_ne hb] at e
           have nC : ∀ c o, H3 c = some o → c ≠ C := fun c o q => ne_of_none q I4.free
           refine (I4.hok b u e).stay (fun c v hc' q => kp c v ?_ q) (fun c q => by rw [upd_ne (ne_of_none q hDn)]; exact q) fun c xs q => by rw [upd_ne (ne_of_none q hDn)]; exact q
           rcases hc' with z | z
           · rw [z]; exact nC b u e
           · exact nC c _ z
       · intro b hb
         obtain ⟨_, f1, _, f3, f4, f5⟩ := f2 b hb
         exact ⟨f3, f1, f4, f5⟩
     exact I5
   · refine thn (T.item X' rfl rfl rfl hc i _ s3 _ H3 xe I3 (fpk hpD fr3) st3 go) fun r s4 ⟨u, hr, h4⟩ => ?_
     subst hr
     refine wpAny_bind (thn h4 fun _ s5 ⟨xv, H5, I5, r5, y5, st5, fr5⟩ => ?_)
     have I5' := I5.pinned (fpk hpD fr5) (T.obj _ _ st5)
     refine wpAny_bind (thn (hg C s2 H2 fp xe _ s5 _ H5 xv u _ I5' r5 (step xv _ y5 σ0 hσ0)) fun _ s6 ⟨σ6, H6, I6, σ1, hσ1, e6, st6⟩ => ?_)
     subst e6
     refine wpAny_bind (wpAny_bind (thn (he C s2 H2 fp xe _ s6 _ _ _ I6 st6) fun y s7 ⟨yv, H7, I7, ry, n7⟩ => ?_))
     obtain ⟨m', hm, w7⟩ := hN yv H7 n7
     have I7' := I7.unpinned
     obtain ⟨eD, nD, neC, nfs, _⟩ := I7'.pin (D, _) (List.mem_append_right _ (List.mem_singleton.mpr rfl))
     have eD' : s7.heap.get? D = some { cls := .type "list", data := .seq its.toArray n } := eD
     have lv := vy.length
     refine wpAny_bind (call_meets F.slot_list_append ⟨_, eD', rfl⟩ F.entry_list_append (F.args_list_append_2 _ _) (PySem.list_append D its.toArray n y (by rw [List.size_toArray]; omega)) ⟨eD', ?_⟩)
     refine wpAny_pure (wpAny_pure ⟨rfl, m', hm, i + 1, ys ++ [yv], H7, its ++ [y], ?_⟩)
     have q := PySem.IsL.update eD' (fun a : Array Value => a.push y)
     have I8 : Inv X' [] (σ1 ++ js.map (fun j => σ.getD j none)) H7 { s7 with heap := s7.heap.update D (Obj.mapSeq (fun a : Array Value => a.push y)) } :=
       (I7'.pins_of (pins' := []) (fun p hp => nomatch hp)).turned (t' := s7.toks) (it := D) (fun b o hb e => (Heap.get?_update_other s7.heap _ (Ne.symm hb)).trans e) nD neC (.inr (by show s2.heap.objs.size ≤ D; omega))
         (fun z c e w => by
           obtain ⟨v', o', ho', _⟩ := I2.cell z c (L.sub z c e)
           have := Heap.lt_size ho'
           rw [w, hD0] at this
           exact Nat.lt_irrefl _ this) (fun p hp => nomatch hp)
     have pinf : ∀ b ∈ fp, ∀ o, s5.heap.get? b = some o → s7.heap.get? b = some o ∧ H7 b = none := fun b hb o e => by
       have z := I7.pin (b, o) (List.mem_append_right _ (List.mem_append_right _ (mem_pinsAt hb e)))
       exact ⟨z.1, z.2.1⟩
     obtain ⟨n', q'⟩ : ∃ n', (s7.heap.update D (Obj.mapSeq (fun a : Array Value => a.push y))).get? D = some { cls := .type "list", data := .seq (its ++ [y]).toArray n' } := by
       rw [show (its ++ [y]).toArray = its.toArray.push y by simp]
       exact ⟨_, q⟩
     refine ⟨n', σ1, hσ1, I8.pins_of fun p hp => ?_, ?_, fun b hb => ?_, w7, vy.append (.cons ry .nil), by rw [List.length_append, List.length_singleton]; omega⟩
     · rw [List.mem_singleton.mp hp]
       exact ⟨q', nD, neC, nfs, fun v z => by cases z⟩
     · refine T.keep _ _ _ st5 fun b hb o e => ?_
       have hb' : D ≠ b := fun z => by
         have := flt b hb
         rw [← z] at this
         exact Nat.lt_irrefl _ this
       exact (Heap.get?_update_other s7.heap _ hb').trans (pinf b hb o e).1
     · obtain ⟨o, e, _⟩ := T.obj _ _ st5 b hb
       exact (pinf b hb o e).2
 have start : ∀ {t' : Nat}, ∃ k i ys H' its n, ∃ σ0 : St, σ0.length = xs.length ∧ Inv X' [(D, { cls := .type "list", data := .seq (its : List Value).toArray n })] (σ0 ++ js.map (fun j => σ.getD j none)) H' { s2 with heap := h₁, toks := t' } ∧ tn i h₁ ∧ (∀ b ∈ fp, H' b = none) ∧ W i k ys H' ∧ Vals ys its ∧ ys.length ≤ sizeLine := fun {t'} =>
   ⟨k0, 0, [], H2, [], 0, xs.map (fun _ => none), List.length_map .., I0, st1, fun b hb => (f2 b hb).1, w0, .nil, Nat.zero_le _⟩
 exact codeAny_compStart_list (loop _ start) (T.self X.A 0 _ _ _ st1 (loop _ start))
theorem pe_lcT {elt iter tg : Expr} {g : TG} {xs : List Str} {pos : Pos} {scope : Scope} {cl : List (Str × Addr)} {wi : TI} {te : TE} (js : List Nat) (hc : X.calm = true) (L : LcOkT X xs scope cl js) (hi : PI X tg iter wi)
   (hg : ∀ C s2 H2 fp xe, PG (X.inC scope cl C s2 H2 fp (xs ++ js.map (fun j => X.N.getD j "")) xe) tg g)
   (he : ∀ C s2 H2 fp xe, PE (X.inC scope cl C s2 H2 fp (xs ++ js.map (fun j => X.N.getD j "")) xe) elt te)
   (hs : ∀ z, foldedSetIterable iter X.env z = pure z := by intro _; rfl) :
   PE X (.ListComp elt [⟨tg, iter, [], 0⟩] scope pos) (tLCT wi g te xs.length js) := by
 intro pins s σ H Q I h
 rw [eval_ListComp]
 exact lcT_core (use := none) hc L hi hg he hs I h fun D C H4 s4 m hn _ I4 q => ⟨m, hn, fun h' sb => ⟨.ref D, H4, I4 h' sb, rfl, q⟩⟩
theorem LcOkT.plain {X : Cx} {xs : List Str} {scope : Scope} (hfree : ∀ y ∈ scope.names, y.2 ≠ .free) (hcell : ∀ y ∈ scope.names, y.2 ≠ .cell) (hkind : scope.kind = .function) (hnames : ∀ y ∈ scope.names, y.2 = .local → scope.names.lookup y.1 = some .local)
   (hloc : ∀ x ∈ xs, scope.names.lookup x = some .local) (hnd : xs.Nodup) : LcOkT X xs scope [] [] where
 clos := closureFor_none hfree
 sub := fun _ _ e => nomatch e
 kind := hkind
 cell := hcell
 names := hnames
 loc := hloc
 has := fun y h => by
   rcases h with h | h
   · exact (lookup_relabel_not hfree hcell h).elim
   · exact (lookup_relabel_not hfree hfree h).elim
 nd := by simpa using hnd
 fr := fun _ h => nomatch h
end
end L2
namespace L2
open PySem PySem.Spec PyProof.Rows PySem.W PySem.Calls L3
theorem bits_ns : ∀ {ns : List Int}, WData.weightAll (ns.map WData.int) ≤ 2 ^ 20 → ∀ w ∈ ns, Builtin.Int.intBits w ≤ 2 ^ 20
 | [], _, w, h => nomatch h
 | n :: ns, h, w, hw => by
   have h' : WData.weight (.int n) + 1 + WData.weightAll (ns.map WData.int) ≤ 2 ^ 20 := h
   rcases List.mem_cons.mp hw with rfl | m
   · have e : WData.weight (.int w) = if w == 0 then 0 else w.natAbs.log2 + 1 := rfl
     rw [e] at h'
     unfold Builtin.Int.intBits
     by_cases c : w = 0
     · subst c
       simp
     · simp [c] at h' ⊢
       omega
   · exact bits_ns (by omega) w m
theorem attach_callB {l : OpenLaw} {n : Nat} {q : Program} {loose : List Str} {XP : (Str → Option Value) → Heap → Prop} {YP : World → Heap → Prop} {d : DefRec}
   (hn : l.most = some n) (hdf : d.params.defaults = [])
   (call : ∀ (w : World) (s₀ s₁ : Shared) (mg mb : Str → Option Value) (fa : Addr) (o : Obj) (pm cd doc : Value) (a : Addr) (vs : List Value) (ns : List Int),
     Ground q loose [] XP w s₀ mg mb s₁.heap → YP w s₁.heap →
     s₁.heap.get? fa = some o → o.data = .func (docDef d.name d.params d.body d.scope pm cd doc) → s₁.heap.CodeRec cd d.name → mg d.name = some (.ref fa) →
     s₁.heap.get? a = some { cls := .type "list", data := .seq vs.toArray } → IntsAre vs ns → ns.length ≤ n → (∀ w ∈ ns, Builtin.Int.intBits w ≤ 2 ^ 20) → s₁.gens = #[] →
     codeAny (model l.prog w) callerA (.call (.ref fa) ⟨[.ref a], []⟩) (fun r s' => r = .ok (.ret (.bool true)) ∧ OldK s₁.heap s'.heap ∧ s'.os = s₁.os ∧ AllBare s'.gens) s₁) :
   WalkO q loose XP YP l.row.toRowW d [] (fun f vs => PySem.call f vs) := by
 intro w s₀ s₁ mg mb G Y fa o pm cd doc dV kV ho hd hcd hD hmg hg args vals as hpre hlay hrd hwl hlo
 obtain rfl : dV = .none := Dflts.none hD hdf
 obtain rfl : kV = .none := Dflts.noKw hD
 obtain ⟨a, vs, ns, rfl, rfl, hobj, hints, hlen⟩ := Att.script_of hn hpre hwl
 have hb : ∀ w ∈ ns, Builtin.Int.intBits w ≤ 2 ^ 20 := by
   have h1 : WData.layable (.list (ns.map WData.int)) = true := by
     have := hlay
     unfold WData.layableAll at this
     simpa using this
   unfold WData.layable at h1
   rw [Bool.and_eq_true, decide_eq_true_eq] at h1
   exact bits_ns h1.2
 refine enter_call (codeAny_mono (call w s₀ s₁ mg mb fa o pm cd doc a vs ns G Y ho (fd_plain hd) hcd hmg hobj hints hlen hb hg) fun r s' hq => ?_)
 obtain ⟨rfl, h2, h3, h4⟩ := hq
 exact ⟨.inl ⟨.bool true, .bool true, [], rfl, fun _ => rfl, .bool true, Att.post_true l _, fun _ => ⟨List.Pairwise.nil, fun _ hm => (nomatch hm)⟩⟩, h2, h3, h4⟩
theorem walk_ofB {l : PySem.W.OpenLaw} {n k : Nat} {q : Program} {loose : List Str} {XP : (Str → Option Value) → Heap → Prop} {YP : World → Heap → Prop} {d : DefRec} {K : Params → PySem.W.Frag} {CX : World → CXT} {sp : World → Sp} {x : Str}
   (hn : l.most = some n) (hn2 : n ≤ sizeLine) (hdf : d.params.defaults = []) (hr : Room true k callerA)
   (hY : ∀ (w : World) (h : Heap), YP w h → (K w.params).In h)
   (F : ∀ (w : World) (mg : Str → Option Value) (fa : Addr) (h : Heap), (K w.params).In h → h.Ns mainGlobals mg → mg d.name = some (.ref fa) →
     ∃ fd : FuncData, (∀ (s : Shared) (u : Value), BindsTo s fd ⟨[u], []⟩ [(x, u)]) ∧
       ∀ base : Heap, (K w.params).In base → base.Ns mainGlobals mg → FnOk l.prog w (K w.params) mg base (CX w) true k fa fd [x] (sp w))
   (hsp : ∀ (w : World) (H : Hp) (a : Addr) (ns : List Int), ns.length ≤ n → (∀ w ∈ ns, Builtin.Int.intBits w ≤ 2 ^ 20) → Only H → SqL (K w.params) H a (ns.map V.int) → sp w [.ref a] H (fun v _ => v = .bl true) fun _ _ _ => False)
   (hCX : ∀ (w : World) (H : Hp) (s : Shared) (e : Value) (s' : Shared), CX w [] H s (fun _ _ _ => False) e s' → False) :
   PySem.W.WalkO q loose XP YP l.row.toRowW d [] (fun f vs => PySem.call f vs) := by
 refine attach_callB hn hdf fun w s₀ s₁ mg mb fa o pm cd doc a vs ns G Y ho hd hcd hmg hobj hints hlen hb2 hg => ?_
 have KX := hY w _ Y
 obtain ⟨fd, hb, hF⟩ := F w mg fa _ KX G.T.g hmg
 exact law_call KX G.T.g G.T.b G.T.builtins G.T.nolimit hg hobj hints (Nat.le_trans hlen hn2) hr hF hb (fun H hO hS => hsp w H a ns hlen hb2 hO hS) fun H e s' => hCX w H s₁ e s'
end L2
namespace L2
open PySem PySem.Spec PyProof.Rows L3
theorem lc_listIf {K : PySem.W.Frag} {a : Addr} {xs : List V} {T : V → Hp → VK → Prop} {B : V → Hp → (Bool → Hp → Prop) → Prop} {R : Addr → Hp → List V → Prop} {H : Hp} (Pv : Nat → List V → Hp → Prop) (h0 : Pv 0 [] H) (hn : xs.length ≤ sizeLine) (hl : ∀ i ys H, i ≤ xs.length → Pv i ys H → SqL K H a xs ∧ ys.length ≤ i)
   (hs : ∀ i x ys H, xs[i]? = some x → Pv i ys H → B x H fun b H2 => if b = true then T x H2 (fun y H3 => Pv (i + 1) (ys ++ [y]) H3) else Pv (i + 1) ys H2) (hd : ∀ ys H, Pv xs.length ys H → ∀ l, H l = none → R l H ys) :
   ∃ W : Nat → Nat → List V → Hp → Prop, (∃ m, W 0 m [] H) ∧ ∀ i m ys H, W i m ys H →
     ((Itl K a).stop i H ∧ ∀ l, H l = none → R l H ys) ∨ ((Itl K a).go i H ∧ ys.length < sizeLine ∧ ∃ (N : VK) (S : Hp → Prop), (∀ y H2, N y H2 → ∃ m', m' < m ∧ W (i + 1) m' (ys ++ [y]) H2) ∧ (∀ H2, S H2 → ∃ m', m' < m ∧ W (i + 1) m' ys H2) ∧
       ∀ x H', (Itl K a).yld i H x H' → B x H' fun b H2 => if b = true then T x H2 N else S H2) := by
 refine ⟨fun i m ys H => m = xs.length - i ∧ i ≤ xs.length ∧ Pv i ys H, ⟨xs.length, by simp, Nat.zero_le _, h0⟩, ?_⟩
 rintro i m ys H ⟨rfl, hi, p⟩
 obtain ⟨q, hy⟩ := hl i ys H hi p
 by_cases hlt : i < xs.length
 · refine .inr ⟨⟨xs, xs[i], q, by simp [hlt]⟩, by omega, fun y H2 => Pv (i + 1) (ys ++ [y]) H2, fun H2 => Pv (i + 1) ys H2, fun y H2 p' => ⟨xs.length - (i + 1), by omega, rfl, hlt, p'⟩, fun H2 p' => ⟨xs.length - (i + 1), by omega, rfl, hlt, p'⟩, fun x H' ⟨e, y⟩ => ?_⟩
   subst e
   exact hs i x ys _ (y xs q) p
 · have e : i = xs.length := by omega
   subst e
   exact .inl ⟨⟨xs, q, Nat.le_refl _⟩, hd ys H p⟩
theorem pg_nameT {X : Cx} {xs : List Str} {scope : Scope} {cl : List (Str × Addr)} {js : List Nat} {C : Addr} {s2 : Shared} {H2 : Hp} {fp : List Addr} {xe : Value → Shared → Prop} {i : Nat} {x : Str} {px : Pos} (L : LcOkT X xs scope cl js) (hi : (xs ++ js.map (fun j => X.N.getD j ""))[i]? = some x) (hx : x ∈ xs) :
   PG (X.inC scope cl C s2 H2 fp (xs ++ js.map (fun j => X.N.getD j "")) xe) (.Name x px) (gName i) :=
 pg_name (X := X.inC scope cl C s2 H2 fp (xs ++ js.map (fun j => X.N.getD j "")) xe) L.nd hi (Or.inl (lookup_relabel_local (L.loc x hx))) (Or.inr (lookup_relabel_local (L.loc x hx)))
theorem pg_tup2T {X : Cx} {x1 x2 : Str} {p1 p2 pos : Pos} {k : Nat} {scope : Scope} {cl : List (Str × Addr)} {js : List Nat} (hc : X.calm = true) (L : LcOkT X [x1, x2] scope cl js) :
   ∀ (C : Addr) (s2 : Shared) (H2 : Hp) (fp : List Addr) (xe : Value → Shared → Prop), PG (X.inC scope cl C s2 H2 fp ([x1, x2] ++ js.map (fun j => X.N.getD j "")) xe) (.Tuple [.Name x1 p1, .Name x2 p2] k pos) (gTup X.K 2 (gCons (gName 0) (gCons (gName 1) gNil))) := fun C s2 H2 fp xe =>
 pg_tup (X := X.inC scope cl C s2 H2 fp ([x1, x2] ++ js.map (fun j => X.N.getD j "")) xe) hc (pgs_cons (pg_nameT (i := 0) L rfl List.mem_cons_self) (pgs_cons (pg_nameT (i := 1) L rfl (List.mem_cons_of_mem _ List.mem_cons_self)) pgs_nil))
theorem join_ok {zs : List Str} (h : zs.length ≤ 8) (h1 : ∀ z ∈ zs, z.length = 1) : JoinOk "" zs = true := by
 unfold JoinOk
 rw [Bool.not_eq_true', StrLaws.joinTotal]
 have s : (zs.map (·.length)).sum = zs.length := by
   clear h
   induction zs with
   | nil => rfl
   | cons z r ih =>
     rw [List.map_cons, List.sum_cons, ih fun y hy => h1 y (List.mem_cons_of_mem _ hy), h1 z List.mem_cons_self, List.length_cons]
     omega
 rw [s]
 have e : ("" : Str).length = 0 := rfl
 rw [e]
 unfold Builtin.Str.tooLong
 have hline : 600 ≤ sizeLine := by decide
 exact decide_eq_false (by omega)
end L2
namespace PySem.W
open PySem PySem.Calls PyProof.Rows PyProof.V PySem.Spec
section
variable {prog : Program} {w : World} {A : Around} {E : Value → Shared → Prop}
variable {K : Type} [DecidableEq K] {knd : KeyKind prog w K}
def storedAll (kvs : List (K × Value)) (ps : List (K × Value)) : List (K × Value) := ps.foldl (fun acc p => stored acc p.1 p.2) kvs
end
end PySem.W
namespace L2
open PySem PySem.Spec PyProof.Rows L3
section
variable {X : Cx}
def putAll (kvs : List (Key × V)) (ps : List (Key × V)) : List (Key × V) := ps.foldl (fun acc p => putK acc p.1 p.2) kvs
theorem KV.putAll : ∀ {ps : List (Key × V)} {qs : List (Key × Value)} {kvs : List (Key × V)} {vs : List (Key × Value)}, KV ps qs → KV kvs vs → KV (putAll kvs ps) (PySem.W.storedAll vs qs) := by
 intro ps qs kvs vs r
 unfold KV at r
 induction r generalizing kvs vs with
 | nil => intro q; exact q
 | @cons p q ps qs h t ih =>
   intro r0
   have e : KV (putK kvs p.1 p.2) (stored vs q.1 q.2) := by
     have := r0.put p.1 h.2
     rw [← h.1]
     exact this
   exact ih e
end
end L2
namespace PySem.W
open PySem PySem.Calls PyProof.Rows PyProof.V PySem.Spec
section
variable {prog : Program} {w : World} {A : Around} {E : Value → Shared → Prop} {s : Shared} {r l : Addr} {items : Array Value}
end
end PySem.W
namespace L2
open PySem PySem.Spec PyProof.Rows L3
section
variable {X : Cx}
end
end L2
namespace L2
open PySem PySem.Spec PyProof.Rows L3
def DefX (K : PySem.W.Frag) (C : Addr) (qual : Str) (st : Stmt) : Prop := ∃ f fd, FunD K "__init__" qual st f fd .none ∧ PySem.W.findIn K (.ref C) "__init__" = some (some (.ref f)) ∧ PySem.W.isFn K (.ref f) = true
def CalX (P : Program) (w : World) (K : PySem.W.Frag) (mg : Str → Option Value) (base : Heap) (cm : Bool) (k : Nat) (C : Addr) (ps : List Str) (sp : Sp) : Prop :=
 ∃ f fd, PySem.W.findIn K (.ref C) "__init__" = some (some (.ref f)) ∧ PySem.W.isFn K (.ref f) = true ∧ FnOk P w K mg base CX0 cm k f fd ps sp ∧ Binds K fd ps []
section
variable {X : Cx}
theorem op_eqLen {cm : Bool} {k : Nat} (hr : Room cm k X.A) : OpR X (compareOp .Eq) (fun x y H Q => ∃ a b xs ys, x = .ref a ∧ y = .ref b ∧ SqL X.K H a xs ∧ SqL X.K H b ys ∧ ((xs.length ≠ ys.length ∧ Q (.bl false) H) ∨ (EqLs X.K H xs ys ∧ Q (.bl true) H))) := by
 intro pins s σ H x y v u Q I rx ry h
 obtain ⟨a, b, xs, ys, rfl, rfl, ha, hb, h⟩ := h
 rcases h with ⟨hne, q⟩ | ⟨he, q⟩
 · cases rx
   cases ry
   obtain ⟨its, r, pl, hz⟩ := I.list ha
   obtain ⟨its2, r2, pl2, hz2⟩ := I.list hb
   have l1 := r.length
   have l2 := r2.length
   have hu : X.A.units < cLine := by have := hr.un; omega
   refine SeqAt.eq_list_lengthsAt pl.isList pl2.isList ?_ hu ⟨.bl false, H, I, rfl, q⟩
   simp only [List.size_toArray]
   rw [← l1, ← l2]
   simpa using hne
 · exact op_eqD hr pins s σ H _ _ v u Q I rx ry ⟨a, b, xs, ys, rfl, rfl, ha, hb, he, q⟩
end
end L2
namespace L2
open PySem PySem.W PyProof.Rows
structure Ord (n : Nat) (lt : Nat → Nat → Bool) : Prop where
 tri : ∀ i j, i < n → j < n → i ≠ j → lt i j = !lt j i
 tr : ∀ i j k, i < n → j < n → k < n → lt i j = true → lt j k = true → lt i k = true
def Asks (n : Nat) (lt : Nat → Nat → Bool) (cmp : Nat → Nat → (Bool → Shared → Prop) → Shared → Prop) (s : Shared) : Prop := ∀ i j C, i < n → j < n → i ≠ j → C (lt i j) s → cmp i j C s
structure PermN (n : Nat) (p : Array Nat) : Prop where
 pm : p.toList.Perm (List.range n)
theorem PermN.size {n : Nat} {p : Array Nat} (h : PermN n p) : p.size = n := by
 have := h.pm.length_eq
 simpa using this
theorem gD {p : Array Nat} {i : Nat} (h : i < p.size) : p.getD i 0 = p[i] := by
 rw [Array.getD_eq_getD_getElem?, Array.getElem?_eq_getElem h]
 rfl
theorem PermN.lt {n : Nat} {p : Array Nat} (h : PermN n p) {i : Nat} (hi : i < n) : p.getD i 0 < n := by
 rw [gD (by rw [h.size]; exact hi)]
 have : p[i]'(by rw [h.size]; exact hi) ∈ p.toList := by simp
 exact List.mem_range.mp (h.pm.mem_iff.mp this)
theorem PermN.inj {n : Nat} {p : Array Nat} (h : PermN n p) {i j : Nat} (hi : i < n) (hj : j < n) (hne : i ≠ j) : p.getD i 0 ≠ p.getD j 0 := by
 have hi' : i < p.toList.length := by rw [Array.length_toList, h.size]; exact hi
 have hj' : j < p.toList.length := by rw [Array.length_toList, h.size]; exact hj
 have nd : p.toList.Nodup := h.pm.nodup_iff.mpr List.nodup_range
 rw [gD (by rw [h.size]; exact hi), gD (by rw [h.size]; exact hj)]
 intro e
 exact hne ((List.getElem_inj (h₀ := hi') (h₁ := hj') nd).mp (by simpa using e))
def Up (lt : Nat → Nat → Bool) (p : Array Nat) (m : Nat) : Prop := ∀ i j, i < j → j < m → lt (p.getD i 0) (p.getD j 0) = true
def Dn (lt : Nat → Nat → Bool) (p : Array Nat) (m : Nat) : Prop := ∀ i j, i < j → j < m → lt (p.getD j 0) (p.getD i 0) = true
section
variable {n : Nat} {lt : Nat → Nat → Bool} {cmp : Nat → Nat → (Bool → Shared → Prop) → Shared → Prop} {s : Shared}
theorem Up.next (O : Ord n lt) {p : Array Nat} (P : PermN n p) {m : Nat} (h1 : 1 ≤ m) (hm : m < n) (u : Up lt p m) (h : lt (p.getD (m - 1) 0) (p.getD m 0) = true) : Up lt p (m + 1) := by
 intro i j hij hj
 by_cases e : j = m
 · subst e
   by_cases e2 : i = j - 1
   · subst e2; exact h
   · exact O.tr _ _ _ (P.lt (by omega)) (P.lt (by omega)) (P.lt hm) (u i (j - 1) (by omega) (by omega)) h
 · exact u i j hij (by omega)
theorem Dn.next (O : Ord n lt) {p : Array Nat} (P : PermN n p) {m : Nat} (h1 : 1 ≤ m) (hm : m < n) (u : Dn lt p m) (h : lt (p.getD m 0) (p.getD (m - 1) 0) = true) : Dn lt p (m + 1) := by
 intro i j hij hj
 by_cases e : j = m
 · subst e
   by_cases e2 : i = j - 1
   · subst e2; exact h
   · exact O.tr _ _ _ (P.lt hm) (P.lt (by omega)) (P.lt (by omega)) h (u i (j - 1) (by omega) (by omega))
 · exact u i j hij (by omega)
theorem Ord.flip (O : Ord n lt) {i j : Nat} (hi : i < n) (hj : j < n) (hne : i ≠ j) (h : ¬ lt i j = true) : lt j i = true := by
 have := O.tri i j hi hj hne
 cases e : lt j i with
 | true => rfl
 | false => rw [e] at this; exact absurd this h
theorem asc_ok (O : Ord n lt) (A : Asks n lt cmp s) {p : Array Nat} (P : PermN n p) {Q : Nat → Shared → Prop} : ∀ (f m : Nat), 1 ≤ m → m + f ≤ n → Up lt p m →
   (∀ m', m ≤ m' → m' ≤ m + f → Up lt p m' → (m' < m + f → lt (p.getD m' 0) (p.getD (m' - 1) 0) = true) → Q m' s) → (kas_asc p f m).kasWp cmp Q s
 | 0, m, h1, h2, u, q => q m (Nat.le_refl _) (Nat.le_refl _) u (fun z => absurd z (by omega))
 | f + 1, m, h1, h2, u, q => by
   refine A _ _ _ (P.lt (by omega)) (P.lt (by omega)) (P.inj (by omega) (by omega) (by omega)) ?_
   by_cases c : lt (p.getD m 0) (p.getD (m - 1) 0) = true
   · show KasT.kasWp cmp (if lt (p.getD m 0) (p.getD (m - 1) 0) = true then .ret m else kas_asc p f (m + 1)) Q s
     rw [if_pos c]
     exact q m (Nat.le_refl _) (by omega) u fun _ => c
   · show KasT.kasWp cmp (if lt (p.getD m 0) (p.getD (m - 1) 0) = true then .ret m else kas_asc p f (m + 1)) Q s
     rw [if_neg c]
     exact asc_ok O A P f (m + 1) (by omega) (by omega) (u.next O P h1 (by omega) (O.flip (P.lt (by omega)) (P.lt (by omega)) (P.inj (by omega) (by omega) (by omega)) c)) fun m' a b c d => q m' (by omega) (by omega) c fun z => d (by omega)
theorem desc_ok (O : Ord n lt) (A : Asks n lt cmp s) {p : Array Nat} (P : PermN n p) {Q : Array Nat × Nat × Nat → Shared → Prop} : ∀ (f m : Nat), 1 ≤ m → m + f ≤ n → Dn lt p m →
   (∀ m', m ≤ m' → m' ≤ m + f → Dn lt p m' → Q (p, m', 0) s) → (kas_desc f p m 0).kasWp cmp Q s
 | 0, m, h1, h2, u, q => q m (Nat.le_refl _) (Nat.le_refl _) u
 | f + 1, m, h1, h2, u, q => by
   refine A _ _ _ (P.lt (by omega)) (P.lt (by omega)) (P.inj (by omega) (by omega) (by omega)) ?_
   by_cases c : lt (p.getD m 0) (p.getD (m - 1) 0) = true
   · show KasT.kasWp cmp (if lt (p.getD m 0) (p.getD (m - 1) 0) = true then (if 0 > 0 then _ else kas_desc f p (m + 1) 0) else _) Q s
     rw [if_pos c, if_neg (Nat.lt_irrefl 0)]
     exact desc_ok O A P f (m + 1) (by omega) (by omega) (u.next O P h1 (by omega) c) fun m' a b d => q m' (by omega) (by omega) d
   · show KasT.kasWp cmp (if lt (p.getD m 0) (p.getD (m - 1) 0) = true then _ else _) Q s
     rw [if_neg c]
     have c2 := O.flip (P.lt (by omega)) (P.lt (by omega)) (P.inj (i := m) (j := m - 1) (by omega) (by omega) (by omega)) c
     refine A _ _ _ (P.lt (by omega)) (P.lt (by omega)) (P.inj (by omega) (by omega) (by omega)) ?_
     show KasT.kasWp cmp (if lt (p.getD (m - 1) 0) (p.getD m 0) = true then .ret (p, m, 0) else _) Q s
     rw [if_pos c2]
     exact q m (Nat.le_refl _) (by omega) u
theorem rev_perm {p : Array Nat} (P : PermN n p) (m : Nat) : PermN n (kas_rev p 0 m) := ⟨(Array.perm_iff_toList_perm.mp (mirror_perm p 0 m _)).trans P.pm⟩
theorem rev_at {p : Array Nat} {m : Nat} (hm : m ≤ p.size) (k : Nat) : (kas_rev p 0 m).getD k 0 = if k < m then p.getD (m - 1 - k) 0 else p.getD k 0 := by
 unfold kas_rev
 rw [Array.getD_eq_getD_getElem?, getElem?_mirror_all hm]
 by_cases h : k < m
 · rw [if_pos ⟨Nat.zero_le _, h⟩, if_pos h, Array.getD_eq_getD_getElem?]
   congr 2
   omega
 · rw [if_neg (fun z => h z.2), if_neg h, Array.getD_eq_getD_getElem?]
theorem Dn.rev {p : Array Nat} {m : Nat} (hm : m ≤ p.size) (d : Dn lt p m) : Up lt (kas_rev p 0 m) m := by
 intro i j hij hj
 rw [rev_at hm, rev_at hm, if_pos (by omega), if_pos hj]
 exact d _ _ (by omega) (by omega)
theorem count_ok (O : Ord n lt) (A : Asks n lt cmp s) {p : Array Nat} (P : PermN n p) (hn : 2 ≤ n) {Q : Nat × Array Nat → Shared → Prop} (q : ∀ m p', 1 ≤ m → m ≤ n → PermN n p' → Up lt p' m → Q (m, p') s) : (kas_count n p).kasWp cmp Q s := by
 unfold kas_count
 rw [KasT.kasWp_bind]
 refine asc_ok O A P (n - 1) 1 (Nat.le_refl _) (by omega) (fun i j h1 h2 => by omega) fun m h1 h2 u d => ?_
 by_cases e : m = n
 · subst e
   rw [if_pos (by simp)]
   exact q m p h1 (Nat.le_refl _) P u
 · rw [if_neg (by simpa using e)]
   by_cases g : m > 1
   · rw [if_pos g]
     refine A _ _ _ (P.lt (by omega)) (P.lt (by omega)) (P.inj (by omega) (by omega) (by omega)) ?_
     show KasT.kasWp cmp (if lt (p.getD 0 0) (p.getD (m - 1) 0) = true then .ret (m, p) else _) Q s
     rw [if_pos (u 0 (m - 1) (by omega) (by omega))]
     exact q m p h1 (by omega) P u
   · rw [if_neg g]
     have e1 : m = 1 := by omega
     subst e1
     unfold kas_descPart
     rw [KasT.kasWp_bind]
     refine desc_ok O A P (n - 2) 2 (by omega) (by omega) (fun i j h1 h2 => ?_) fun m' a b dn => ?_
     · have ei : i = 0 := by omega
       have ej : j = 1 := by omega
       subst ei ej
       exact d (by omega)
     · show KasT.kasWp cmp (if 0 > 0 then _ else kas_tail3 m' n p) Q s
       rw [if_neg (Nat.lt_irrefl 0)]
       unfold kas_tail3
       rw [KasT.kasWp_bind]
       refine asc_ok O A (rev_perm P m') (n - m') m' (by omega) (by omega) (dn.rev (by rw [P.size]; omega)) fun m2 c1 c2 u2 _ => ?_
       exact q m2 _ (by omega) (by omega) (rev_perm P m') u2
theorem place_ok (O : Ord n lt) (A : Asks n lt cmp s) {p : Array Nat} (P : PermN n p) {k : Nat} (hk : k < n) (u : Up lt p k) {Q : Nat → Shared → Prop}
   (q : ∀ l, l ≤ k → (∀ i, i < l → lt (p.getD i 0) (p.getD k 0) = true) → (∀ i, l ≤ i → i < k → lt (p.getD k 0) (p.getD i 0) = true) → Q l s) : ∀ (f l r : Nat), l ≤ r → r ≤ k → r - l ≤ f →
   (∀ i, i < l → lt (p.getD i 0) (p.getD k 0) = true) → (∀ i, r ≤ i → i < k → lt (p.getD k 0) (p.getD i 0) = true) → (kas_place p k f l r).kasWp cmp Q s
 | 0, l, r, h1, h2, h3, a, b => q l (by omega) a fun i x y => b i (by omega) y
 | f + 1, l, r, h1, h2, h3, a, b => by
   unfold kas_place
   by_cases e : l ≥ r
   · rw [if_pos e]
     exact q l (by omega) a fun i x y => b i (by omega) y
   · rw [if_neg e]
     refine A _ _ _ (P.lt hk) (P.lt (by omega)) (P.inj hk (by omega) (by omega)) ?_
     by_cases c : lt (p.getD k 0) (p.getD ((l + r) / 2) 0) = true
     · show KasT.kasWp cmp (if lt (p.getD k 0) (p.getD ((l + r) / 2) 0) = true then kas_place p k f l ((l + r) / 2) else _) Q s
       rw [if_pos c]
       refine place_ok O A P hk u q f l ((l + r) / 2) (by omega) (by omega) (by omega) a fun i x y => ?_
       by_cases e2 : i = (l + r) / 2
       · subst e2; exact c
       · exact O.tr _ _ _ (P.lt hk) (P.lt (by omega)) (P.lt (by omega)) c (u _ _ (by omega) y)
     · show KasT.kasWp cmp (if lt (p.getD k 0) (p.getD ((l + r) / 2) 0) = true then _ else kas_place p k f ((l + r) / 2 + 1) r) Q s
       rw [if_neg c]
       have c2 := O.flip (P.lt hk) (P.lt (by omega)) (P.inj hk (j := (l + r) / 2) (by omega) (by omega)) c
       refine place_ok O A P hk u q f ((l + r) / 2 + 1) r (by omega) h2 (by omega) (fun i x => ?_) b
       by_cases e2 : i = (l + r) / 2
       · subst e2; exact c2
       · exact O.tr _ _ _ (P.lt (by omega)) (P.lt (by omega)) (P.lt hk) (u _ _ (by omega) (by omega)) c2
theorem bubble_at {p : Array Nat} {k l : Nat} (hk : k < p.size) (hl : l ≤ k) (i : Nat) : (bubble p k (k - l)).getD i 0 = if i = l then p.getD k 0 else if l < i ∧ i ≤ k then p.getD (i - 1) 0 else p.getD i 0 := by
 rw [Array.getD_eq_getD_getElem?, getElem?_bubble hk _ (by omega)]
 have e : k - (k - l) = l := by omega
 rw [e]
 by_cases h1 : i = l
 · rw [if_pos h1, if_pos h1, Array.getD_eq_getD_getElem?]
 · rw [if_neg h1, if_neg h1]
   by_cases h2 : l < i ∧ i ≤ k
   · rw [if_pos h2, if_pos h2, Array.getD_eq_getD_getElem?]
   · rw [if_neg h2, if_neg h2, Array.getD_eq_getD_getElem?]
theorem bin_ok (O : Ord n lt) (A : Asks n lt cmp s) {Q : Array Nat → Shared → Prop} (q : ∀ p, PermN n p → Up lt p n → Q p s) : ∀ (f : Nat) (p : Array Nat) (k : Nat), PermN n p → k + f = n → Up lt p k → (kas_bin f p k).kasWp cmp Q s
 | 0, p, k, P, h, u => q p P (by rw [← h]; exact u)
 | f + 1, p, k, P, h, u => by
   unfold kas_bin
   rw [KasT.kasWp_bind]
   refine place_ok O A P (k := k) (by omega) u (fun l hl a b => ?_) k 0 k (Nat.zero_le _) (Nat.le_refl _) (by omega) (fun i z => by omega) (fun i x y => by omega)
   have hks : k < p.size := by rw [P.size]; omega
   refine bin_ok O A q f _ (k + 1) ⟨(Array.perm_iff_toList_perm.mp (bubble_perm p k _)).trans P.pm⟩ (by omega) fun i j hij hj => ?_
   rw [bubble_at hks hl, bubble_at hks hl]
   by_cases ei : i = l
   · rw [if_pos ei, if_neg (by omega), if_pos (by omega)]
     exact b (j - 1) (by omega) (by omega)
   · rw [if_neg ei]
     by_cases ej : j = l
     · rw [if_pos ej, if_neg (by omega)]
       exact a i (by omega)
     · rw [if_neg ej]
       by_cases c1 : l < i ∧ i ≤ k
       · rw [if_pos c1, if_pos (by omega)]
         exact u _ _ (by omega) (by omega)
       · rw [if_neg c1]
         by_cases c2 : l < j ∧ j ≤ k
         · rw [if_pos c2]
           exact u _ _ (by omega) (by omega)
         · rw [if_neg c2]
           exact u _ _ (by omega) (by omega)
theorem sort_ok (O : Ord n lt) (A : Asks n lt cmp s) (hn : 2 ≤ n) {Q : Array Nat → Shared → Prop} (q : ∀ p, PermN n p → Up lt p n → Q p s) : (kas_sort n).kasWp cmp Q s := by
 unfold kas_sort
 rw [KasT.kasWp_bind]
 refine count_ok O A ⟨by simp⟩ hn fun m p h1 h2 P u => ?_
 by_cases e : m < n
 · show KasT.kasWp cmp (if m < n then kas_bin (n - max m 1) p (max m 1) else .ret p) Q s
   rw [if_pos e, show max m 1 = m by omega]
   exact bin_ok O A q _ p m P (by omega) u
 · show KasT.kasWp cmp (if m < n then kas_bin (n - max m 1) p (max m 1) else .ret p) Q s
   rw [if_neg e]
   exact q p P (by rw [show n = m by omega]; exact u)
end
end L2
namespace L2
open PySem PySem.W PySem.Spec PyProof.Rows L3
section
variable {prog : Program} {w : World} {s : Shared} {A : Around} {E : Value → Shared → Prop}
theorem RawD.stay {h h' : Heap} {d : Addr} {es : Array DictEntry} {ep : Nat} (x : RawD h d es ep) (k : ∀ o, h.get? d = some o → h'.get? d = some o) : RawD h' d es ep := by
 obtain ⟨o, ho, r⟩ := x
 exact ⟨o, k o ho, r⟩
theorem RawD.lt {h : Heap} {d : Addr} {es : Array DictEntry} {ep : Nat} (x : RawD h d es ep) : d < h.objs.size := by
 obtain ⟨o, ho, _⟩ := x
 exact Heap.lt_size ho
theorem rawWalks (hh : A.handled = none) (I d : Addr) (hne : d ≠ I) (es : Array DictEntry) (ep : Nat) :
   Walks prog w A I [I, d] [I] es.size (fun i v => ∃ e, es[i]? = some e ∧ v = e.key) (fun i h => h.IsKeyIter I d i es.size ep ∧ RawD h d es ep) where
 sub := fun b hb => by rw [List.mem_singleton.mp hb]; exact List.mem_cons_self
 frame := fun _ _ _ st hk => ⟨st.1.at fun o e => hk I (by simp) o e, st.2.stay fun o e => hk d (by simp) o e⟩
 item := fun i s R E hi st hR => by
   refine raw_next hh st.1 st.2 (fun h h' it sb => ?_) fun z => absurd hi (by omega)
   exact hR _ h' s.toks ⟨es[i], Array.getElem?_eq_getElem h, rfl⟩ ⟨it, st.2.stay fun o e => (sb.2 d hne).trans e⟩ fun b o hb e => (sb.2 b (fun z => hb (by simp [z]))).trans e
 done := fun s R E st hR => by
   refine raw_next hh st.1 st.2 (fun h => absurd h (Nat.lt_irrefl _)) fun _ h' eb => ?_
   exact hR h' s.toks fun b o hb e => eb b o (fun z => hb (by simp [z])) e
 self := fun _ _ _ _ x hR => wpAny_pyIter_keyiter x.1 hR
theorem rawSrc {d : Addr} {es : Array DictEntry} {ep : Nat} (lo : (d == sysModules) = false) : KdlSrc prog w "dict" d d es.size (fun i v => ∃ e, es[i]? = some e ∧ v = e.key) (fun h => RawD h d es ep) where
 type := fun _ hm => hm.typeIs
 there := fun _ hm => ⟨hm.lt, hm.lt⟩
 keep := fun _ _ hm hk => hm.stay fun o e => hk d (.inl rfl) o e
 notList := by decide
 notTuple := by decide
 hint := fun _ _ _ _ hm hq => kdl_hint_dict hm.typeIs hq
 iter := fun _ _ hh hm => ⟨_, _, (fun _ _ hq => raw_iter lo hm hq), rawWalks hh _ d (Nat.ne_of_lt hm.lt) es ep, ⟨⟨_, Heap.get?_push_size _ rfl, rfl, rfl⟩, hm.stay fun o e => Heap.get?_push_of_some _ e⟩⟩
theorem iadd_raw {R : Result → Shared → Prop} {d S : Addr} {es : Array DictEntry} {ep : Nat} (lo : (d == sysModules) = false) (hh : A.handled = none) (hm : RawD s.heap d es ep) (hn : es.size ≤ sizeLine) (hSd : S ≠ d) (hS : s.heap.get? S = some { cls := .type "list", data := .seq #[] 0 })
   (hR : ∀ h' tk acc' c', (∀ b o, b ≠ S → s.heap.get? b = some o → h'.get? b = some o) → h'.get? S = some { cls := .type "list", dict := none, data := .seq acc' c', slots := #[] } → acc'.toList = es.toList.map (·.key) → R (.ok (.ret (.ref S))) { s with heap := h', toks := tk }) :
   codeAny (model prog w) A (.builtin "list.__iadd__" ⟨[.ref S, .ref d], []⟩) R s := by
 refine codeAny_builtin entry_list_iadd' ?_
 refine kdl_extend (R := R) (rawSrc lo) hh hm S hSd hSd (.ref S) 0 hS (fun h' tk acc c k hS' hacc => hR h' tk acc c k hS' ?_) hn
 apply List.ext_getElem?
 intro i
 rw [List.getElem?_map]
 by_cases hi : i < acc.toList.length
 · have hi2 : i < acc.size := by simpa using hi
   obtain ⟨e, h1, h2⟩ := hacc.2 i acc[i] (Array.getElem?_eq_getElem hi2)
   rw [List.getElem?_eq_getElem hi, Array.getElem?_toList, h1]
   simp [h2]
 · rw [List.getElem?_eq_none (by omega), Array.getElem?_toList, Array.getElem?_eq_none (by have := hacc.1; simp at hi; omega)]
   rfl
theorem collect_raw {d : Addr} {es : Array DictEntry} {ep : Nat} {Q : List Value → Shared → Prop} (lo : (d == sysModules) = false) (hh : A.handled = none) (hm : RawD s.heap d es ep) (hn : es.size ≤ sizeLine)
   (h : ∀ h' tk, (∀ b o, s.heap.get? b = some o → h'.get? b = some o) → s.heap.objs.size < h'.objs.size → Q (es.toList.map (·.key)) { s with heap := h', toks := tk }) : wpAny (model prog w) A (collect (.ref d)) Q E s := by
 unfold collect; refine wpAny_bind (wpAny_runValue (codeAny_builtin entry_proto_collect' ?_))
 have hS : (s.heap.push (seqObj "list" #[] 0)).get? s.heap.objs.size = some (seqObj "list" #[] 0) := Heap.get?_push_size _ rfl
 have hm' : RawD (s.heap.push (seqObj "list" #[] 0)) d es ep := hm.stay fun o e => Heap.get?_push_of_some _ e
 have hSd : s.heap.objs.size ≠ d := Ne.symm (Nat.ne_of_lt hm.lt)
 refine wpAny_bind (wpAny_newList (wpAny_pure ⟨Code.quiet_builtin _ (by decide +kernel), iadd_raw (s := { s with heap := s.heap.push (seqObj "list" #[] 0) }) lo hh hm' hn hSd hS fun h' tk acc c k hS' e => ?_⟩))
 refine (wpAny_bind (wpAny_load (s := { s with heap := h', toks := tk }) hS' ?_) : wpAny (model prog w) A (load s.heap.objs.size >>= fun o => match o.data with | .seq xs _ => pure xs.toList | _ => unsupported "internal:collect") Q E { s with heap := h', toks := tk })
 show wpAny (model prog w) A (pure acc.toList) Q E _
 rw [e]
 exact wpAny_pure (h h' tk (fun b o hb => k b o (Nat.ne_of_lt (Heap.lt_size hb)) (Heap.get?_push_of_some _ hb)) (Heap.lt_size hS'))
end
end L2
namespace L2
open PySem PySem.W PySem.Spec PyProof.Rows L3
section
variable {prog : Program} {w : World} {s : Shared} {A : Around} {E : Value → Shared → Prop}
theorem tsort {a : Addr} {vs : List Value} {n : Nat} {κ : SortKind} {lt : Nat → Nat → Bool} {P : PySem.Fin → Shared → Prop} (hl : s.heap.get? a = some (seqObj "list" vs.toArray n)) (h2 : 2 ≤ vs.length) (h64 : vs.length < 64) (O : Ord vs.length lt)
   (hk : ∀ h', (∀ b o, b ≠ a → s.heap.get? b = some o → h'.get? b = some o) → (∀ (Q : SortKind → Shared → Prop), Q κ { s with heap := h' } → wpAny (model prog w) A (keyKind' vs.toArray) Q (fun _ _ => False) { s with heap := h' }) ∧ Asks vs.length lt (kas_ask prog w A κ vs) { s with heap := h' })
   (fin : ∀ h' p c, PermN vs.length p → Up lt p vs.length → (∀ b o, b ≠ a → s.heap.get? b = some o → h'.get? b = some o) → h'.get? a = some (seqObj "list" (List.toArray (p.toList.map fun i => vs.getD i Value.none)) c) → P (.done (.ret .none)) { s with heap := h' }) :
   wpAny (model prog w) A (PySem.Builtin.«list.sort» ⟨[Value.ref a], []⟩) P E s := by
 obtain ⟨c1, hc1⟩ : ∃ c, (s.heap.update a (Obj.mapSeq fun _ => #[])).get? a = some (seqObj "list" #[] c) := ⟨_, get?_update_seq hl _⟩
 obtain ⟨H3, e3⟩ : ∃ H3, H3 = ((s.heap.update a (Obj.mapSeq fun _ => #[])).push (seqObj "tuple" vs.toArray 0)).push (seqObj "list" #[] 0) := ⟨_, rfl⟩
 have old : ∀ b o, b ≠ a → s.heap.get? b = some o → H3.get? b = some o := fun b o hb e => by
   rw [e3]
   exact Heap.get?_push_of_some _ (Heap.get?_push_of_some _ (((Heap.SameBut.update s.heap a _).2 b hb).trans e))
 have at3 : H3.get? a = some (seqObj "list" #[] c1) := by
   rw [e3]
   exact Heap.get?_push_of_some _ (Heap.get?_push_of_some _ hc1)
 obtain ⟨kk, asks⟩ := hk H3 old
 rw [list_sort_plain]; refine wpAny_bind (listItems_at hl rfl (wpAny_bind (listUpdate_at hl rfl ?_ (by rw [List.size_toArray, sizeLine_eq]; omega) (Nat.zero_le _))))
 refine wpAny_bind (seqEpoch_at hc1 rfl (wpAny_bind (wpAny_newTuple (wpAny_bind (wpAny_newList (wpAny_holding ?_) (Nat.zero_le _))) (by show vs.length ≤ _; rw [sizeLine_eq]; omega))))
 refine (?_ : wpAny (model prog w) A _ P E { s with heap := ((s.heap.update a (Obj.mapSeq fun _ => #[])).push (seqObj "tuple" vs.toArray 0)).push (seqObj "list" #[] 0) }); rw [← e3]
 dsimp only
 have big : ¬ vs.toArray.size < 2 := by rw [List.size_toArray]; omega
 rw [if_neg big, if_neg big]
 refine wpAny_bind (wpAny_mono (kk (fun κ' s0 => κ' = κ ∧ s0 = { s with heap := H3 }) ⟨rfl, rfl⟩) (fun κ' s0 z => ?_) fun _ _ x => x.elim)
 obtain ⟨rfl, rfl⟩ := z
 refine wpAny_bind (wpAny_mono (kat_run (Q := fun st' s' => ∃ p : Array Nat, arrOf st' = p.map (kas_item (vs.toArray.zip vs.toArray)) ∧ failedOf st' = none ∧ PermN vs.length p ∧ Up lt p vs.length ∧ s' = { s with heap := H3 }) rfl h2 h64 (fun p st' s' _ a2 a3 a4 => ⟨p, a2, a3, a4⟩) (sort_ok O asks h2 fun p PP u => ⟨PP, u, rfl⟩)) ?_ fun _ _ e => e)
 rintro ⟨⟨⟩, st'⟩ s' ⟨p, har, hf, PP, u, rfl⟩
 dsimp only
 rw [kat_snds rfl har]
 refine wpAny_bind (seqEpoch_at at3 rfl (wpAny_bind (listUpdate_at at3 rfl ?_ (Nat.zero_le _) ?_)))
 · rw [hf]; simp only [bne_self_eq_false, Bool.false_eq_true, if_false]
   exact wpAny_pure (fin _ p _ PP u (fun b o hb e => ((Heap.SameBut.update H3 a _).2 b hb).trans (old b o hb e)) (get?_update_seq at3 _))
 · show (List.toArray (p.toList.map fun i => vs.getD i Value.none)).size ≤ _
   rw [List.size_toArray, List.length_map, Array.length_toList, PP.size, sizeLine_eq]
   omega
theorem tsort1 {a : Addr} {vs : List Value} {n : Nat} {P : PySem.Fin → Shared → Prop} (hl : s.heap.get? a = some (seqObj "list" vs.toArray n)) (h1 : vs.length < 2)
   (fin : ∀ h' c, (∀ b o, b ≠ a → s.heap.get? b = some o → h'.get? b = some o) → h'.get? a = some (seqObj "list" vs.toArray c) → P (.done (.ret .none)) { s with heap := h' }) :
   wpAny (model prog w) A (PySem.Builtin.«list.sort» ⟨[Value.ref a], []⟩) P E s := by
 obtain ⟨c1, hc1⟩ : ∃ c, (s.heap.update a (Obj.mapSeq fun _ => #[])).get? a = some (seqObj "list" #[] c) := ⟨_, get?_update_seq hl _⟩
 obtain ⟨H3, e3⟩ : ∃ H3, H3 = ((s.heap.update a (Obj.mapSeq fun _ => #[])).push (seqObj "tuple" vs.toArray 0)).push (seqObj "list" #[] 0) := ⟨_, rfl⟩
 have old : ∀ b o, b ≠ a → s.heap.get? b = some o → H3.get? b = some o := fun b o hb e => by
   rw [e3]
   exact Heap.get?_push_of_some _ (Heap.get?_push_of_some _ (((Heap.SameBut.update s.heap a _).2 b hb).trans e))
 have at3 : H3.get? a = some (seqObj "list" #[] c1) := by
   rw [e3]
   exact Heap.get?_push_of_some _ (Heap.get?_push_of_some _ hc1)
 rw [list_sort_plain]; refine wpAny_bind (listItems_at hl rfl (wpAny_bind (listUpdate_at hl rfl ?_ (by rw [List.size_toArray, sizeLine_eq]; omega) (Nat.zero_le _))))
 refine wpAny_bind (seqEpoch_at hc1 rfl (wpAny_bind (wpAny_newTuple (wpAny_bind (wpAny_newList (wpAny_holding ?_) (Nat.zero_le _))) (by show vs.length ≤ _; rw [sizeLine_eq]; omega))))
 refine (?_ : wpAny (model prog w) A _ P E { s with heap := ((s.heap.update a (Obj.mapSeq fun _ => #[])).push (seqObj "tuple" vs.toArray 0)).push (seqObj "list" #[] 0) }); rw [← e3]
 dsimp only
 have big : vs.toArray.size < 2 := by rw [List.size_toArray]; omega
 rw [if_pos big, if_pos big]
 refine wpAny_bind (wpAny_pure ?_); rw [StateT.run_pure]; refine wpAny_bind (wpAny_pure ?_); dsimp only
 have eo : (arrOf (SortSt.mk' general' (vs.toArray.zip vs.toArray) #[] 7 none)).map (·.2) = vs.toArray := by
   show (vs.toArray.zip vs.toArray).map (·.2) = _
   rw [Array.map_snd_zip (Nat.le_refl _)]
 rw [eo]
 refine wpAny_bind (seqEpoch_at at3 rfl (wpAny_bind (listUpdate_at at3 rfl ?_ (Nat.zero_le _) ?_)))
 · simp only [bne_self_eq_false, Bool.false_eq_true, if_false, ite_self]
   exact wpAny_pure (fin _ _ (fun b o hb e => ((Heap.SameBut.update H3 a _).2 b hb).trans (old b o hb e)) (get?_update_seq at3 _))
 · show vs.toArray.size ≤ _
   rw [List.size_toArray, sizeLine_eq]
   omega
end
end L2
namespace L2
open PySem PySem.W PySem.Spec PyProof.Rows L3
section
variable {prog : Program} {w : World} {s : Shared} {A : Around} {E : Value → Shared → Prop}
theorem perm_range (n : Nat) : PermN n (List.toArray (List.range n)) := ⟨by simp⟩
theorem range_map (vs : List Value) : ((List.toArray (List.range vs.length)).toList.map fun i => vs.getD i Value.none) = vs := by
 apply List.ext_getElem
 · simp
 · intro i h1 h2
   simp [List.getD, h2]
theorem sorted_raw {d : Addr} {es : Array DictEntry} {ep : Nat} {κ : SortKind} {lt : Nat → Nat → Bool} {vs : List Value} {Q : Value → Shared → Prop} (lo : (d == sysModules) = false) (hh : A.handled = none) (hm : RawD s.heap d es ep) (hv : es.toList.map (·.key) = vs) (h64 : vs.length < 64) (O : Ord vs.length lt)
   (hk : 2 ≤ vs.length → ∀ h' tk, (∀ b o, s.heap.get? b = some o → h'.get? b = some o) → (∀ (R : SortKind → Shared → Prop), R κ { s with heap := h', toks := tk } → wpAny (model prog w) A.in1.in1 (keyKind' vs.toArray) R (fun _ _ => False) { s with heap := h', toks := tk }) ∧ Asks vs.length lt (kas_ask prog w A.in1.in1 κ vs) { s with heap := h', toks := tk })
   (fin : ∀ h' tk D p c, PermN vs.length p → Up lt p vs.length → (∀ b o, s.heap.get? b = some o → h'.get? b = some o) → s.heap.objs.size ≤ D → h'.get? D = some (seqObj "list" (List.toArray (p.toList.map fun i => vs.getD i Value.none)) c) → Q (.ref D) { s with heap := h', toks := tk }) :
   wpAny (model prog w) A (call (.builtin "sorted") [Value.ref d]) Q E s := by
 have hn : es.size ≤ sizeLine := by
   have := congrArg List.length hv
   rw [List.length_map, Array.length_toList] at this
   rw [this, sizeLine_eq]
   omega
 refine Calls.call_function_entry kind_sorted plain_sorted entry_sorted (args_sorted1 _) (?_ : wpAny _ _ (Builtin.«sorted» _) _ _ s)
 unfold Builtin.«sorted»; refine wpAny_bind (m := checkCount "sorted" 1 1 _) (wpAny_pure (wpAny_bind (collect_raw lo hh hm hn fun h1 tk k1 l1 => ?_)))
 rw [hv]; refine wpAny_bind (wpAny_newList ?_ (by rw [sizeLine_eq]; omega))
 have hD : (h1.push (seqObj "list" vs.toArray 0)).get? h1.objs.size = some (seqObj "list" vs.toArray 0) := Heap.get?_push_size _ rfl
 have k2 : ∀ b o, s.heap.get? b = some o → (h1.push (seqObj "list" vs.toArray 0)).get? b = some o := fun b o e => Heap.get?_push_of_some _ (k1 b o e)
 have nD : ∀ b o, s.heap.get? b = some o → b ≠ h1.objs.size := fun b o e => Nat.ne_of_lt (Heap.lt_size (k1 b o e))
 have lD : s.heap.objs.size ≤ h1.objs.size := Nat.le_of_lt l1
 refine wpAny_bind (wpAny_holding (wpAny_call_entry slot_list_sort ⟨_, hD, rfl⟩ entry_list_sort ?body (args_list_sort _)))
 by_cases h2 : 2 ≤ vs.length
 · refine tsort (s := { s with heap := h1.push (seqObj "list" vs.toArray 0), toks := tk }) hD h2 h64 O (fun h' kp => hk h2 h' tk fun b o e => kp b o (nD b o e) (k2 b o e)) fun h' p c PP u kp hf => ?_
   exact ⟨_, rfl, wpAny_pure ⟨_, rfl, fin h' tk _ p c PP u (fun b o e => kp b o (nD b o e) (k2 b o e)) lD hf⟩⟩
 · refine tsort1 (s := { s with heap := h1.push (seqObj "list" vs.toArray 0), toks := tk }) hD (by omega) fun h' c kp hf => ?_
   exact ⟨_, rfl, wpAny_pure ⟨_, rfl, fin h' tk _ _ c (perm_range _) (fun i j a b => by omega) (fun b o e => kp b o (nD b o e) (k2 b o e)) lD (by rw [range_map]; exact hf)⟩⟩
end
end L2
namespace L2
open PySem PySem.W PySem.Spec PyProof.Rows L3
def ltS (x y : Str) : Bool := decide (x.cps.toList < y.cps.toList)
def ltP (k l : Str × Str) : Bool := if k.1 = l.1 then ltS k.2 l.2 else ltS k.1 l.1
theorem str_eq {x y : Str} (h : x.cps.toList = y.cps.toList) : x = y := by
 cases x; cases y
 simp only [Str.mk.injEq]
 exact Array.toList_inj.mp h
theorem ltS_tri {x y : Str} (h : x ≠ y) : ltS x y = !ltS y x := by
 unfold ltS
 by_cases a : x.cps.toList < y.cps.toList
 · have : ¬ y.cps.toList < x.cps.toList := fun b => List.lt_irrefl _ (List.lt_trans a b)
   simp [a, this]
 · have : y.cps.toList < x.cps.toList := by
     rcases Classical.em (y.cps.toList < x.cps.toList) with b | b
     · exact b
     · exact absurd (str_eq (List.le_antisymm (List.not_lt.mp b) (List.not_lt.mp a))) h
   simp [a, this]
theorem ltS_tr {x y z : Str} (h1 : ltS x y = true) (h2 : ltS y z = true) : ltS x z = true := by
 unfold ltS at *
 exact decide_eq_true (List.lt_trans (of_decide_eq_true h1) (of_decide_eq_true h2))
theorem ltS_ne {x y : Str} (h : ltS x y = true) : x ≠ y := fun e => by
 subst e
 exact List.lt_irrefl _ (of_decide_eq_true h)
theorem ltP_tri {k l : Str × Str} (h : k ≠ l) : ltP k l = !ltP l k := by
 unfold ltP
 by_cases e : k.1 = l.1
 · rw [if_pos e, if_pos e.symm]
   exact ltS_tri fun z => h (Prod.ext e z)
 · rw [if_neg e, if_neg (Ne.symm e)]
   exact ltS_tri e
theorem ltP_tr {k l m : Str × Str} (h1 : ltP k l = true) (h2 : ltP l m = true) : ltP k m = true := by
 unfold ltP at *
 by_cases e : k.1 = l.1
 · rw [if_pos e] at h1
   by_cases f : l.1 = m.1
   · rw [if_pos f] at h2
     rw [if_pos (e.trans f)]
     exact ltS_tr h1 h2
   · rw [if_neg f] at h2
     rw [if_neg (fun z => f (e.symm.trans z)), e]
     exact h2
 · rw [if_neg e] at h1
   by_cases f : l.1 = m.1
   · rw [if_neg (fun z => e (z.trans f.symm)), ← f]
     exact h1
   · rw [if_neg f] at h2
     have h3 := ltS_tr h1 h2
     rw [if_neg (ltS_ne h3)]
     exact h3
theorem ord_pairs {ks : List (Str × Str)} (nd : ks.Nodup) : Ord ks.length (fun i j => ltP (ks.getD i ("", "")) (ks.getD j ("", ""))) where
 tri := fun i j hi hj hne => ltP_tri fun e => hne (by
   rw [List.getD, List.getD, List.getElem?_eq_getElem hi, List.getElem?_eq_getElem hj] at e
   exact (List.getElem_inj (h₀ := hi) (h₁ := hj) nd).mp e)
 tr := fun i j k _ _ _ h1 h2 => ltP_tr h1 h2
section
variable {prog : Program} {w : World} {s : Shared} {A : Around} {E : Value → Shared → Prop}
def TwoAt (h : Heap) (a : Addr) (k : Str × Str) : Prop := ∃ o n t u, h.get? a = some o ∧ o.cls = .type "tuple" ∧ o.data = .seq #[.str k.1 t, .str k.2 u] n
theorem ask_two {x y : Addr} {k l : Str × Str} {C : Bool → Shared → Prop} (hx : TwoAt s.heap x k) (hy : TwoAt s.heap y l) (hne : k ≠ l) (q : C (ltP k l) s) : wpAny (model prog w) A (keyLt' (tuples' true) (.ref x) (.ref y)) C E s := by
 obtain ⟨ox, nx, t1, u1, hx, _, dx⟩ := hx
 obtain ⟨oy, ny, t2, u2, hy, _, dy⟩ := hy
 refine kat_lt hx dx hy dy ?_
 unfold ltP at q
 refine kat_cons (wpAny_eqBool_str ?_)
 by_cases e : k.1 = l.1
 · rw [if_pos e] at q
   rw [decide_eq_true e]
   refine kat_yes (kat_cons (wpAny_eqBool_str ?_))
   rw [decide_eq_false (fun z => hne (Prod.ext e z))]
   exact kat_no (kat_one _ _ (lt_str q))
 · rw [if_neg e] at q
   rw [decide_eq_false e]
   exact kat_no (oneLt_str q)
inductive TwosAt (h : Heap) : List Addr → List (Str × Str) → Prop where
 | nil : TwosAt h [] []
 | cons {a : Addr} {k : Str × Str} {as : List Addr} {ks : List (Str × Str)} (x : TwoAt h a k) (r : TwosAt h as ks) : TwosAt h (a :: as) (k :: ks)
theorem TwosAt.keep {h h' : Heap} (kp : ∀ b o, h.get? b = some o → h'.get? b = some o) : ∀ {as : List Addr} {ks : List (Str × Str)}, TwosAt h as ks → TwosAt h' as ks
 | _, _, .nil => .nil
 | _, _, .cons ⟨o, n, t, u, e, r⟩ x => .cons ⟨o, n, t, u, kp _ _ e, r⟩ (x.keep kp)
theorem TwosAt.len {h : Heap} : ∀ {as : List Addr} {ks : List (Str × Str)}, TwosAt h as ks → as.length = ks.length
 | _, _, .nil => rfl
 | _, _, .cons _ r => congrArg (· + 1) r.len
theorem TwosAt.at {h : Heap} : ∀ {as : List Addr} {ks : List (Str × Str)} (i : Nat), TwosAt h as ks → i < as.length → ∃ a, (as.map Value.ref).getD i Value.none = .ref a ∧ TwoAt h a (ks.getD i ("", ""))
 | _, _, i, .nil, hi => absurd hi (Nat.not_lt_zero _)
 | _, _, 0, .cons x _, _ => ⟨_, rfl, x⟩
 | _, _, i + 1, .cons _ r, hi => by
   obtain ⟨a, e, x⟩ := r.at i (by simpa using hi)
   exact ⟨a, by simpa [List.getD] using e, by simpa [List.getD] using x⟩
theorem TwosAt.kats {h : Heap} : ∀ {as : List Addr} {ks : List (Str × Str)}, TwosAt h as ks → ∃ fs : List Value, fs.length = ks.length ∧ (∀ v ∈ fs, ∃ x t, v = .str x t) ∧ KatTups h (as.map Value.ref) fs
 | _, _, .nil => ⟨[], rfl, (fun v hv => nomatch hv), KatTups.nil⟩
 | _, _, .cons ⟨o, n, t, u, e, c, d⟩ r => by
   obtain ⟨fs, h1, h2, h3⟩ := r.kats
   refine ⟨_ :: fs, congrArg (· + 1) h1, fun v hv => ?_, KatTups.cons e c d rfl h3⟩
   rcases List.mem_cons.mp hv with z | z
   · exact ⟨_, _, z⟩
   · exact h2 v z
theorem asks_two {as : List Addr} {ks : List (Str × Str)} (T : TwosAt s.heap as ks) (nd : ks.Nodup) : Asks (as.map Value.ref).length (fun i j => ltP (ks.getD i ("", "")) (ks.getD j ("", ""))) (kas_ask prog w A (tuples' true) (as.map Value.ref)) s := by
 intro i j C hi hj hne q
 rw [List.length_map] at hi hj
 obtain ⟨a, ea, xa⟩ := T.at i hi
 obtain ⟨b, eb, xb⟩ := T.at j hj
 unfold kas_ask
 rw [ea, eb]
 refine ask_two xa xb (fun e => hne ?_) q
 have hi' : i < ks.length := by rw [← T.len]; exact hi
 have hj' : j < ks.length := by rw [← T.len]; exact hj
 rw [List.getD, List.getD, List.getElem?_eq_getElem hi', List.getElem?_eq_getElem hj'] at e
 exact (List.getElem_inj (h₀ := hi') (h₁ := hj') nd).mp e
theorem kind_two {as : List Addr} {ks : List (Str × Str)} {R : SortKind → Shared → Prop} (T : TwosAt s.heap as ks) (h2 : 2 ≤ ks.length) (q : R (tuples' true) s) : wpAny (model prog w) A (keyKind' (as.map Value.ref).toArray) R E s := by
 obtain ⟨fs, h1, hs, kt⟩ := T.kats
 refine kat_kind (T := .type "str") kt (by omega) (fun v hv => ?_) rfl q
 obtain ⟨x, t, rfl⟩ := hs v hv
 exact Looks.of_pure rfl
end
end L2
namespace L2
open PySem PySem.W PySem.Spec PyProof.Rows L3
section
variable {X : Cx}
def rSortT : List V → Hp → VK → Prop := fun xs H Q => ∃ (d : Addr) (kvs : List (List Key × V)) (ks : List (Str × Str)), xs = [.ref d] ∧ H d = some (.dT kvs) ∧ kvs.map (·.1) = ks.map (fun k => [Sum.inr k.1, Sum.inr k.2]) ∧ ks.length < 64 ∧
 ∀ l (L : List (Addr × Str × Str)), H l = none → (L.map (·.2)).Perm ks → (L.map (·.2)).Pairwise (fun a b => ltP a b = true) → (∀ z ∈ L, H z.1 = some (.tup [.str z.2.1, .str z.2.2])) → Q (.ref l) (upd H l (.lst (L.map fun z => .ref z.1)))
theorem two_of {pins : List (Addr × Obj)} {σ : St} {H : Hp} {s : Shared} (I : Inv X pins σ H s) {a : Addr} {k : Str × Str} (h : H a = some (.tup [.str k.1, .str k.2])) : TwoAt s.heap a k := by
 obtain ⟨its, r, ⟨o, e, c, n, d⟩, _⟩ := I.tuple (SqT.of h)
 cases r with
 | cons r1 rr =>
   cases rr with
   | cons r2 r3 =>
     cases r3
     obtain ⟨t, rfl⟩ := r1
     obtain ⟨u, rfl⟩ := r2
     exact ⟨o, n, t, u, e, c, d⟩
theorem twos_of {pins : List (Addr × Obj)} {σ : St} {H : Hp} {s : Shared} (I : Inv X pins σ H s) : ∀ {kvs : List (List Key × V)} {zs : List (List Key × Addr × Value)} {ks : List (Str × Str)}, Paired (fun (p : List Key × V) (q : List Key × Addr × Value) => p.1 = q.1 ∧ H q.2.1 = some (.tup (p.1.map kV)) ∧ RelV p.2 q.2.2) kvs zs →
   kvs.map (·.1) = ks.map (fun k => [Sum.inr k.1, Sum.inr k.2]) → TwosAt s.heap (zs.map (·.2.1)) ks ∧ (∀ i, i < ks.length → H ((zs.map (·.2.1)).getD i 0) = some (.tup [.str (ks.getD i ("", "")).1, .str (ks.getD i ("", "")).2])) ∧ zs.map (·.1) = ks.map (fun k => [Sum.inr k.1, Sum.inr k.2]) := by
 intro kvs zs ks pr
 induction pr generalizing ks with
 | nil =>
   intro e
   cases ks with
   | nil => exact ⟨.nil, (fun i hi => absurd hi (Nat.not_lt_zero _)), rfl⟩
   | cons _ _ => cases e
 | @cons p z kvs zs r rr ih =>
   intro e
   cases ks with
   | nil => cases e
   | cons k ks =>
     simp only [List.map_cons, List.cons.injEq] at e
     obtain ⟨h1, h2, h3⟩ := ih e.2
     have ha : H z.2.1 = some (.tup [.str k.1, .str k.2]) := by
       have := r.2.1
       rw [e.1] at this
       exact this
     refine ⟨.cons (two_of I ha) h1, fun i hi => ?_, ?_⟩
     · cases i with
       | zero => exact ha
       | succ i => simpa [List.getD] using h2 i (by simpa using hi)
     · simp only [List.map_cons, List.cons.injEq]
       exact ⟨r.1.symm.trans e.1, h3⟩
theorem getD_range {α : Type} (xs : List α) (d : α) : (List.range xs.length).map (fun i => xs.getD i d) = xs := by
 apply List.ext_getElem
 · simp
 · intro i h1 h2
   simp [List.getD, h2]
theorem call_sortedT (hc : X.calm = true) : CallR X (.builtin "sorted") rSortT := by
 intro pins s σ H xs us Q I rv h
 obtain ⟨d, kvs, ks, rfl, hd, hks, h64, q⟩ := h
 obtain ⟨u, rfl, ru⟩ := rv.one
 cases ru
 obtain ⟨hz, hsm, zs, pr, o, es, ep, ho, hcl, hdat, hes, hnd⟩ := (show ObjOk X.prog X.w H s.heap d (.dT kvs) from I.hok d _ hd)
 obtain ⟨T, hH, hzk⟩ := twos_of I pr hks
 have hv : es.toList.map (·.key) = (zs.map (·.2.1)).map Value.ref := by
   rw [hes, List.map_map, List.map_map]
   rfl
 have nd : ks.Nodup := by
   rw [hzk] at hnd
   exact List.Pairwise.of_map _ (fun a b h e => h (by rw [e])) hnd
 have hl : ((zs.map (·.2.1)).map Value.ref).length = ks.length := by rw [List.length_map, T.len]
 have O := ord_pairs nd
 rw [← hl] at O
 refine sorted_raw (κ := tuples' true) hsm (I.ok.hd hc) ⟨o, ho, hcl, hdat⟩ hv (by omega) O (fun h2 h' tk kp => ⟨fun R hR => kind_two (s := { s with heap := h', toks := tk }) (T.keep kp) (by omega) hR, asks_two (s := { s with heap := h', toks := tk }) (T.keep kp) nd⟩) fun h' tk D p c PP u kp lD hD => ?_
 rw [hl] at PP u
 have hp : ∀ i ∈ p.toList, i < ks.length := fun i hi => List.mem_range.mp (PP.pm.mem_iff.mp hi)
 have hout : (p.toList.map fun i => ((zs.map (·.2.1)).map Value.ref).getD i Value.none) = (p.toList.map fun i => ((zs.map (·.2.1)).getD i 0, ks.getD i ("", ""))).map fun z => Value.ref z.1 := by
   rw [show ∀ (l : List Nat) (f : Nat → Addr × Str × Str), (l.map f).map (fun z => Value.ref z.1) = l.map (fun i => Value.ref (f i).1) from fun l f => by rw [List.map_map]; rfl]
   refine List.map_congr_left fun i hi => ?_
   have h1 : i < (zs.map (·.2.1)).length := by rw [T.len]; exact hp i hi
   show ((zs.map (·.2.1)).map Value.ref).getD i Value.none = Value.ref ((zs.map (·.2.1)).getD i 0)
   rw [List.getD, List.getD, List.getElem?_map, List.getElem?_eq_getElem h1]
   rfl
 have hm2 : (p.toList.map fun i => ((zs.map (·.2.1)).getD i 0, ks.getD i ("", ""))).map (·.2) = p.toList.map fun i => ks.getD i ("", "") := by
   rw [List.map_map]
   rfl
 rw [hout] at hD
 refine ⟨.ref D, _, I.laid (a := D) (o := .lst ((p.toList.map fun i => ((zs.map (·.2.1)).getD i 0, ks.getD i ("", ""))).map fun z => V.ref z.1)) (t' := tk) kp lD ⟨?_, (p.toList.map fun i => ((zs.map (·.2.1)).getD i 0, ks.getD i ("", ""))).map (fun z => Value.ref z.1), c, ?_, hD⟩, rfl, q D _ (I.hok.fresh lD) ?_ ?_ ?_⟩
 · rw [List.length_map, List.length_map, Array.length_toList, PP.size]
   have : 64 ≤ sizeLine := by decide
   omega
 · generalize (p.toList.map fun i => ((zs.map (·.2.1)).getD i 0, ks.getD i ("", ""))) = M
   induction M with
   | nil => exact .nil
   | cons z M ih => exact .cons rfl ih
 · rw [hm2]
   have := PP.pm.map (fun i => ks.getD i ("", ""))
   rw [getD_range] at this
   exact this
 · rw [hm2, List.pairwise_iff_getElem]
   intro i j hi hj hij
   simp only [List.length_map, Array.length_toList] at hi hj; simp only [List.getElem_map, Array.getElem_toList]
   have := u i j hij (by rw [PP.size] at hj; exact hj)
   rw [gD hi, gD hj] at this
   exact this
 · intro z hz
   obtain ⟨i, hi, rfl⟩ := List.mem_map.mp hz
   exact hH i (hp i hi)
end
end L2
namespace L2
open PySem PySem.Spec PyProof.Rows L3
section
variable {X : Cx}
theorem vals_intD : ∀ {ns : List Int} {its : List Value}, Vals (ns.map V.int) its → ∀ (j : Nat) (h : j < its.length), ∃ t, its[j] = .int (ns.getD j 0) t
 | [], _, .nil, j, h => absurd h (Nat.not_lt_zero _)
 | n :: ns, _, .cons r rr, 0, _ => by
   obtain ⟨t, rfl⟩ := r
   exact ⟨t, rfl⟩
 | n :: ns, _, .cons r rr, j + 1, h => by
   obtain ⟨t, e⟩ := vals_intD rr j (by simpa using h)
   exact ⟨t, by simpa [List.getD] using e⟩
theorem all_eq (ns ms : List Int) : ((List.range (min ns.length ms.length)).all (fun j => decide (ns.getD j 0 = ms.getD j 0)) && ns.length == ms.length) = decide (ns = ms) := by
 by_cases e : ns = ms
 · subst e
   simp
 · rw [decide_eq_false e]
   by_cases hl : ns.length = ms.length
   · simp only [hl, beq_self_eq_true, Bool.and_true, Nat.min_self]
     rw [Bool.eq_false_iff]
     intro h
     refine e (List.ext_getElem hl fun i h1 h2 => ?_)
     have := List.all_eq_true.mp h i (List.mem_range.mpr h2)
     simpa [List.getD, h1, h2] using this
   · simp [hl]
theorem op_neI {cm : Bool} {k : Nat} (hr : Room cm k X.A) : OpR X (compareOp .NotEq) (fun x y H Q => ∃ (a b : Addr) (ns ms : List Int), x = .ref a ∧ y = .ref b ∧ SqT X.K H a (ns.map V.int) ∧ SqT X.K H b (ms.map V.int) ∧ Q (.bl (!decide (ns = ms))) H) := by
 intro pins s σ H x y v u Q I rx ry h
 obtain ⟨a, b, ns, ms, rfl, rfl, ha, hb, q⟩ := h
 cases rx
 cases ry
 obtain ⟨its, r, pl, hz⟩ := I.tuple ha
 obtain ⟨its2, r2, pl2, hz2⟩ := I.tuple hb
 have l1 := r.length
 have l2 := r2.length
 rw [List.length_map] at l1 l2
 have hu : X.A.units < cLine := by have := hr.un; omega
 refine SeqAt.RcNeAt.tuples (e := fun j => decide (ns.getD j 0 = ms.getD j 0)) (show s.heap.IsTuple a its.toArray from pl) (show s.heap.IsTuple b its2.toArray from pl2) hu (fun j h1 h2 => ?_) _ _ _ _ ?_
 · simp only [List.size_toArray] at h1 h2
   obtain ⟨t, e1⟩ := vals_intD r j h1
   obtain ⟨t2, e2⟩ := vals_intD r2 j h2
   simp only [List.getElem_toArray]
   rw [e1, e2]
   exact SeqAt.EqAt.int_int _ _ _ _
 · simp only [List.size_toArray]
   rw [← l1, ← l2, all_eq]
   exact ⟨.bl _, H, I, rfl, q⟩
end
end L2
namespace L2
open PySem PySem.Spec PyProof.Rows L3
theorem ltP_uniq : ∀ {xs ys : List (Str × Str)}, xs.Perm ys → xs.Pairwise (fun a b => ltP a b = true) → ys.Pairwise (fun a b => ltP a b = true) → xs = ys
 | [], ys, p, _, _ => p.nil_eq
 | x :: xs, [], p, _, _ => absurd p.length_eq (by simp)
 | x :: xs, y :: ys, p, h1, h2 => by
   have a1 := List.pairwise_cons.mp h1
   have a2 := List.pairwise_cons.mp h2
   have e : x = y := by
     rcases List.mem_cons.mp (p.mem_iff.mp List.mem_cons_self) with z | z
     · exact z
     · rcases List.mem_cons.mp (p.mem_iff.mpr (List.mem_cons_self (a := y) (l := ys))) with z2 | z2
       · exact z2.symm
       · have b1 := a1.1 y z2
         have b2 := a2.1 x z
         have := ltP_tr b1 b2
         have hne : x ≠ y := fun e => by
           subst e
           unfold ltP at b1
           rw [if_pos rfl] at b1
           exact ltS_ne b1 rfl
         rw [ltP_tri hne, b2] at b1
         cases b1
   subst e
   rw [ltP_uniq (List.perm_cons x |>.mp p) a1.2 a2.2]
end L2
namespace L2
open PySem PySem.Spec PyProof.Rows L3
section
variable {X : Cx}
theorem ps_setLCT {i : Nat} {t : Str} {elt iter tg : Expr} {g : TG} {xs : List Str} {pos cpos pos' : Pos} {scope : Scope} {cl : List (Str × Addr)} {wi : TI} {te : TE} (js : List Nat) (hN : X.N.Nodup) (hi' : X.N[i]? = some t) (hx : Loc X.env.scope t) (hc : X.calm = true) (L : LcOkT X xs scope cl js) (hi : PI X tg iter wi)
   (hg : ∀ C s2 H2 fp xe, PG (X.inC scope cl C s2 H2 fp (xs ++ js.map (fun j => X.N.getD j "")) xe) tg g)
   (he : ∀ C s2 H2 fp xe, PE (X.inC scope cl C s2 H2 fp (xs ++ js.map (fun j => X.N.getD j "")) xe) elt te)
   (hs : ∀ z, foldedSetIterable iter X.env z = pure z := by intro _; rfl) (hsw : swapsWith (.ListComp elt [⟨tg, iter, [], 0⟩] scope cpos) (some (.Name t pos')) pos.line X.env = pure true := by rfl)
   (hf : X.fn t = true ∨ X.env.scope.names.lookup t = some .local := by first | exact .inl rfl | exact .inr rfl | assumption) :
   PS X (.Assign [.Name t pos'] (.ListComp elt [⟨tg, iter, [], 0⟩] scope cpos) pos) (tAsg (tLCT wi g te xs.length js) (gName i)) := by
 intro pins s σ H D I h
 rw [exec_Assign_Name_used _ _ _ _ hsw]
 refine wpAny_bind (wpAny_standAt (wpAny_bind ?_))
 show wpAny _ X.A (do let _ ← comprehension (.ListComp elt [⟨tg, iter, [], 0⟩] scope cpos) scope X.env _ (newList []) false (eval iter X.env) (some (assign (.Name t pos') X.env))) _ _ s
 refine wpAny_bind (wpAny_mono (lcT_core (use := some (assign (.Name t pos') X.env)) (Qc := fun _ s' => SP X pins D .next s') hc L hi hg he hs I h fun Dl C H4 s4 m hn fC I4 q => ?_) (fun _ s' hq => wpAny_pure (wpAny_pure hq)) fun _ _ e => e)
 show wpAny (model X.prog X.w) X.A (assign (.Name t pos') X.env (.ref Dl)) _ X.xe s4
 obtain ⟨oC, es, ep, hoC, hdC, rC⟩ := id hn
 have I4' : Inv X (pins ++ pinsAt [C] s4.heap) σ H4 s4 := (I4 s4.heap (.refl ..)).pinned (fun b hb => by rw [List.mem_singleton.mp hb]; exact fC) fun b hb => by
   rw [List.mem_singleton.mp hb]
   exact ⟨oC, hoC, fun v z => by rw [hdC] at z; cases z⟩
 refine thn (pg_name hN hi' hx hf _ s4 σ H4 (.ref Dl) (.ref Dl) D.nx I4' rfl q) fun _ s5 ⟨σ5, H5, I5, q5⟩ => ?_
 obtain ⟨e5, n5, _⟩ := I5.pin (C, oC) (List.mem_append_right _ (List.mem_append_right _ (mem_pinsAt (List.mem_singleton.mpr rfl) hoC)))
 refine ⟨m, ⟨oC, es, ep, e5, hdC, rC⟩, fun h' sb => ⟨σ5, H5, ?_, q5⟩⟩
 obtain ⟨_, f1, _, f3, f4, f5⟩ := fC
 exact I5.unpinned.turned (t' := s5.toks) (it := C) (fun b o hb e => (sb.2 b hb).trans e) n5 f1 f3 f4 f5
end
end L2
namespace L2
open PySem PySem.Spec PyProof.Rows L3
section
variable {X : Cx}
end
theorem sl_tupC {X : Cx} {scope : Scope} {cl : List (Str × Addr)} {C : Addr} {s2 : Shared} {H2 : Hp} {fp : List Addr} {N' : List Str} {xe : Value → Shared → Prop} : SlR (X.inC scope cl C s2 H2 fp N' xe) (rSlT X.K) := sl_tup (X := X.inC scope cl C s2 H2 fp N' xe)
theorem op_neIC {X : Cx} {scope : Scope} {cl : List (Str × Addr)} {C : Addr} {s2 : Shared} {H2 : Hp} {fp : List Addr} {N' : List Str} {xe : Value → Shared → Prop} {cm : Bool} {k : Nat} (hr : Room cm k X.A) :
   OpR (X.inC scope cl C s2 H2 fp N' xe) (compareOp .NotEq) (fun x y H Q => ∃ (a b : Addr) (ns ms : List Int), x = .ref a ∧ y = .ref b ∧ SqT X.K H a (ns.map V.int) ∧ SqT X.K H b (ms.map V.int) ∧ Q (.bl (!decide (ns = ms))) H) := op_neI (X := X.inC scope cl C s2 H2 fp N' xe) hr
end L2
namespace L2
open PySem PySem.Spec PyProof.Rows L3
def ItE (K : PySem.W.Frag) (a : Addr) : It :=
 ⟨fun i H => ∃ xs x, SqL K H a xs ∧ xs[i]? = some x, fun i H x H' => ∃ t y, x = .ref t ∧ H t = none ∧ H' = upd H t (.tup [.int (i : Int), y]) ∧ ∀ xs, SqL K H a xs → xs[i]? = some y, fun i H => ∃ xs, SqL K H a xs ∧ xs.length ≤ i⟩
theorem turn_enum {P : Program} {w : World} {K : PySem.W.Frag} {elts : List Expr} {x1} {pos : Pos} (a e it : Addr) (hne : e ≠ it) : Turn P w K (.Tuple elts x1 pos) (ItE K a) [e, it] e (fun i h => ∃ old, IsEnum h e it (i : Int) old ∧ h.IsListIter it a i) where
 mem := by simp
 obj := fun i h st b hb => by
   obtain ⟨old, he, o, ho, hc, hd⟩ := st
   rcases List.mem_cons.mp hb with z | z
   · subst z
     exact ⟨_, he, fun v z => by
       have z' : Data.fields _ = Data.cell v := z
       cases z'⟩
   · rw [List.mem_singleton.mp z]
     exact ⟨o, ho, fun v z => by rw [hd] at z; cases z⟩
 keep := fun i h h' st k => by
   obtain ⟨old, he, hi⟩ := st
   exact ⟨old, k e (by simp) _ he, hi.at fun o q => k it (by simp) o q⟩
 item := by
   intro X hP hw hK hc i pins s σ H E I hf st hg
   subst hP hw hK
   obtain ⟨xs, x, hq, hx⟩ := hg
   obtain ⟨its, rv, p, hz⟩ := I.list hq
   obtain ⟨u, hu, ru⟩ := rv.get hx
   obtain ⟨old, he, hi⟩ := st
   obtain ⟨f0, f1, f2, f3, f4, f5⟩ := hf it (by simp)
   obtain ⟨g0, g1, g2, g3, g4, g5⟩ := hf e (by simp)
   refine wpAny_pyNext_enum_item he hi p.isList (x := u) (by simpa using hu) hne fun h1 heo hit1 ht1 hz1 hk1 => ?_
   refine ⟨_, rfl, wpAny_letOwnedTupleGo_enum heo fun h2 he2 hs2 => ?_⟩
   replace hs2 : Heap.SameBut e h1 h2 := hs2
   have hit2 : h2.IsListIter it a (i + 1) := hit1.at fun o q => (hs2.2 it (Ne.symm hne)).trans q
   obtain ⟨oi, hoi, _, _⟩ := id hi
   obtain ⟨oi2, hoi2, hic2, hid2⟩ := id hit2
   have le : e < s.heap.objs.size := Heap.lt_size he
   have li : it < s.heap.objs.size := Heap.lt_size hoi
   have gA : (s.heap.update it (fun _ => oi2)).get? it = some oi2 := Heap.get?_update_self (fun _ => oi2) hoi (Obj.isFreed_of_fields hid2)
   have oA : ∀ b, b ≠ it → (s.heap.update it (fun _ => oi2)).get? b = s.heap.get? b := fun b hb => Heap.get?_update_other _ _ (Ne.symm hb)
   have IA : Inv X pins σ H { s with heap := s.heap.update it (fun _ => oi2), toks := s.toks } := I.turned (t' := s.toks) (it := it) (fun b o hb q => (oA b hb).trans q) f0 f1 f3 f4 f5
   generalize hA : s.heap.update it (fun _ => oi2) = HA at gA oA IA
   have zA : HA.objs.size = s.heap.objs.size := by rw [← hA]; exact Heap.size_after_update ..
   obtain ⟨oe2, hoe2⟩ : ∃ o, h2.get? e = some o := ⟨_, he2⟩
   have hfe : oe2.isFreed = false := by
     have : oe2 = _ := Option.some.inj (hoe2.symm.trans he2)
     rw [this]
     exact Obj.isFreed_of_fields rfl
   have gB : (HA.update e (fun _ => oe2)).get? e = some oe2 := Heap.get?_update_self (fun _ => oe2) ((oA e hne).trans he) hfe
   have oB : ∀ b, b ≠ e → (HA.update e (fun _ => oe2)).get? b = HA.get? b := fun b hb => Heap.get?_update_other _ _ (Ne.symm hb)
   have IB := IA.turned (t' := s.toks) (it := e) (h' := HA.update e (fun _ => oe2)) (fun b o hb q => (oB b hb).trans q) g0 g1 g3 g4 g5
   have zB : (HA.update e (fun _ => oe2)).objs.size = s.heap.objs.size := by rw [← zA]; exact Heap.size_after_update ..
   generalize HA.update e (fun _ => oe2) = HB at gB oB IB zB
   have kB : ∀ b o, HB.get? b = some o → h2.get? b = some o := fun b o q => by
     by_cases be : b = e
     · subst be
       rw [gB] at q
       cases q
       exact hoe2
     · rw [oB b be] at q
       by_cases bi : b = it
       · subst bi
         rw [gA] at q
         cases q
         exact hoi2
       · rw [oA b bi] at q
         exact (hs2.2 b be).trans (hk1 b o be bi q)
   have hT : h2.get? s.heap.objs.size = some { cls := .type "tuple", data := .seq #[.int i s.toks, u] } := (hs2.2 _ (Nat.ne_of_gt le)).trans ht1
   have IC := IB.laid (a := s.heap.objs.size) (o := .tup [.int (i : Int), x]) (t' := s.toks + 1) (h' := h2) kB (Nat.le_of_eq zB) ⟨(by show 2 ≤ sizeLine; decide), [.int i s.toks, u], .cons ⟨s.toks, rfl⟩ (.cons ru .nil), ⟨_, hT, rfl, _, rfl⟩⟩
   refine ⟨.ref s.heap.objs.size, _, IC, rfl, ⟨_, x, rfl, I.hok.fresh (Nat.le_refl _), rfl, fun ys hy => by rw [I.list_inj hy hq]; exact hx⟩, ⟨_, he2, hit2⟩, fun b hb => ?_⟩
   have bl : b < s.heap.objs.size := by
     rcases List.mem_cons.mp hb with z | z
     · rw [z]; exact le
     · rw [List.mem_singleton.mp z]; exact li
   rw [upd_ne (Nat.ne_of_lt bl)]
   exact (hf b hb).1
 done := by
   intro X hP hw hK hc i pins s σ H E I hf st hg
   subst hP hw hK
   obtain ⟨xs, hq, hx⟩ := hg
   obtain ⟨its, rv, p, hz⟩ := I.list hq
   obtain ⟨old, he, hi⟩ := st
   obtain ⟨f0, f1, f2, f3, f4, f5⟩ := hf it (by simp)
   have hl := rv.length
   exact wpAny_pyNext_enum_end (I.ok.hd hc) he hi p.isList (by simp; omega) fun h' eb => ⟨rfl, I.turned (t' := s.toks) (fun b o hb e => eb b o hb e) f0 f1 f3 f4 f5⟩
 self := fun _ _ _ _ _ st h => by
   obtain ⟨old, he, hi⟩ := st
   exact wpAny_pyIter_enum he h
section
variable {X : Cx}
def iEnum (K : PySem.W.Frag) (ta : TA) : TI := fun σ H R => ta σ H fun vs H1 => ∃ a, vs = [.ref a] ∧ (∃ xs, SqL K H1 a xs) ∧ R (ItE K a) H1
theorem pi_enum {l : Expr} {elts : List Expr} {x1} {tp : Pos} {ta : TA} {p pos : Pos} (hg : Gl X "enumerate") (hm : X.mg "enumerate" = none) (ha : PA X [l] ta) (hs : starEach [l] X.env = [(false, eval l X.env)] := by rfl) :
   PI X (.Tuple elts x1 tp) (.Call (.Name "enumerate" p) [l] [] pos) (iEnum X.K ta) := by
 intro pins s σ H R I h
 refine Call_ (ld_blt I hg hm boot_enumerate (PyProof.Rows.callWith_type1 (thn (ha pos pins s σ H _ I h) fun us s1 ⟨vs, H1, I1, r1, q1⟩ => ?_) hs rfl))
 obtain ⟨a, e, ⟨xs, hq⟩, q⟩ := q1
 subst e
 cases r1 with
 | cons r rr =>
   cases rr
   cases r
   obtain ⟨its, rv, p, hz⟩ := I1.list hq
   refine call_enumerate_list p.isList fun h' he hit hsz hk => ?_
   refine wpAny_pyIter_enum he ?_
   refine ⟨s1.heap.objs.size + 1, [s1.heap.objs.size + 1, s1.heap.objs.size], _, _, H1, rfl, I1.kept (t' := s1.toks) hk, turn_enum a _ _ (Nat.succ_ne_self _), ⟨.none, he, hit⟩, fun b hb => ?_, q⟩
   rcases List.mem_cons.mp hb with z | z
   · rw [z]
     exact I1.fpOk (Nat.le_succ _) (I1.hok.fresh (Nat.le_succ _))
   · rw [List.mem_singleton.mp z]
     exact I1.fpOk (Nat.le_refl _) (I1.hok.fresh (Nat.le_refl _))
theorem for_enum {K : PySem.W.Frag} {a : Addr} {xs : List V} {g : TG} {tb : TS} {D : Ends} {σ : St} {H : Hp} (Pv : Nat → St → Hp → Prop) (h0 : Pv 0 σ H) (hl : ∀ i σ H, i ≤ xs.length → Pv i σ H → SqL K H a xs)
   (hs : ∀ i x σ H t, xs[i]? = some x → Pv i σ H → H t = none → g (.ref t) σ (upd H t (.tup [.int (i : Int), x])) fun σ2 H2 => tb { D with nx := Pv (i + 1), ct := Pv (i + 1), bk := D.nx } σ2 H2) (hd : ∀ σ H, Pv xs.length σ H → D.nx σ H) :
   ∃ W : Nat → Nat → St → Hp → Prop, (∃ m, W 0 m σ H) ∧ ∀ i m σ H, W i m σ H →
     ((ItE K a).stop i H ∧ D.nx σ H) ∨ ((ItE K a).go i H ∧ ∃ N : St → Hp → Prop, (∀ σ' H', N σ' H' → ∃ m', m' < m ∧ W (i + 1) m' σ' H') ∧ ∀ x H', (ItE K a).yld i H x H' → g x σ H' fun σ2 H2 => tb { D with nx := N, ct := N, bk := D.nx } σ2 H2) := by
 refine ⟨fun i m σ H => m = xs.length - i ∧ i ≤ xs.length ∧ Pv i σ H, ⟨xs.length, by simp, Nat.zero_le _, h0⟩, ?_⟩
 rintro i m σ H ⟨rfl, hi, p⟩
 have q := hl i σ H hi p
 by_cases hlt : i < xs.length
 · refine .inr ⟨⟨xs, xs[i], q, by simp [hlt]⟩, Pv (i + 1), fun σ' H' p' => ⟨xs.length - (i + 1), by omega, rfl, hlt, p'⟩, fun x H' y => ?_⟩
   obtain ⟨t, y, rfl, ht, rfl, hy⟩ := y
   exact hs i y σ H t (hy xs q) p ht
 · have e : i = xs.length := by omega
   subst e
   exact .inl ⟨⟨xs, q, Nat.le_refl _⟩, hd σ H p⟩
def eqP (K : PySem.W.Frag) (H : Hp) (x y : V) : Prop := ∃ a b xs, x = .ref a ∧ y = .ref b ∧ SqL K H a xs ∧ SqL K H b xs ∧ ∀ z ∈ xs, eqPl z = true
theorem Inv.eqP {pins : List (Addr × Obj)} {σ : St} {H : Hp} {s : Shared} {x y : V} {v u : Value} {A : Around} (I : Inv X pins σ H s) (hu : A.units < cLine) (e : eqP X.K H x y) (rx : RelV x v) (ry : RelV y u) : SeqAt.EqAt A s v u true := by
 obtain ⟨a, b, xs, rfl, rfl, ha, hb, hp⟩ := e
 cases rx
 cases ry
 by_cases hab : a = b
 · subst hab
   exact SeqAt.EqAt.same _
 obtain ⟨its, r, pl, hz⟩ := I.list ha
 obtain ⟨its2, r2, pl2, hz2⟩ := I.list hb
 have l1 := r.length
 have l2 := r2.length
 have h := SeqAt.RcAt.lists (A := A) (e := fun _ => true) pl.isList pl2.isList (by simp only [List.size_toArray]; omega) hu (fun j h1 h2 => by
   simp only [List.size_toArray] at h1 h2
   obtain ⟨x, e, rx⟩ := vals_at r j h1
   obtain ⟨x2, e2, rx2⟩ := vals_at r2 j h2
   rw [e] at e2
   cases e2
   simp only [List.getElem_toArray]
   exact eqAt_self (hp x (List.mem_of_getElem? e)) rx rx2)
 rw [show ((List.range its.toArray.size).all fun _ => true) = true by simp] at h
 exact SeqAt.EqAt.of_refs hab h
end
end L2
namespace PySem.W
open PySem
section
variable {prog : Program} {w : World} {A : Around} {E : Value → Shared → Prop} {s : Shared}
theorem next_tup {it t : Addr} {i : Nat} {its : Array Value} {x : Value} {Q : Value → Shared → Prop} (hit : s.heap.IsTupleIter it t i) (ht : s.heap.IsTuple t its) (hx : its[i]? = some x)
   (hQ : ∀ h', h'.IsTupleIter it t (i + 1) → Heap.SameBut it s.heap h' → Q x { s with heap := h' }) : wpAny (model prog w) A (Builtin.SmallTypes.nextOf (.ref it)) Q E s := by
 obtain ⟨oi, hoi, hci, hdi⟩ := id hit
 obtain ⟨ot, hot, _, nt, hdt⟩ := ht
 have g : ∀ (Q' : Value → Shared → Prop), (∀ h', h'.IsTupleIter it t (i + 1) → Heap.SameBut it s.heap h' → Q' x { s with heap := h' }) → wpAny (model prog w) A.in1 (Builtin.«tuple_iterator.__next__» ⟨[.ref it], []⟩) (fun fin s' => ∃ v, fin = .done (.ret v) ∧ Q' v s') E s := fun Q' hQ' => by
   show wpAny _ _ (field (.ref it) 0 >>= _) _ _ s
   refine wpAny_bind (wpAny_field hoi hdi (x := .ref t) rfl ?_)
   show wpAny _ _ (if (Value.ref t == Value.none) = true then _ else _) _ _ s
   rw [if_neg (by simp)]
   show wpAny _ _ (field (.ref it) 1 >>= _) _ _ s
   refine wpAny_bind (wpAny_field hoi hdi (x := .int i 0) rfl ?_)
   show wpAny _ _ (seqItems? (.ref t) >>= _) _ _ s
   refine wpAny_bind (wpAny_seqItems hot hdt ?_)
   simp only [Int.toNat_natCast, hx]
   refine wpAny_bind (wpAny_setField hoi hdi (by simp) (wpAny_pure ⟨x, rfl, hQ' _ ?_ (Heap.SameBut.update ..)⟩))
   refine ⟨_, Heap.get?_update_self _ hoi (Obj.isFreed_of_fields (Obj.data_mapFields hdi _)), (Obj.cls_mapFields ..).trans hci, ?_⟩
   rw [Obj.data_mapFields hdi]
   simp [rawInt]
 unfold Builtin.SmallTypes.nextOf
 exact wpAny_bind (wpAny_callSpecial?_slot (name := Str.ofString "__next__") hit.typeIs F.slot_tuple_iterator_next (wpAny_call_entry F.slot_tuple_iterator_next hit.typeIs F.entry_tuple_iterator_next (g _ fun h' a b => wpAny_pure (hQ h' a b)) (F.args_tuple_iterator_next_1 _)))
theorem next_tup_end {it t : Addr} {i : Nat} {its : Array Value} {Q : Value → Shared → Prop} (hh : A.handled = none) (hit : s.heap.IsTupleIter it t i) (ht : s.heap.IsTuple t its) (hx : its[i]? = none)
   (hE : ∀ h' e, Heap.ExtBut it s.heap h' → (∃ o, h'.get? e = some o ∧ o.cls = .type "StopIteration") → E (.ref e) { s with heap := h' }) : wpAny (model prog w) A (Builtin.SmallTypes.nextOf (.ref it)) Q E s := by
 obtain ⟨oi, hoi, hci, hdi⟩ := id hit
 obtain ⟨ot, hot, _, nt, hdt⟩ := ht
 unfold Builtin.SmallTypes.nextOf
 refine wpAny_bind (wpAny_callSpecial?_slot (name := Str.ofString "__next__") hit.typeIs F.slot_tuple_iterator_next (wpAny_call_entry F.slot_tuple_iterator_next hit.typeIs F.entry_tuple_iterator_next ?_ (F.args_tuple_iterator_next_1 _)))
 show wpAny _ _ (field (.ref it) 0 >>= _) _ _ s
 refine wpAny_bind (wpAny_field hoi hdi (x := .ref t) rfl ?_)
 show wpAny _ _ (if (Value.ref t == Value.none) = true then _ else _) _ _ s
 rw [if_neg (by simp)]
 show wpAny _ _ (field (.ref it) 1 >>= _) _ _ s
 refine wpAny_bind (wpAny_field hoi hdi (x := .int i 0) rfl ?_)
 show wpAny _ _ (seqItems? (.ref t) >>= _) _ _ s
 refine wpAny_bind (wpAny_seqItems hot hdt ?_)
 simp only [Int.toNat_natCast, hx]
 refine wpAny_bind (wpAny_rule (wpAny_bind (wpAny_setField hoi hdi (by simp) ?_)))
 show wpAny _ _ (newExc (.type "StopIteration") [] >>= _) _ _ _
 refine wpAny_bind ?_
 simp only [newExc, newTuple]
 refine wpAny_bind (wpAny_newObj_type ?_ (by size_fits))
 refine wpAny_bind (m := firstArgMember _ _) (wpAny_of_eq (a := Value.none) (by first | rfl | (simp only [firstArgMember]; rfl)) ?_)
 refine wpAny_newObj_type ?_ (by size_fits)
 simp only [raiseNew]
 refine wpAny_bind (wpAny_handled ?_)
 first | rw [show A.in1.handled = none from hh] | rw [hh]
 exact wpAny_bind (wpAny_pure (wpAny_throw (hE _ _ (((Heap.SameBut.update ..).extBut.push _).push _) ⟨_, Heap.get?_push_size _ rfl, rfl⟩)))
end
theorem drawsTup {prog : Program} {w : World} {A : Around} (hh : A.handled = none) (it l : Addr) (hne : l ≠ it) (its : Array Value) :
   Draws prog w A it [it, l] its.size (fun i v => its[i]? = some v) (fun i h => h.IsTupleIter it l i ∧ h.IsTuple l its) where
 live := fun _ _ st => let ⟨o, ho, _⟩ := st.1; ⟨o, ho⟩
 frame := fun _ _ _ st hk => by
   obtain ⟨⟨o, ho, r⟩, o2, ho2, r2⟩ := st
   exact ⟨⟨o, hk it (by simp) o ho, r⟩, o2, hk l (by simp) o2 ho2, r2⟩
 item := fun i s Q E hi st hQ => by
   refine next_tup st.1 st.2 (x := its[i]) (by simp [hi]) fun h' hit' hs' => ?_
   exact hQ _ h' s.toks (by simp [hi]) ⟨hit', st.2.extBut hs'.extBut hne⟩ hs'
 done := fun s Q E st hE => next_tup_end hh st.1 st.2 (by simp) hE
theorem new_enumT (l : Addr) (its : Array Value) (n : Nat) (dct : Option Addr) (sl : Array (Option Value)) :
   Meets (Builtin.«enumerate.__new__» ⟨[.type "enumerate", .ref l], []⟩) (fun _ R s => s.heap.get? l = some { cls := .type "tuple", dict := dct, data := .seq its n, slots := sl } ∧
     R (.ok (.ret (.ref (s.heap.push { cls := .type "tuple_iterator", data := .fields #[.ref l, .int 0 0] }).objs.size)))
       { s with heap := (s.heap.push { cls := .type "tuple_iterator", data := .fields #[.ref l, .int 0 0] }).push { cls := .type "enumerate", data := .fields #[.none, .bool false, .ref s.heap.objs.size, rawInt 0, .none, .none] } }) :=
 .of_wp fun prog w A R s h => by
   obtain ⟨hp, g, d, tk, os⟩ := s
   obtain ⟨hl, h⟩ := h
   have hsub := sub_enumerate
   have hL : Heap.IsTuple (Shared.heap ⟨hp, g, d, tk, os⟩) l its := ⟨_, hl, rfl, n, rfl⟩
   wp_walk using AutoSeq1.wpAny_loadPart' hl
   refine wpAny_stack_any fun st => wpAny_pure ?_
   split
   · rename_i c _ _ _ _ _
     cases (c == Value.type "enumerate") <;> (wp_walk using AutoSeq1.wpAny_loadPart' hl, wpAny_pyIter_tuple hL; exact ⟨_, rfl, h⟩)
   · wp_walk using AutoSeq1.wpAny_loadPart' hl, wpAny_pyIter_tuple hL
     exact ⟨_, rfl, h⟩
theorem call_enumT {prog : Program} {w : World} {A : Around} {E : Value → Shared → Prop} {s : Shared} {l : Addr} {its : Array Value} {Q : Value → Shared → Prop} (hL : s.heap.IsTuple l its)
   (h : ∀ h', IsEnum h' (s.heap.objs.size + 1) s.heap.objs.size 0 .none → h'.IsTupleIter s.heap.objs.size l 0 → h'.objs.size = s.heap.objs.size + 2 → (∀ b o, s.heap.get? b = some o → h'.get? b = some o) → Q (.ref (s.heap.objs.size + 1)) { s with heap := h' }) :
   wpAny (model prog w) A (call (.type "enumerate") [.ref l]) Q E s := by
 obtain ⟨⟨c, dct, dt, sl⟩, hl, hc, n, hd⟩ := hL
 replace hc : c = .type "tuple" := hc
 replace hd : dt = .seq its n := hd
 subst hc hd
 refine callType_new F.called_enumerate (by decide) (F.typeCall_enumerate_1 _) (F.newCall_enumerate_1 _) (fun obj => F.args_object_init_2 obj _) F.entry_enumerate_new (new_enumT l its n dct sl) ⟨hl, ?_⟩
 have hz : (s.heap.push { cls := .type "tuple_iterator", data := .fields #[.ref l, .int 0 0] }).objs.size = s.heap.objs.size + 1 := Heap.size_push ..
 show _ ∧ _
 rw [hz]
 have he : IsEnum ((s.heap.push { cls := .type "tuple_iterator", data := .fields #[.ref l, .int 0 0] }).push { cls := .type "enumerate", data := .fields #[.none, .bool false, .ref s.heap.objs.size, rawInt 0, .none, .none] }) (s.heap.objs.size + 1) s.heap.objs.size 0 .none := by
   have := Heap.get?_push_size (s.heap.push { cls := .type "tuple_iterator", data := .fields #[.ref l, .int 0 0] }) (o := { cls := .type "enumerate", data := .fields #[.none, .bool false, .ref s.heap.objs.size, rawInt 0, .none, .none] }) rfl
   rw [hz] at this
   exact this
 exact ⟨⟨_, he, rfl⟩, h _ he ⟨_, Heap.get?_push_of_some _ (Heap.get?_push_size _ rfl), rfl, rfl⟩ (by rw [Heap.size_push, hz]) fun b o x => Heap.get?_push_of_some _ (Heap.get?_push_of_some _ x)⟩
end PySem.W
namespace L2
open PySem PySem.W PySem.Spec PyProof.Rows L3
def ItU (K : PySem.W.Frag) (a : Addr) : It :=
 ⟨fun i H => ∃ xs x, SqT K H a xs ∧ xs[i]? = some x, fun i H x H' => ∃ t y, x = .ref t ∧ H t = none ∧ H' = upd H t (.tup [.int (i : Int), y]) ∧ ∀ xs, SqT K H a xs → xs[i]? = some y, fun i H => ∃ xs, SqT K H a xs ∧ xs.length ≤ i⟩
theorem turn_enumT {P : Program} {w : World} {K : PySem.W.Frag} {elts : List Expr} {x1} {pos : Pos} (a e it : Addr) (hne : e ≠ it) : Turn P w K (.Tuple elts x1 pos) (ItU K a) [e, it] e (fun i h => ∃ old, IsEnum h e it (i : Int) old ∧ h.IsTupleIter it a i) where
 mem := by simp
 obj := fun i h st b hb => by
   obtain ⟨old, he, o, ho, hc, hd⟩ := st
   rcases List.mem_cons.mp hb with z | z
   · subst z
     exact ⟨_, he, fun v z => by
       have z' : Data.fields _ = Data.cell v := z
       cases z'⟩
   · rw [List.mem_singleton.mp z]
     exact ⟨o, ho, fun v z => by rw [hd] at z; cases z⟩
 keep := fun i h h' st k => by
   obtain ⟨old, he, o, ho, r⟩ := st
   exact ⟨old, k e (by simp) _ he, o, k it (by simp) o ho, r⟩
 item := by
   intro X hP hw hK hc i pins s σ H E I hf st hg
   subst hP hw hK
   obtain ⟨xs, x, hq, hx⟩ := hg
   obtain ⟨its, rv, p, hz⟩ := I.tuple hq
   obtain ⟨u, hu, ru⟩ := rv.get hx
   obtain ⟨old, he, hi⟩ := st
   obtain ⟨f0, f1, f2, f3, f4, f5⟩ := hf it (by simp)
   obtain ⟨g0, g1, g2, g3, g4, g5⟩ := hf e (by simp)
   obtain ⟨oi, hoi, _, _⟩ := id hi
   obtain ⟨ol, hol, _⟩ := (show s.heap.IsTuple a its.toArray from p)
   have le : e < s.heap.objs.size := Heap.lt_size he
   have li : it < s.heap.objs.size := Heap.lt_size hoi
   have nai : a ≠ it := fun z => by
     obtain ⟨o2, ho2, hc2, hd2⟩ := id hi
     obtain ⟨o3, ho3, hc3, _⟩ := (show s.heap.IsTuple a its.toArray from p)
     rw [z, ho2] at ho3
     cases ho3
     rw [hc2] at hc3
     exact absurd hc3 (by decide)
   have nae : a ≠ e := fun z => by
     obtain ⟨o3, ho3, hc3, _⟩ := (show s.heap.IsTuple a its.toArray from p)
     rw [z, he] at ho3
     cases ho3
     have hc4 : Value.type "enumerate" = Value.type "tuple" := hc3
     exact absurd hc4 (by decide)
   have hlt : i < its.toArray.size := by
     have := (List.getElem?_eq_some_iff.mp hu).1
     simpa using this
   refine wpAny_pyNext_enum_itemD (drawsTup (A := X.A.in1) (I.ok.hd hc) it a nai its.toArray) he ⟨hi, p⟩ hlt hne (by simp [hne, Ne.symm nae]) fun x' h1 tk hP ho1 hs1 ht1 hz1 hk1 => ?_
   have hxx : x' = u := by
     have a1 : its.toArray[i]? = some u := by simpa using hu
     rw [a1] at hP
     exact (Option.some.inj hP).symm
   subst hxx
   refine ⟨_, rfl, wpAny_letOwnedTupleGo_enum ho1 fun h2 he2 hs2 => ?_⟩
   replace hs2 : Heap.SameBut e h1 h2 := hs2
   have hit2 : h2.IsTupleIter it a (i + 1) := by
     obtain ⟨o, ho, r⟩ := hs1.1
     exact ⟨o, (hs2.2 it (Ne.symm hne)).trans ho, r⟩
   obtain ⟨oi2, hoi2, hic2, hid2⟩ := id hit2
   have gA : (s.heap.update it (fun _ => oi2)).get? it = some oi2 := Heap.get?_update_self (fun _ => oi2) hoi (Obj.isFreed_of_fields hid2)
   have oA : ∀ b, b ≠ it → (s.heap.update it (fun _ => oi2)).get? b = s.heap.get? b := fun b hb => Heap.get?_update_other _ _ (Ne.symm hb)
   have IA : Inv X pins σ H { s with heap := s.heap.update it (fun _ => oi2), toks := s.toks } := I.turned (t' := s.toks) (it := it) (fun b o hb q => (oA b hb).trans q) f0 f1 f3 f4 f5
   generalize hA : s.heap.update it (fun _ => oi2) = HA at gA oA IA
   have zA : HA.objs.size = s.heap.objs.size := by rw [← hA]; exact Heap.size_after_update ..
   obtain ⟨oe2, hoe2⟩ : ∃ o, h2.get? e = some o := ⟨_, he2⟩
   have hfe : oe2.isFreed = false := by
     have : oe2 = _ := Option.some.inj (hoe2.symm.trans he2)
     rw [this]
     exact Obj.isFreed_of_fields rfl
   have gB : (HA.update e (fun _ => oe2)).get? e = some oe2 := Heap.get?_update_self (fun _ => oe2) ((oA e hne).trans he) hfe
   have oB : ∀ b, b ≠ e → (HA.update e (fun _ => oe2)).get? b = HA.get? b := fun b hb => Heap.get?_update_other _ _ (Ne.symm hb)
   have IB := IA.turned (t' := s.toks) (it := e) (h' := HA.update e (fun _ => oe2)) (fun b o hb q => (oB b hb).trans q) g0 g1 g3 g4 g5
   have zB : (HA.update e (fun _ => oe2)).objs.size = s.heap.objs.size := by rw [← zA]; exact Heap.size_after_update ..
   generalize HA.update e (fun _ => oe2) = HB at gB oB IB zB
   have kB : ∀ b o, HB.get? b = some o → h2.get? b = some o := fun b o q => by
     by_cases be : b = e
     · subst be
       rw [gB] at q
       cases q
       exact hoe2
     · rw [oB b be] at q
       by_cases bi : b = it
       · subst bi
         rw [gA] at q
         cases q
         exact hoi2
       · rw [oA b bi] at q
         exact (hs2.2 b be).trans (hk1 b o be bi q)
   have hT : h2.get? s.heap.objs.size = some { cls := .type "tuple", data := .seq #[.int i tk, x'] } := (hs2.2 _ (Nat.ne_of_gt le)).trans ht1
   have IC := IB.laid (a := s.heap.objs.size) (o := .tup [.int (i : Int), x]) (t' := tk + 1) (h' := h2) kB (Nat.le_of_eq zB) ⟨(by show 2 ≤ sizeLine; decide), [.int i tk, x'], .cons ⟨tk, rfl⟩ (.cons ru .nil), ⟨_, hT, rfl, _, rfl⟩⟩
   refine ⟨.ref s.heap.objs.size, _, IC, rfl, ⟨_, x, rfl, I.hok.fresh (Nat.le_refl _), rfl, fun ys hy => by rw [I.tuple_inj hy hq]; exact hx⟩, ⟨_, he2, hit2⟩, fun b hb => ?_⟩
   have bl : b < s.heap.objs.size := by
     rcases List.mem_cons.mp hb with z | z
     · rw [z]; exact le
     · rw [List.mem_singleton.mp z]; exact li
   rw [upd_ne (Nat.ne_of_lt bl)]
   exact (hf b hb).1
 done := by
   intro X hP hw hK hc i pins s σ H E I hf st hg
   subst hP hw hK
   obtain ⟨xs, hq, hx⟩ := hg
   obtain ⟨its, rv, p, hz⟩ := I.tuple hq
   obtain ⟨old, he, hi⟩ := st
   obtain ⟨f0, f1, f2, f3, f4, f5⟩ := hf it (by simp)
   have hl := rv.length
   have ni : its.toArray[i]? = none := by simp; omega
   have T : s.heap.IsTuple a its.toArray := p
   have hT : s.TypeIs (.ref e) "enumerate" := ⟨_, he, rfl⟩
   refine wpAny_mono (Q := fun r s1 => r = none ∧ ∃ h', s1 = { s with heap := h' } ∧ Heap.ExtBut it s.heap h') ?_ (fun r s1 hq => ?_) fun _ _ z => z
   · unfold pyNext
     refine wpAny_bind (wpAny_attempt (wpAny_callSpecial?_slot (name := Str.ofString "__next__") hT F.slot_enumerate_next (wpAny_call_entry F.slot_enumerate_next hT F.entry_enumerate_next ?_ (F.args_enumerate_next_1 _))))
     show wpAny _ _ (field (.ref e) 2 >>= _) _ _ _
     refine wpAny_bind (wpAny_field he rfl (x := .ref it) rfl ?_)
     refine wpAny_bind (next_tup_end (A := X.A.in1) (I.ok.hd hc) hi T ni fun h' x hb hx' => ?_)
     obtain ⟨o, ho, hcs⟩ := hx'
     refine wpAny_bind (wpAny_isInstance (T := "StopIteration") (b := true) ⟨o, ho, hcs⟩ isSubtype_stop ?_)
     exact wpAny_pure ⟨rfl, h', rfl, hb⟩
   · obtain ⟨rfl, h', rfl, eb⟩ := hq
     exact ⟨rfl, I.turned (t' := s.toks) (fun b o hb e => eb b o hb e) f0 f1 f3 f4 f5⟩
 self := fun _ _ _ _ _ st h => by
   obtain ⟨old, he, hi⟩ := st
   exact wpAny_pyIter_enum he h
section
variable {X : Cx}
def iEnumT (K : PySem.W.Frag) (ta : TA) : TI := fun σ H R => ta σ H fun vs H1 => ∃ a, vs = [.ref a] ∧ (∃ xs, SqT K H1 a xs) ∧ R (ItU K a) H1
theorem pi_enumT {l : Expr} {elts : List Expr} {x1} {tp : Pos} {ta : TA} {p pos : Pos} (hg : Gl X "enumerate") (hm : X.mg "enumerate" = none) (ha : PA X [l] ta) (hs : starEach [l] X.env = [(false, eval l X.env)] := by rfl) :
   PI X (.Tuple elts x1 tp) (.Call (.Name "enumerate" p) [l] [] pos) (iEnumT X.K ta) := by
 intro pins s σ H R I h
 refine Call_ (ld_blt I hg hm boot_enumerate (PyProof.Rows.callWith_type1 (thn (ha pos pins s σ H _ I h) fun us s1 ⟨vs, H1, I1, r1, q1⟩ => ?_) hs rfl))
 obtain ⟨a, e, ⟨xs, hq⟩, q⟩ := q1
 subst e
 cases r1 with
 | cons r rr =>
   cases rr
   cases r
   obtain ⟨its, rv, p, hz⟩ := I1.tuple hq
   refine call_enumT (show s1.heap.IsTuple a its.toArray from p) fun h' he hit hsz hk => ?_
   refine wpAny_pyIter_enum he ?_
   refine ⟨s1.heap.objs.size + 1, [s1.heap.objs.size + 1, s1.heap.objs.size], _, _, H1, rfl, I1.kept (t' := s1.toks) hk, turn_enumT a _ _ (Nat.succ_ne_self _), ⟨.none, he, hit⟩, fun b hb => ?_, q⟩
   rcases List.mem_cons.mp hb with z | z
   · rw [z]
     exact I1.fpOk (Nat.le_succ _) (I1.hok.fresh (Nat.le_succ _))
   · rw [List.mem_singleton.mp z]
     exact I1.fpOk (Nat.le_refl _) (I1.hok.fresh (Nat.le_refl _))
theorem for_enumT {K : PySem.W.Frag} {a : Addr} {xs : List V} {g : TG} {tb : TS} {D : Ends} {σ : St} {H : Hp} (Pv : Nat → St → Hp → Prop) (h0 : Pv 0 σ H) (hl : ∀ i σ H, i ≤ xs.length → Pv i σ H → SqT K H a xs)
   (hs : ∀ i x σ H t, xs[i]? = some x → Pv i σ H → H t = none → g (.ref t) σ (upd H t (.tup [.int (i : Int), x])) fun σ2 H2 => tb { D with nx := Pv (i + 1), ct := Pv (i + 1), bk := D.nx } σ2 H2) (hd : ∀ σ H, Pv xs.length σ H → D.nx σ H) :
   ∃ W : Nat → Nat → St → Hp → Prop, (∃ m, W 0 m σ H) ∧ ∀ i m σ H, W i m σ H →
     ((ItU K a).stop i H ∧ D.nx σ H) ∨ ((ItU K a).go i H ∧ ∃ N : St → Hp → Prop, (∀ σ' H', N σ' H' → ∃ m', m' < m ∧ W (i + 1) m' σ' H') ∧ ∀ x H', (ItU K a).yld i H x H' → g x σ H' fun σ2 H2 => tb { D with nx := N, ct := N, bk := D.nx } σ2 H2) := by
 refine ⟨fun i m σ H => m = xs.length - i ∧ i ≤ xs.length ∧ Pv i σ H, ⟨xs.length, by simp, Nat.zero_le _, h0⟩, ?_⟩
 rintro i m σ H ⟨rfl, hi, p⟩
 have q := hl i σ H hi p
 by_cases hlt : i < xs.length
 · refine .inr ⟨⟨xs, xs[i], q, by simp [hlt]⟩, Pv (i + 1), fun σ' H' p' => ⟨xs.length - (i + 1), by omega, rfl, hlt, p'⟩, fun x H' y => ?_⟩
   obtain ⟨t, y, rfl, ht, rfl, hy⟩ := y
   exact hs i y σ H t (hy xs q) p ht
 · have e : i = xs.length := by omega
   subst e
   exact .inl ⟨⟨xs, q, Nat.le_refl _⟩, hd σ H p⟩
end
end L2
namespace L2
open PySem PySem.W PySem.Spec PyProof.Rows L3
section
variable {X : Cx} {CX : CXT} {cm : Bool} {k : Nat} {f C : Addr} {fd : FuncData} {ps : List Str} {sp : Sp} {dvs : List V} {ds : List Value} {E : XK} {x m : Str} {p pos apos : Pos} {e : Expr} {es : List Expr} {t : TA} {mc : Value}
end
theorem pg_tup3T {X : Cx} {x1 x2 x3 : Str} {p1 p2 p3 pos : Pos} {k : Nat} {scope : Scope} {cl : List (Str × Addr)} {js : List Nat} (hc : X.calm = true) (L : LcOkT X [x1, x2, x3] scope cl js) :
   ∀ (C : Addr) (s2 : Shared) (H2 : Hp) (fp : List Addr) (xe : Value → Shared → Prop), PG (X.inC scope cl C s2 H2 fp ([x1, x2, x3] ++ js.map (fun j => X.N.getD j "")) xe) (.Tuple [.Name x1 p1, .Name x2 p2, .Name x3 p3] k pos) (gTup X.K 3 (gCons (gName 0) (gCons (gName 1) (gCons (gName 2) gNil)))) := fun C s2 H2 fp xe =>
 pg_tup (X := X.inC scope cl C s2 H2 fp ([x1, x2, x3] ++ js.map (fun j => X.N.getD j "")) xe) hc (pgs_cons (pg_nameT (i := 0) L rfl List.mem_cons_self) (pgs_cons (pg_nameT (i := 1) L rfl (List.mem_cons_of_mem _ List.mem_cons_self)) (pgs_cons (pg_nameT (i := 2) L rfl (List.mem_cons_of_mem _ (List.mem_cons_of_mem _ List.mem_cons_self))) pgs_nil)))
theorem call_list_ofC {X : Cx} {scope : Scope} {cl : List (Str × Addr)} {C : Addr} {s2 : Shared} {H2 : Hp} {fp : List Addr} {N' : List Str} {xe : Value → Shared → Prop} : CallR (X.inC scope cl C s2 H2 fp N' xe) (.type "list") (fun xs H Q => ∃ p ys, xs = [.ref p] ∧ (SqL X.K H p ys ∨ SqT X.K H p ys) ∧ ∀ l, H l = none → Q (.ref l) (upd H l (.lst ys))) := call_list_of (X := X.inC scope cl C s2 H2 fp N' xe)
end L2
namespace L2
open PySem PySem.W PySem.Spec PyProof.Rows L3
section
variable {X : Cx}
def eqLi (K : PySem.W.Frag) (H : Hp) (x y : V) : Prop := ∃ a b xs ys, x = .ref a ∧ y = .ref b ∧ SqL K H a xs ∧ SqL K H b ys ∧ EqLs K H xs ys
theorem Inv.eqLi {pins : List (Addr × Obj)} {σ : St} {H : Hp} {s : Shared} {x y : V} {v u : Value} {A : Around} (I : Inv X pins σ H s) (hu : A.units < cLine) (hu1 : A.in1.units < cLine) (e : eqLi X.K H x y) (rx : RelV x v) (ry : RelV y u) : SeqAt.EqAt A s v u true := by
 obtain ⟨a, b, xs, ys, rfl, rfl, ha, hb, hl, he⟩ := e
 cases rx
 cases ry
 by_cases hab : a = b
 · subst hab
   exact SeqAt.EqAt.same _
 obtain ⟨its, r, pl, hz⟩ := I.list ha
 obtain ⟨its2, r2, pl2, hz2⟩ := I.list hb
 have l1 := r.length
 have l2 := r2.length
 have h := SeqAt.RcAt.lists (A := A) (e := fun _ => true) pl.isList pl2.isList (by simp only [List.size_toArray]; omega) hu (fun j h1 h2 => by
   simp only [List.size_toArray] at h1 h2
   obtain ⟨x, e, rx⟩ := vals_at r j h1
   obtain ⟨x2, e2, rx2⟩ := vals_at r2 j h2
   simp only [List.getElem_toArray]
   exact I.eqT hu1 (he j x x2 e e2) rx rx2)
 rw [show ((List.range its.toArray.size).all fun _ => true) = true by simp] at h
 exact SeqAt.EqAt.of_refs hab h
end
end L2
namespace L2
open PySem PySem.W PySem.Spec PyProof.Rows L3
section
variable {X : Cx} {CX : CXT} {cm : Bool} {k : Nat} {E : XK} {m : Str} {pos apos : Pos} {o : Expr} {ta : TE}
end
end L2
namespace L2
open PySem PySem.W PySem.Spec PyProof.Rows L3
section
variable {X : Cx}
def eqTu (K : PySem.W.Frag) (H : Hp) (x y : V) : Prop := ∃ a b xs ys, x = .ref a ∧ y = .ref b ∧ SqT K H a xs ∧ SqT K H b ys ∧ xs.length = ys.length ∧ ∀ (j : Nat) x y, xs[j]? = some x → ys[j]? = some y → eqT K H x y ∨ eqLi K H x y
theorem Inv.eqTu {pins : List (Addr × Obj)} {σ : St} {H : Hp} {s : Shared} {x y : V} {v u : Value} {A : Around} (I : Inv X pins σ H s) (w0 : A.units < cLine) (w1 : A.in1.units < cLine) (w2 : A.in1.in1.units < cLine) (t : eqTu X.K H x y) (rx : RelV x v) (ry : RelV y u) : SeqAt.EqAt A s v u true := by
 obtain ⟨a, b, xs, ys, rfl, rfl, ha, hb, hl, he⟩ := t
 cases rx
 cases ry
 by_cases hab : a = b
 · subst hab
   exact SeqAt.EqAt.same _
 obtain ⟨i1, r1, p1, z1⟩ := I.tuple ha
 obtain ⟨i2, r2, p2, z2⟩ := I.tuple hb
 have n1 := r1.length
 have n2 := r2.length
 have h := SeqAt.RcAt.tuples (A := A) (e := fun _ => true) (show s.heap.IsTuple a i1.toArray from p1) (show s.heap.IsTuple b i2.toArray from p2) w0 (fun j h1 h2 => by
   simp only [List.size_toArray] at h1 h2
   obtain ⟨x, e, rx⟩ := vals_at r1 j h1
   obtain ⟨x2, e2, rx2⟩ := vals_at r2 j h2
   simp only [List.getElem_toArray]
   rcases he j x x2 e e2 with w | w
   · exact I.eqT w1 w rx rx2
   · exact I.eqLi w1 w2 w rx rx2)
 rw [show ((List.range (min i1.toArray.size i2.toArray.size)).all (fun _ => true) && i1.toArray.size == i2.toArray.size) = true by
   simp only [List.size_toArray]
   rw [← n1, ← n2, hl]
   simp] at h
 exact SeqAt.EqAt.of_refs hab h
theorem op_neV {cm : Bool} {k : Nat} (hr : Room cm k X.A) : OpR X (compareOp .NotEq) (fun x y H Q => ∃ a b xs ys, x = .ref a ∧ y = .ref b ∧ SqL X.K H a xs ∧ SqL X.K H b ys ∧ xs.length = ys.length ∧ (∀ (j : Nat) x y, xs[j]? = some x → ys[j]? = some y → eqTu X.K H x y) ∧ Q (.bl false) H) := by
 intro pins s σ H x y v u Q I rx ry h
 obtain ⟨a, b, xs, ys, rfl, rfl, ha, hb, hl, he, q⟩ := h
 cases rx
 cases ry
 obtain ⟨i1, r1, p1, z1⟩ := I.list ha
 obtain ⟨i2, r2, p2, z2⟩ := I.list hb
 have n1 := r1.length
 have n2 := r2.length
 have w0 : X.A.units < cLine := by have := hr.un; omega
 have w1 : X.A.in1.units < cLine := by have := hr.un; show X.A.units + 1 < cLine; omega
 have w2 : X.A.in1.in1.units < cLine := by have := hr.un; show X.A.units + 1 + 1 < cLine; omega
 have w3 : X.A.in1.in1.in1.units < cLine := by have := hr.un; show X.A.units + 1 + 1 + 1 < cLine; omega
 refine SeqAt.RcNeAt.lists (e := fun _ => true) p1.isList p2.isList (by simp only [List.size_toArray]; omega) w0 (fun j h1 h2 => ?_) _ _ _ _ ?_
 · simp only [List.size_toArray] at h1 h2
   obtain ⟨x, e, rx⟩ := vals_at r1 j h1
   obtain ⟨x2, e2, rx2⟩ := vals_at r2 j h2
   simp only [List.getElem_toArray]
   exact I.eqTu w1 w2 w3 (he j x x2 e e2) rx rx2
 · rw [show ((List.range i1.toArray.size).all fun _ => true) = true by simp]
   exact ⟨.bl false, H, I, rfl, q⟩
end
end L2
namespace L2
open PySem PySem.W PySem.Spec PyProof.Rows L3
section
variable {X : Cx}
theorem eqV_self {x : V} (h : flatV x = true) : eqV x x = true := by
 cases x <;> simp_all [flatV, eqV]
def tupB (xs ys : List V) : Bool := (List.range (min xs.length ys.length)).all (fun j => match xs[j]?, ys[j]? with | some x, some y => eqV x y | _, _ => true) && xs.length == ys.length
theorem tupB_self {xs : List V} (h : ∀ v ∈ xs, flatV v = true) : tupB xs xs = true := by
 unfold tupB
 rw [Bool.and_eq_true]
 refine ⟨List.all_eq_true.mpr fun j hj => ?_, by simp⟩
 have hj2 : j < xs.length := by simpa using hj
 rw [List.getElem?_eq_getElem hj2]
 exact eqV_self (h _ (List.getElem_mem hj2))
def eqTB (K : PySem.W.Frag) (H : Hp) (x y : V) (b : Bool) : Prop := ∃ a c xs ys, x = .ref a ∧ y = .ref c ∧ SqT K H a xs ∧ SqT K H c ys ∧ (∀ v ∈ xs, flatV v = true) ∧ (∀ v ∈ ys, flatV v = true) ∧ (a = c → xs = ys) ∧ b = tupB xs ys
theorem Inv.eqTB {pins : List (Addr × Obj)} {σ : St} {H : Hp} {s : Shared} {x y : V} {v u : Value} {b : Bool} {A : Around} (I : Inv X pins σ H s) (w0 : A.units < cLine) (t : eqTB X.K H x y b) (rx : RelV x v) (ry : RelV y u) : SeqAt.EqAt A s v u b := by
 obtain ⟨a, c, xs, ys, rfl, rfl, ha, hb, fx, fy, hs, rfl⟩ := t
 cases rx
 cases ry
 by_cases hab : a = c
 · subst hab
   rw [← hs rfl, tupB_self fx]
   exact SeqAt.EqAt.same _
 obtain ⟨i1, r1, p1, z1⟩ := I.tuple ha
 obtain ⟨i2, r2, p2, z2⟩ := I.tuple hb
 have n1 := r1.length
 have n2 := r2.length
 have h := SeqAt.RcAt.tuples (A := A) (e := fun j => match xs[j]?, ys[j]? with | some x, some y => eqV x y | _, _ => true) (show s.heap.IsTuple a i1.toArray from p1) (show s.heap.IsTuple c i2.toArray from p2) w0 (fun j h1 h2 => by
   simp only [List.size_toArray] at h1 h2
   obtain ⟨x, e, rx⟩ := vals_at r1 j h1
   obtain ⟨x2, e2, rx2⟩ := vals_at r2 j h2
   simp only [List.getElem_toArray]
   rw [e, e2]
   exact eqAt_V rx rx2 (fx x (List.mem_of_getElem? e)) (fy x2 (List.mem_of_getElem? e2)))
 rw [show ((List.range (min i1.toArray.size i2.toArray.size)).all (fun j => match xs[j]?, ys[j]? with | some x, some y => eqV x y | _, _ => true) && i1.toArray.size == i2.toArray.size) = tupB xs ys by
   unfold tupB
   simp only [List.size_toArray]
   rw [← n1, ← n2]] at h
 exact SeqAt.EqAt.of_refs hab h
def lstB (xs ys : List V) (e : Nat → Bool) : Bool := xs.length == ys.length && (List.range xs.length).all e
def eqLB (K : PySem.W.Frag) (H : Hp) (x y : V) (b : Bool) : Prop := ∃ a c xs ys e, x = .ref a ∧ y = .ref c ∧ SqL K H a xs ∧ SqL K H c ys ∧ (∀ (j : Nat) x y, xs[j]? = some x → ys[j]? = some y → eqTB K H x y (e j)) ∧ (a = c → lstB xs ys e = true) ∧ b = lstB xs ys e
theorem Inv.eqLB {pins : List (Addr × Obj)} {σ : St} {H : Hp} {s : Shared} {x y : V} {v u : Value} {b : Bool} {A : Around} (I : Inv X pins σ H s) (w0 : A.units < cLine) (w1 : A.in1.units < cLine) (t : eqLB X.K H x y b) (rx : RelV x v) (ry : RelV y u) : SeqAt.EqAt A s v u b := by
 obtain ⟨a, c, xs, ys, e, rfl, rfl, ha, hb, he, hs, rfl⟩ := t
 cases rx
 cases ry
 by_cases hab : a = c
 · subst hab
   rw [hs rfl]
   exact SeqAt.EqAt.same _
 obtain ⟨i1, r1, p1, z1⟩ := I.list ha
 obtain ⟨i2, r2, p2, z2⟩ := I.list hb
 have n1 := r1.length
 have n2 := r2.length
 by_cases hl : xs.length = ys.length
 · have h := SeqAt.RcAt.lists (A := A) (e := e) p1.isList p2.isList (by simp only [List.size_toArray]; omega) w0 (fun j h1 h2 => by
     simp only [List.size_toArray] at h1 h2
     obtain ⟨x, e1, rx⟩ := vals_at r1 j h1
     obtain ⟨x2, e2, rx2⟩ := vals_at r2 j h2
     simp only [List.getElem_toArray]
     exact I.eqTB w1 (he j x x2 e1 e2) rx rx2)
   rw [show (List.range i1.toArray.size).all e = lstB xs ys e by
     unfold lstB
     simp only [List.size_toArray]
     rw [← n1, hl]
     simp] at h
   exact SeqAt.EqAt.of_refs hab h
 · rw [show lstB xs ys e = false by
     unfold lstB
     rw [show (xs.length == ys.length) = false by simpa using hl]
     rfl]
   exact SeqAt.EqAt.of_refs hab (SeqAt.RcAt.lists_lengths (A := A) p1.isList p2.isList (by
     simp only [List.size_toArray]
     rw [← n1, ← n2]
     simpa using hl) w0)
end
end L2
namespace L2
open PySem PySem.W PySem.Spec PyProof.Rows L3
section
variable {X : Cx} {CX : CXT} {cm : Bool} {k : Nat} {E : XK} {m : Str} {pos apos : Pos} {o e : Expr} {es : List Expr} {ta : TE} {t : TA}
end
end L2
namespace L2
open PySem PySem.W PySem.Spec PyProof.Rows L3
section
variable {X : Cx}
theorem op_neU {cm : Bool} {k : Nat} (hr : Room cm k X.A) : OpR X (compareOp .NotEq) (fun x y H Q => ∃ a b xs ys, x = .ref a ∧ y = .ref b ∧ SqT X.K H a xs ∧ SqT X.K H b ys ∧ xs.length = ys.length ∧ (∀ (j : Nat) x y, xs[j]? = some x → ys[j]? = some y → eqT X.K H x y ∨ eqLi X.K H x y) ∧ Q (.bl false) H) := by
 intro pins s σ H x y v u Q I rx ry h
 obtain ⟨a, b, xs, ys, rfl, rfl, ha, hb, hl, he, q⟩ := h
 cases rx
 cases ry
 obtain ⟨i1, r1, p1, z1⟩ := I.tuple ha
 obtain ⟨i2, r2, p2, z2⟩ := I.tuple hb
 have n1 := r1.length
 have n2 := r2.length
 have w0 : X.A.units < cLine := by have := hr.un; omega
 have w1 : X.A.in1.units < cLine := by have := hr.un; show X.A.units + 1 < cLine; omega
 have w2 : X.A.in1.in1.units < cLine := by have := hr.un; show X.A.units + 1 + 1 < cLine; omega
 refine SeqAt.RcNeAt.tuples (e := fun _ => true) (show s.heap.IsTuple a i1.toArray from p1) (show s.heap.IsTuple b i2.toArray from p2) w0 (fun j h1 h2 => ?_) _ _ _ _ ?_
 · simp only [List.size_toArray] at h1 h2
   obtain ⟨x, e, rx⟩ := vals_at r1 j h1
   obtain ⟨x2, e2, rx2⟩ := vals_at r2 j h2
   simp only [List.getElem_toArray]
   rcases he j x x2 e e2 with w | w
   · exact I.eqT w1 w rx rx2
   · exact I.eqLi w1 w2 w rx rx2
 · rw [show ((List.range (min i1.toArray.size i2.toArray.size)).all (fun _ => true) && i1.toArray.size == i2.toArray.size) = true by
     simp only [List.size_toArray]
     rw [← n1, ← n2, hl]
     simp]
   exact ⟨.bl false, H, I, rfl, q⟩
end
end L2
namespace L2
open PySem PySem.W PySem.Spec PyProof.Rows L3
section
variable {X : Cx}
end
end L2
namespace L2
open PySem PySem.W PySem.Spec PyProof.Rows L3
section
variable {X : Cx}
end
end L2
namespace L2
open PySem PySem.W PySem.Spec PyProof.Rows L3
section
variable {X : Cx}
end
end L2
namespace L2
open PySem PySem.W PySem.Spec PyProof.Rows L3
section
variable {prog : Program} {w : World} {s : Shared} {A : Around} {E : Value → Shared → Prop} {M : Model}
structure StrS (prog : Program) (w : World) (h : Heap) (a : Addr) (es : Array (Int × Value)) (ep : Nat) (t : SetTable) : Prop where
 ob : ∃ o, h.get? a = some o ∧ o.ExactSet ∧ o.data = .set es ep t
 el : ElemsOf (strKind prog w) es.toList
 ft : t.fits es.size = true
 pl : es.size = 0 ∨ t.plain = false
 ld : t.led = !w.params.followText "set-order"
 sm : es.size < scanBound
theorem StrS.same {h h' : Heap} {a : Addr} {es : Array (Int × Value)} {ep : Nat} {t : SetTable} (x : StrS prog w h a es ep t) (k : ∀ o, h.get? a = some o → h'.get? a = some o) : StrS prog w h' a es ep t := by
 obtain ⟨⟨o, ho, r⟩, q1, q2, q3, q4, q5⟩ := x
 exact ⟨⟨o, k o ho, r⟩, q1, q2, q3, q4, q5⟩
end
end L2
namespace L2
open PySem PySem.W PySem.Spec PyProof.Rows L3
section
variable {prog : Program} {w : World} {A : Around} {R : Result → Shared → Prop} {I : Addr} {fp wr : List Addr} {G : Array GenState → Array GenState → Prop} {n : Nat} {P : Nat → Value → Prop} {St : Nat → Shared → Prop}
end
section
variable {prog : Program} {w : World} {A : Around} {E : Value → Shared → Prop} {s : Shared}
end
end L2
namespace L2
open PySem PySem.W PySem.Spec PyProof.Rows L3
section
variable {prog : Program} {w : World} {A : Around} {E : Value → Shared → Prop} {s : Shared}
theorem StrS.typeIs {a : Addr} {es : Array (Int × Value)} {ep : Nat} {t : SetTable} (X : StrS prog w s.heap a es ep t) : s.TypeIs (.ref a) "set" := by
 obtain ⟨o, ho, hx, hd⟩ := X.ob
 exact ⟨o, ho, hx.1⟩
end
end L2
namespace L2
open PySem PySem.W PySem.Spec PyProof.Rows L3
section
variable {prog : Program} {w : World} {A : Around} {E : Value → Shared → Prop} {s : Shared}
end
end L2
namespace L2
open PySem PySem.W PySem.Spec PyProof.Rows L3
section
variable {prog : Program} {w : World} {A : Around} {E : Value → Shared → Prop} {s : Shared}
end
end L2
namespace L2
open PySem PySem.W PySem.Spec PyProof.Rows L3
section
variable {prog : Program} {w : World} {A : Around} {E : Value → Shared → Prop} {s : Shared}
end
end L2
namespace L2
open PySem PySem.W PySem.Spec PyProof.Rows L3
section
variable {prog : Program} {w : World} {A : Around} {E : Value → Shared → Prop} {s : Shared}
end
section
variable {X : Cx}
theorem Inv.drawn {pins : List (Addr × Obj)} {σ : St} {H : Hp} {s : Shared} (I : Inv X pins σ H s) (d : Drawn) : Inv X pins σ H { s with drawn := d } := ⟨I.ok, I.os, I.bare, I.base, I.loc, I.cell, I.free, I.freeC, I.pin, I.hok, I.len⟩
end
end L2
namespace L2
open PySem PySem.W PySem.Spec PyProof.Rows L3
section
variable {X : Cx}
theorem op_neLen {cm : Bool} {k : Nat} (hr : Room cm k X.A) : OpR X (compareOp .NotEq) (fun x y H Q => ∃ a b xs ys, x = .ref a ∧ y = .ref b ∧ SqL X.K H a xs ∧ SqL X.K H b ys ∧ ((xs.length ≠ ys.length ∧ Q (.bl true) H) ∨ (EqLs X.K H xs ys ∧ Q (.bl false) H))) := by
 intro pins s σ H x y v u Q I rx ry h
 obtain ⟨a, b, xs, ys, rfl, rfl, ha, hb, h⟩ := h
 rcases h with ⟨hne, q⟩ | ⟨he, q⟩
 · cases rx
   cases ry
   obtain ⟨its, r, pl, hz⟩ := I.list ha
   obtain ⟨its2, r2, pl2, hz2⟩ := I.list hb
   have l1 := r.length
   have l2 := r2.length
   have hu : X.A.units < cLine := by have := hr.un; omega
   refine SeqAt.RcNeAt.lists_lengths pl.isList pl2.isList ?_ hu _ _ _ _ ⟨.bl true, H, I, rfl, q⟩
   simp only [List.size_toArray]
   rw [← l1, ← l2]
   simpa using hne
 · exact op_neD hr pins s σ H _ _ v u Q I rx ry ⟨a, b, xs, ys, rfl, rfl, ha, hb, he, q⟩
end
end L2
namespace L2
open PySem PySem.Spec PyProof.Rows L3
section
variable {X : Cx} {pins : List (Addr × Obj)} {σ : St} {H : Hp} {s : Shared}
end
section
variable {X : Cx}
end
end L2
namespace L2
open PySem PySem.W PySem.Spec PyProof.Rows L3
abbrev TH := Value → Option Addr → Hp → Ends → St → Prop
def thNil : TH := fun _ _ _ _ _ => False
def thAs (K : PySem.W.Frag) (CB : Addr) (i : Nat) (ts : TS) (th : TH) : TH := fun C dx H' D σ =>
 (PySem.W.exmOne K C (.ref CB) = some true ∧ ∀ x, H' x = none →
   ts { nx := fun σ2 H2 => D.nx (σ2.set i none) H2, rt := D.rt, bk := fun σ2 H2 => D.bk (σ2.set i none) H2, ct := fun σ2 H2 => D.ct (σ2.set i none) H2 } (σ.set i (some (.ref x))) (upd H' x (excO x C dx))) ∨
 (PySem.W.exmOne K C (.ref CB) = some false ∧ th C dx H' D σ)
def PH (X : Cx) (hs : List ExceptHandler) (th : TH) : Prop := ∀ (pins : List (Addr × Obj)) (σ : St) (H' : Hp) (D : Ends) (T x : Addr) (C : Value) (dx : Option Addr) (s3 : Shared), X.Ok → Inv X pins σ H' s3 → FpOk X pins H' T → FpOk X pins H' x → T ≠ x → Rec s3.heap x C dx (.ref T) → Tra s3.heap T .none → th C dx H' D σ →
 wpAny (model X.prog X.w) X.A (handleBy (.ref x) X.env hs) (SP X pins D) X.xe s3
def tTryH (tb : (St → Prop) → XK → TS) (th : TH) : TS := fun D σ H => tb (fun σ' => σ' = σ) (fun C dx H' => th C dx H' D σ) D σ H
section
variable {X : Cx}
theorem ph_nil : PH X [] thNil := fun _ _ _ _ _ _ _ _ _ _ _ _ _ _ _ _ h => h.elim
theorem ph_as {y n : Str} {np hpos : Pos} {b0 : Stmt} {suite : List Stmt} {hs : List ExceptHandler} {CB : Addr} {i : Nat} {ts : TS} {th : TH} (hN : X.N.Nodup) (hi : X.N[i]? = some n) (hl : X.env.scope.names.lookup n = some .local)
   (hg : Gl X y) (hm : X.mg y = some (.ref CB)) (hs1 : ∀ x, PSs (sup X x) (b0 :: suite) ts) (hr : PH X hs th) (hdb : (y == ("__debug__" : Str)) = false := by decide) : PH X (.ExceptHandler (some (.Name y np)) (some n) (b0 :: suite) hpos :: hs) (thAs X.K CB i ts th) := by
 intro pins σ' H' D T x C dx s3 ok I3 fT own ne r3 t3 h
 have LT : PySem.W.Looks (model X.prog X.w) s3.heap (typeOf (.ref x)) C := by
   obtain ⟨oe, vs, he, hc, _⟩ := id r3
   exact hc ▸ (PySem.W.Looks.ld he).andThen .now
 rcases h with ⟨hmt, hsu⟩ | ⟨hmt, hth⟩
 · refine wpAny_handleBy_cons (codeAny_handlers_test (ld_glob (X := sup X x) (inv_sup I3 x) hg hm ((PySem.W.exm_one I3.kIn LT hmt).here ?_) hdb)) (by intro z; cases z)
   show codeAny _ _ (.handlers (.ref x) [.ExceptHandler none (some n) (b0 :: suite) hpos] X.env) _ s3
   refine codeAny_handlers_suite_as (flight_none r3 ne t3 fun h4 a4 r4 t4 => ?_)
   have I4 : Inv X pins σ' H' { s3 with heap := h4 } := aft I3 (a4.mono (by simp) fun _ z => z) (by intro b hb; have : b = T := by simpa using hb
                                                                                                    subst this; exact fT)
   have I5 := track (o := excO x C dx) I4 own (excO_ok r4)
   refine store_ok (X := sup X x) (inv_sup I5 x) hN hi (.inl hl) (v := .ref x) rfl (fun s6 I6 => ?_) (.inr hl)
   refine wpAny_mono (hs1 x pins s6 _ _ _ I6 (hsu x own.1)) (fun f s7 q => ?_) fun _ _ z => z.elim
   cases f with
   | next => obtain ⟨σ7, H7, I7, q7⟩ := q; exact unbind_ok (inv_unsup ok I7) hN hi hl fun s8 I8 => ⟨_, _, I8, q7⟩
   | brk => obtain ⟨σ7, H7, I7, q7⟩ := q; exact unbind_ok (inv_unsup ok I7) hN hi hl fun s8 I8 => ⟨_, _, I8, q7⟩
   | cont => obtain ⟨σ7, H7, I7, q7⟩ := q; exact unbind_ok (inv_unsup ok I7) hN hi hl fun s8 I8 => ⟨_, _, I8, q7⟩
   | ret u => obtain ⟨v7, σ7, H7, I7, r7, q7⟩ := q; exact unbind_ok (inv_unsup ok I7) hN hi hl fun s8 I8 => ⟨v7, _, _, I8, r7, q7⟩
 · refine wpAny_handleBy_cons (codeAny_handlers_test (ld_glob (X := sup X x) (inv_sup I3 x) hg hm ((PySem.W.exm_one I3.kIn LT hmt).here ?_) hdb)) (by intro z; cases z)
   exact hr pins σ' H' D T x C dx s3 ok I3 fT own ne r3 t3 hth
theorem ps_tryH {body : List Stmt} {h0 : ExceptHandler} {hs : List ExceptHandler} {pos : Pos} {tb : (St → Prop) → XK → TS} {th : TH}
   (hst : X.stack = X.env :: X.outer) (hfr : X.env.frame = some X.env.locals)
   (hb : ∀ (pn : List (Addr × Obj)) (E : Value → Shared → Prop) (R : St → Prop) (Ek : XK), PassesOwn (model X.prog X.w) X.A X.env E → XeIs (into X pn E) R Ek → PSs (into X pn E) body (tb R Ek)) (hh : PH X (h0 :: hs) th) : PS X (.Try body (h0 :: hs) [] [] pos) (tTryH tb th) := by
 intro pins s σ H D I h
 refine wpAny_Try_except ?_
 have hxe : XeIs (into X (X.pn ++ pins) (fun e s1 => wpAny (model X.prog X.w) X.A (noteFrame e X.env) (fun _ s2 => wpAny (model X.prog X.w) X.A (setFlight e none)
     (fun _ s3 => wpAny (model X.prog X.w) X.A (handleBy e X.env (h0 :: hs)) (SP X pins D) X.xe s3) X.xe s2) X.xe s1)) (fun σ' => σ' = σ)
     (fun C dx H' => th C dx H' D σ) := by
   rintro pins' σ' H' s' x C dx I' rfl ex hsu
   have I1 : Inv X pins σ' H' s' := inv_outof I'
   have own : FpOk X pins H' x := fp_outof ex.own
   have fin : ∀ (T : Addr) (s3 : Shared), Inv X pins σ' H' s3 → FpOk X pins H' T → T ≠ x → Rec s3.heap x C dx (.ref T) → Tra s3.heap T .none →
       wpAny (model X.prog X.w) X.A (handleBy (.ref x) X.env (h0 :: hs)) (SP X pins D) X.xe s3 :=
     fun T s3 I3 fT ne r3 t3 => hh pins σ' H' D T x C dx s3 I.ok I3 fT own ne r3 t3 hsu
   have fr : X.A.frames = some (X.env :: X.outer) := by rw [I1.ok.frames, hst]
   have stk : s'.heap.FunFrames X.base (X.env :: X.outer) := by rw [← hst]; exact I1.stack
   have big : ∀ {T : Addr}, s'.heap.objs.size ≤ T → (∃ tb, Rec s'.heap x C dx tb) → T ≠ x := fun sz ⟨_, oe, _, he, _⟩ z => absurd (Nat.lt_of_lt_of_le (Heap.lt_size he) (z ▸ sz)) (Nat.lt_irrefl _)
   rcases ex.tr with r | ⟨T0, fl0, r, ne0, t0, f0⟩
   · refine note_new fr stk hfr r fun h' T a sz r' t' => ?_
     have J1 := aft I1 (by rw [hst]; exact a) (by intro b hb; have : b = x := by simpa using hb
                                                  subst this; exact own)
     have ne := big sz ⟨_, r⟩
     have fT := I1.fpOk (H' := H') sz (I1.hok.fresh sz)
     refine flight_none r' ne t' fun h2 a2 r2 t2 => ?_
     exact fin T _ (aft (h' := h2) J1 (a2.mono (by simp) fun _ z => z) (by intro b hb; have : b = T := by simpa using hb
                                                                           subst this; exact fT)) fT ne r2 t2
   · refine note_any fr stk hfr r ne0 t0 fun h' T fl' a sz r' t' => ?_
     have J1 := aft I1 (by rw [hst]; exact a) (by intro b hb
                                                  rcases (show b = x ∨ b = T0 by simpa using hb) with z | z
                                                  · subst z; exact own
                                                  · subst z; exact fp_outof f0)
     have ne : T ≠ x := by
       rcases sz with z0 | z0
       · rw [z0]; exact ne0
       · exact big z0 ⟨_, r⟩
     have fT : FpOk X pins H' T := by
       rcases sz with z0 | z0
       · rw [z0]; exact fp_outof f0
       · exact I1.fpOk (H' := H') z0 (I1.hok.fresh z0)
     refine flight_none r' ne t' fun h2 a2 r2 t2 => ?_
     exact fin T _ (aft (h' := h2) J1 (a2.mono (by simp) fun _ z => z) (by intro b hb; have : b = T := by simpa using hb
                                                                           subst this; exact fT)) fT ne r2 t2
 refine wpAny_mono (hb (X.pn ++ pins) _ _ _ PassesOwn.looking hxe [] s σ H D (inv_into I _) h) (fun f s1 q => ?_) fun _ _ z => z
 have q' := sp_outof q
 cases f with
 | next => exact wpAny_execs_nil q'
 | brk => exact q'
 | cont => exact q'
 | ret u => exact q'
end
end L2
namespace L2
open PySem PySem.Spec PyProof.Rows L3
section
variable {X : Cx}
end
end L2
namespace L2
open PySem PySem.W PySem.Spec PyProof.Rows L3
section
variable {X : Cx}
end
end L2
namespace L2
open PySem PySem.W PySem.Spec PyProof.Rows L3
section
variable {prog : Program} {w : World} {s : Shared} {A : Around} {E : Value → Shared → Prop}
def TwoI (h : Heap) (a : Addr) (k : Int × Int) : Prop := ∃ o n t u, h.get? a = some o ∧ o.cls = .type "tuple" ∧ o.data = .seq #[.int k.1 t, .int k.2 u] n
inductive TwosI (h : Heap) : List Addr → List (Int × Int) → Prop where
 | nil : TwosI h [] []
 | cons {a : Addr} {k : Int × Int} {as : List Addr} {ks : List (Int × Int)} (x : TwoI h a k) (r : TwosI h as ks) : TwosI h (a :: as) (k :: ks)
theorem TwosI.keep {h h' : Heap} (kp : ∀ b o, h.get? b = some o → h'.get? b = some o) : ∀ {as : List Addr} {ks : List (Int × Int)}, TwosI h as ks → TwosI h' as ks
 | _, _, .nil => .nil
 | _, _, .cons ⟨o, n, t, u, e, r⟩ x => .cons ⟨o, n, t, u, kp _ _ e, r⟩ (x.keep kp)
theorem TwosI.len {h : Heap} : ∀ {as : List Addr} {ks : List (Int × Int)}, TwosI h as ks → as.length = ks.length
 | _, _, .nil => rfl
 | _, _, .cons _ r => congrArg (· + 1) r.len
theorem TwosI.at {h : Heap} : ∀ {as : List Addr} {ks : List (Int × Int)} (i : Nat), TwosI h as ks → i < as.length → ∃ a, (as.map Value.ref).getD i Value.none = .ref a ∧ TwoI h a (ks.getD i (0, 0))
 | _, _, i, .nil, hi => absurd hi (Nat.not_lt_zero _)
 | _, _, 0, .cons x _, _ => ⟨_, rfl, x⟩
 | _, _, i + 1, .cons _ r, hi => by
   obtain ⟨a, e, x⟩ := r.at i (by simpa using hi)
   exact ⟨a, by simpa [List.getD] using e, by simpa [List.getD] using x⟩
theorem TwosI.kats {h : Heap} : ∀ {as : List Addr} {ks : List (Int × Int)}, TwosI h as ks → ∃ fs : List Value, fs.length = ks.length ∧ (∀ v ∈ fs, ∃ x t, v = .int x t) ∧ KatTups h (as.map Value.ref) fs
 | _, _, .nil => ⟨[], rfl, (fun v hv => nomatch hv), KatTups.nil⟩
 | _, _, .cons ⟨o, n, t, u, e, c, d⟩ r => by
   obtain ⟨fs, h1, h2, h3⟩ := r.kats
   refine ⟨_ :: fs, congrArg (· + 1) h1, fun v hv => ?_, KatTups.cons e c d rfl h3⟩
   rcases List.mem_cons.mp hv with z | z
   · exact ⟨_, _, z⟩
   · exact h2 v z
end
section
variable {prog : Program} {w : World} {s : Shared} {A : Around} {E : Value → Shared → Prop}
end
section
variable {X : Cx}
end
end L2
namespace L2
open PySem PySem.Spec PyProof.Rows L3
section
variable {X : Cx}
end
theorem LcOkT.free {X : Cx} {xs : List Str} {scope : Scope} {cl : List (Str × Addr)} {js : List Nat} (fns : List Str) (hclos : closureFor scope X.env = pure cl) (hf : cl.map (·.1) = fns) (hsub : ∀ p ∈ cl, X.env.cells.lookup p.1 = some p.2) (hcell : ∀ y ∈ scope.names, y.2 ≠ .cell) (hkind : scope.kind = .function) (hnames : ∀ y ∈ scope.names, y.2 = .local → scope.names.lookup y.1 = some .local)
   (hloc : ∀ x ∈ xs, scope.names.lookup x = some .local) (hcov : ∀ z ∈ scope.names, z.2 = .free → z.1 ∈ fns) (hnd : (xs ++ js.map (fun j => X.N.getD j "")).Nodup)
   (hfr : ∀ j ∈ js, ∃ y, X.N[j]? = some y ∧ X.env.kindOf y = some .cell ∧ (relabel scope X.env).names.lookup y = some .cell ∧ y ∈ fns) : LcOkT X xs scope cl js where
 clos := hclos
 sub := fun y c e => hsub (y, c) (mem_lookup e)
 kind := hkind
 cell := hcell
 names := hnames
 loc := hloc
 has := fun y h => by
   have : ∃ z ∈ scope.names, z.1 = y ∧ z.2 = .free := by
     rcases h with h | h
     · exact lookup_relabel_free (.inl rfl) hcell h
     · exact lookup_relabel_free (.inr rfl) hcell h
   obtain ⟨z, m, rfl, e⟩ := this
   exact lookup_mem (by rw [hf]; exact hcov z m e)
 nd := hnd
 fr := fun j hj => by
   obtain ⟨y, a, b, c, d⟩ := hfr j hj
   exact ⟨y, a, b, c, lookup_mem (by rw [hf]; exact d)⟩
section
variable {X : Cx}
end
end L2
namespace HT
open PySem PySem.Spec PyProof.Rows L2
section
variable {prog : Program} {w : World} {A : Around} {E : Value → Shared → Prop} {s : Shared}
end
end HT
namespace L2
open PySem PySem.W PySem.Spec PyProof.Rows L3
section
variable {X : Cx}
end
end L2
namespace Z
def numZ (c : Int) : Int := if c % 3 = 0 then c / 3 % 13 - 6 else if c % 3 = 1 then c / 3 % 2000003 - 1000001 else (c / 3 % 1000003 - 500001) ^ 11
theorem pow_le {x : Int} (k n : Nat) (h : x.natAbs ≤ n) : (x ^ k).natAbs ≤ n ^ k := by
 rw [Int.natAbs_pow]
 exact Nat.pow_le_pow_left h k
theorem num_in (c : Int) : -(2 ^ 210) ≤ numZ c ∧ numZ c ≤ 2 ^ 210 := by
 unfold numZ
 split
 · omega
 · split
   · omega
   · have p := pow_le 11 500001 (show (c / 3 % 1000003 - 500001).natAbs ≤ 500001 by omega)
     generalize (c / 3 % 1000003 - 500001) ^ 11 = z at p ⊢
     have e : (500001 : Nat) ^ 11 ≤ 2 ^ 210 := by decide
     omega
end Z
namespace N11
def gF (a b : Int) : Int := (Int.gcd a b : Nat)
theorem g_turn {a b : Int} (ha : 0 ≤ a) (hb : 0 < b) : Int.gcd b (a.fmod b) = Int.gcd a b := by
 rw [Int.fmod_eq_emod_of_nonneg a (Int.le_of_lt hb)]
 obtain ⟨m, rfl⟩ := Int.eq_ofNat_of_zero_le ha
 obtain ⟨n, rfl⟩ := Int.eq_ofNat_of_zero_le (Int.le_of_lt hb)
 show Nat.gcd n (((m : Int) % (n : Int)).natAbs) = Nat.gcd m n
 rw [← Int.natCast_emod, Int.natAbs_natCast, Nat.gcd_comm n, ← Nat.gcd_rec, Nat.gcd_comm]
theorem fm_lt {a b : Int} (hb : 0 < b) : 0 ≤ a.fmod b ∧ a.fmod b < b := ⟨Int.fmod_nonneg_of_pos a hb, Int.fmod_lt_of_pos a hb⟩
end N11
namespace N11
theorem pow_le {x : Int} (k n : Nat) (h : x.natAbs ≤ n) : (x ^ k).natAbs ≤ n ^ k := by
 rw [Int.natAbs_pow]
 exact Nat.pow_le_pow_left h k
def numF (c : Int) : Int :=
 if Int.fmod c 3 = 0 then Int.fmod (Int.fdiv c 3) 13 - 6
 else if Int.fmod c 3 = 1 then Int.fmod (Int.fdiv c 3) 2000003 - 1000001
 else (Int.fmod (Int.fdiv c 3) 1000003 - 500001) ^ 11
theorem fm (c : Int) {m : Int} (h : 0 < m) : 0 ≤ Int.fmod c m ∧ Int.fmod c m < m := ⟨Int.fmod_nonneg_of_pos c h, Int.fmod_lt_of_pos c h⟩
theorem num_in (c : Int) : -(2 ^ 210) ≤ numF c ∧ numF c ≤ 2 ^ 210 := by
 unfold numF
 split
 · have := fm (Int.fdiv c 3) (m := 13) (by decide); omega
 · split
   · have := fm (Int.fdiv c 3) (m := 2000003) (by decide); omega
   · have h := fm (Int.fdiv c 3) (m := 1000003) (by decide)
     have p := pow_le 11 500001 (show (Int.fmod (Int.fdiv c 3) 1000003 - 500001).natAbs ≤ 500001 by omega)
     generalize (Int.fmod (Int.fdiv c 3) 1000003 - 500001) ^ 11 = z at p ⊢
     have e : (500001 : Nat) ^ 11 ≤ 2 ^ 210 := by decide
     omega
structure GI (o p a b : Int) : Prop where
 is : gF a b = gF o p
theorem start {a b : Int} (ha : 0 ≤ a) (hb : 0 ≤ b) : 0 ≤ a ∧ 0 ≤ b ∧ GI a b a b := ⟨ha, hb, ⟨rfl⟩⟩
theorem turn {o p a b : Int} (h : GI o p a b) (ha : 0 ≤ a) (hb : 0 < b) : 0 ≤ b ∧ 0 ≤ Int.fmod a b ∧ GI o p b (Int.fmod a b) := by
 refine ⟨by omega, (fm_lt hb).1, ⟨?_⟩⟩
 rw [← h.is]
 unfold gF
 rw [g_turn ha hb]
end N11
namespace N11
end N11
namespace N13
theorem quot (x y : Int) : x = y * Int.fdiv x y + Int.fmod x y := by
 rw [Int.fmod_def]
 omega
def sizeF (t b : Int) : Int := Int.fdiv (2 * (t.natAbs : Int) + b) (2 * b)
def nearF (t b : Int) : Int := if t < 0 then -(sizeF t b) else sizeF t b
theorem size_facts (t b : Int) (hb : 1 ≤ b) : 0 ≤ sizeF t b ∧ -b < 2 * (sizeF t b * b) - 2 * (t.natAbs : Int) ∧ 2 * (sizeF t b * b) - 2 * (t.natAbs : Int) ≤ b := by
 have q := quot (2 * (t.natAbs : Int) + b) (2 * b)
 have r0 := Int.fmod_nonneg_of_pos (2 * (t.natAbs : Int) + b) (show 0 < 2 * b by omega)
 have r1 := Int.fmod_lt_of_pos (2 * (t.natAbs : Int) + b) (show 0 < 2 * b by omega)
 have e : 2 * b * sizeF t b = 2 * (sizeF t b * b) := by
   rw [Int.mul_assoc, Int.mul_comm b]
 have n0 : 0 ≤ sizeF t b := by
   unfold sizeF
   rw [Int.fdiv_eq_ediv_of_nonneg _ (by omega)]
   exact Int.ediv_nonneg (by omega) (by omega)
 have q' : 2 * (t.natAbs : Int) + b = 2 * b * sizeF t b + Int.fmod (2 * (t.natAbs : Int) + b) (2 * b) := q
 rw [e] at q'
 exact ⟨n0, by omega, by omega⟩
theorem size_le (t b : Int) (hb : 1 ≤ b) : sizeF t b ≤ (t.natAbs : Int) + 1 := by
 obtain ⟨n0, lo, hi⟩ := size_facts t b hb
 have := Int.mul_le_mul_of_nonneg_left hb n0
 rw [Int.mul_one] at this
 by_cases c : sizeF t b ≤ (t.natAbs : Int) + 1
 · exact c
 · exfalso
   have h1 : (t.natAbs : Int) + 2 ≤ sizeF t b := by omega
   have h2 := Int.mul_le_mul_of_nonneg_right h1 (show (0 : Int) ≤ b by omega)
   rw [Int.add_mul] at h2
   have h3 := Int.mul_le_mul_of_nonneg_left hb (show (0 : Int) ≤ (t.natAbs : Int) by omega)
   rw [Int.mul_one] at h3
   omega
theorem size_neg (t b : Int) : sizeF (-t) b = sizeF t b := by
 unfold sizeF
 rw [Int.natAbs_neg]
theorem size_zero (b : Int) (hb : 1 ≤ b) : sizeF 0 b = 0 := by
 obtain ⟨n0, lo, hi⟩ := size_facts 0 b hb
 by_cases c : sizeF 0 b = 0
 · exact c
 · have := Int.mul_le_mul_of_nonneg_right (show (1 : Int) ≤ sizeF 0 b by omega) (show (0 : Int) ≤ b by omega)
   simp at hi
   omega
theorem near_facts (t b : Int) (hb : 1 ≤ b) :
   (nearF t b).natAbs = sizeF t b ∧ 0 ≤ sizeF t b ∧ sizeF t b ≤ (t.natAbs : Int) + 1 ∧
   (nearF t b * b = if t < 0 then -(sizeF t b * b) else sizeF t b * b) ∧
   ((((nearF t b).natAbs : Nat) : Int) * b = sizeF t b * b) ∧
   -b < 2 * (sizeF t b * b) - 2 * (t.natAbs : Int) ∧ 2 * (sizeF t b * b) - 2 * (t.natAbs : Int) ≤ b ∧
   nearF (0 - t) b = 0 - nearF t b := by
 obtain ⟨n0, lo, hi⟩ := size_facts t b hb
 have l := size_le t b hb
 have e : (nearF t b).natAbs = sizeF t b := by
   unfold nearF
   split <;> omega
 refine ⟨e, n0, l, ?_, by rw [e], lo, hi, ?_⟩
 · unfold nearF
   split
   · rw [Int.neg_mul]
   · rfl
 · unfold nearF
   rw [Int.zero_sub, size_neg]
   by_cases z : t = 0
   · subst z
     simp [size_zero b hb]
   · split <;> split <;> omega
end N13
namespace N13
def nearZ (t b : Int) : Int := if t < 0 then -(Int.fdiv (2 * ((t.natAbs : Nat) : Int) + b) (2 * b)) else Int.fdiv (2 * ((t.natAbs : Nat) : Int) + b) (2 * b)
theorem nearZ_eq (t b : Int) : nearZ t b = nearF t b := rfl
end N13
namespace N13
end N13
namespace N18
variable {α : Type}
def sm (j : Nat) : List (α × Nat × Int) → Int
 | [] => 0
 | z :: r => (if z.2.1 = j then z.2.2 else 0) + sm j r
def ct (j : Nat) : List (α × Nat × Int) → Int
 | [] => 0
 | z :: r => (if z.2.1 = j then 1 else 0) + ct j r
def wz (X Y : Nat → Int) (j : Nat) (a : Int) : Int := N13.nearZ (a * X j) (Y j)
def sw (X Y : Nat → Int) (j : Nat) : List (α × Nat × Int) → Int
 | [] => 0
 | z :: r => (if z.2.1 = j then wz X Y j z.2.2 else 0) + sw X Y j r
def wl (X Y : Nat → Int) (L : List (α × Nat × Int)) : List Int := L.map fun z => wz X Y z.2.1 z.2.2
theorem near2 {t y : Int} (hy : 1 ≤ y) : -y ≤ 2 * (N13.nearZ t y * y) - 2 * t ∧ 2 * (N13.nearZ t y * y) - 2 * t ≤ y := by
 have h := N13.near_facts t y hy
 obtain ⟨h1, h2, h3, h4, h5, h6, h7, h8⟩ := h
 rw [N13.nearZ_eq, h4]
 split <;> omega
theorem off (X Y : Nat → Int) (j : Nat) (hy : 1 ≤ Y j) : ∀ L : List (α × Nat × Int), -(ct j L * Y j) ≤ 2 * (sw X Y j L * Y j) - 2 * (sm j L * X j) ∧ 2 * (sw X Y j L * Y j) - 2 * (sm j L * X j) ≤ ct j L * Y j
 | [] => by simp [ct, sw, sm]
 | z :: r => by
   have h := off X Y j hy r
   have n := near2 (t := z.2.2 * X j) hy
   show -(((if z.2.1 = j then 1 else 0) + ct j r) * Y j) ≤ 2 * (((if z.2.1 = j then wz X Y j z.2.2 else 0) + sw X Y j r) * Y j) - 2 * (((if z.2.1 = j then z.2.2 else 0) + sm j r) * X j) ∧ 2 * (((if z.2.1 = j then wz X Y j z.2.2 else 0) + sw X Y j r) * Y j) - 2 * (((if z.2.1 = j then z.2.2 else 0) + sm j r) * X j) ≤ ((if z.2.1 = j then 1 else 0) + ct j r) * Y j
   split
   · rw [Int.add_mul, Int.add_mul, Int.add_mul, Int.one_mul]
     have e : wz X Y j z.2.2 = N13.nearZ (z.2.2 * X j) (Y j) := rfl
     rw [e]
     omega
   · rw [Int.zero_add, Int.zero_add, Int.zero_add]
     exact h
end N18
namespace N21
variable {κ : Type} [DecidableEq κ]
def tot (c : κ) : List (κ × Int) → Int
 | [] => 0
 | p :: r => (if p.1 = c then p.2 else 0) + tot c r
def add (acc : List κ) (c : κ) : List κ := if c ∈ acc then acc else acc ++ [c]
def firsts (cs : List κ) : List κ := cs.foldl add []
theorem firsts_snoc (cs : List κ) (c : κ) : firsts (cs ++ [c]) = add (firsts cs) c := by
 unfold firsts
 rw [List.foldl_append]
 rfl
theorem mem_foldl (c : κ) : ∀ (cs acc : List κ), c ∈ cs.foldl add acc ↔ c ∈ acc ∨ c ∈ cs
 | [], acc => by simp
 | d :: cs, acc => by
   rw [List.foldl_cons, mem_foldl c cs (add acc d), List.mem_cons]
   unfold add
   split
   · rename_i h
     constructor
     · rintro (h1 | h1)
       · exact .inl h1
       · exact .inr (.inr h1)
     · rintro (h1 | rfl | h1)
       · exact .inl h1
       · exact .inl h
       · exact .inr h1
   · rw [List.mem_append, List.mem_singleton]
     constructor
     · rintro ((h1 | h1) | h1)
       · exact .inl h1
       · exact .inr (.inl h1)
       · exact .inr (.inr h1)
     · rintro (h1 | h1 | h1)
       · exact .inl (.inl h1)
       · exact .inl (.inr h1)
       · exact .inr h1
theorem mem_firsts {c : κ} {cs : List κ} : c ∈ firsts cs ↔ c ∈ cs := by
 unfold firsts
 rw [mem_foldl]
 simp
theorem len_add (acc : List κ) (c : κ) : (add acc c).length ≤ acc.length + 1 := by
 unfold add
 split
 · omega
 · rw [List.length_append]; exact Nat.le_refl _
theorem len_foldl : ∀ (cs acc : List κ), (cs.foldl add acc).length ≤ acc.length + cs.length
 | [], acc => by simp
 | d :: cs, acc => by
   have h1 := len_foldl cs (add acc d)
   have h2 := len_add acc d
   rw [List.foldl_cons, List.length_cons]
   omega
theorem len_firsts (cs : List κ) : (firsts cs).length ≤ cs.length := by
 have := len_foldl cs ([] : List κ)
 unfold firsts
 simpa using this
theorem tot_snoc (c : κ) (p : κ × Int) : ∀ P : List (κ × Int), tot c (P ++ [p]) = tot c P + (if p.1 = c then p.2 else 0)
 | [] => by show _ + 0 = 0 + _; omega
 | q :: r => by
   show _ + tot c (r ++ [p]) = _ + tot c r + _
   rw [tot_snoc c p r]
   omega
theorem tot_not {c : κ} : ∀ {P : List (κ × Int)}, c ∉ P.map (·.1) → tot c P = 0
 | [], _ => rfl
 | q :: r, h => by
   have h1 : ¬ q.1 = c := fun e => h (by rw [← e]; exact List.mem_cons_self)
   have h2 := tot_not (P := r) fun m => h (List.mem_cons_of_mem _ m)
   show (if q.1 = c then q.2 else 0) + tot c r = 0
   rw [if_neg h1, h2]
   rfl
theorem tot_filter (c : κ) : ∀ P : List (κ × Int), ((P.filter fun p => decide (p.1 = c)).map (·.2)).sum = tot c P
 | [] => rfl
 | q :: r => by
   have ih := tot_filter c r
   by_cases h : q.1 = c
   · rw [List.filter_cons_of_pos (by simpa using h), List.map_cons, List.sum_cons, ih]
     show _ = (if q.1 = c then q.2 else 0) + tot c r
     rw [if_pos h]
   · rw [List.filter_cons_of_neg (by simpa using h), ih]
     show _ = (if q.1 = c then q.2 else 0) + tot c r
     rw [if_neg h, Int.zero_add]
theorem foldl_pre : ∀ (cs acc : List κ), ∃ T, cs.foldl add acc = acc ++ T
 | [], acc => ⟨[], by simp⟩
 | d :: cs, acc => by
   obtain ⟨T, h⟩ := foldl_pre cs (add acc d)
   rw [List.foldl_cons, h]
   unfold add
   split
   · exact ⟨T, rfl⟩
   · exact ⟨d :: T, by simp⟩
def rs (P : List (κ × Int)) : List (κ × Int) := (firsts (P.map (·.1))).map fun c => (c, tot c P)
end N21
namespace N22
set_option linter.unusedSectionVars false
variable {κ : Type} [DecidableEq κ]
abbrev Rv (κ : Type) := κ × κ × κ × Int
def sumIf (p : Rv κ → Bool) : List (Rv κ) → Int
 | [] => 0
 | z :: r => (if p z = true then z.2.2.2 else 0) + sumIf p r
def sm (g : κ → Int) : List κ → Int
 | [] => 0
 | c :: r => g c + sm g r
theorem sm_add (g h : κ → Int) : ∀ l : List κ, sm (fun c => g c + h c) l = sm g l + sm h l
 | [] => rfl
 | c :: r => by
   show g c + h c + sm (fun c => g c + h c) r = g c + sm g r + (h c + sm h r)
   rw [sm_add g h r]
   omega
theorem sm_congr {g h : κ → Int} : ∀ {l : List κ}, (∀ c ∈ l, g c = h c) → sm g l = sm h l
 | [], _ => rfl
 | c :: r, e => by
   show g c + sm g r = h c + sm h r
   rw [e c List.mem_cons_self, sm_congr fun y hy => e y (List.mem_cons_of_mem _ hy)]
theorem sm_one (g : κ → Int) (c : κ) : ∀ {l : List κ}, l.Nodup → sm (fun d => if d = c then g d else 0) l = if c ∈ l then g c else 0
 | [], _ => by simp [sm]
 | d :: r, h => by
   obtain ⟨h1, h2⟩ := List.nodup_cons.mp h
   show (if d = c then g d else 0) + sm (fun d => if d = c then g d else 0) r = _
   rw [sm_one g c h2]
   by_cases e : d = c
   · subst e
     simp [h1]
   · simp [e, Ne.symm e]
def oneDue (b : κ → κ) (s : κ) (t : κ → κ → Int) (f c : κ) : List (Rv κ) := if t f c ≠ 0 then [(f, b s, c, -t f c), (s, b f, c, t f c)] else []
def rowDue (b : κ → κ) (s : κ) (t : κ → κ → Int) (C : List κ) (f : κ) : List (Rv κ) := C.flatMap (oneDue b s t f)
def dues (b : κ → κ) (s : κ) (t : κ → κ → Int) (T C : List κ) : List (Rv κ) := T.flatMap (rowDue b s t C)
def pFC (f c : κ) : Rv κ → Bool := fun z => decide (z.1 = f) && decide (z.2.2.1 = c)
end N22
namespace N25
set_option linter.unusedSectionVars false
def sg {α : Type} (g : α → Int) : List α → Int
 | [] => 0
 | z :: r => g z + sg g r
theorem sg_zero {α : Type} {g : α → Int} : ∀ {A : List α}, (∀ z ∈ A, g z = 0) → sg g A = 0
 | [], _ => rfl
 | z :: r, e => by
   show g z + sg g r = 0
   rw [e z List.mem_cons_self, sg_zero fun y hy => e y (List.mem_cons_of_mem _ hy)]
   rfl
variable {κ : Type} [DecidableEq κ]
theorem sm_sg (g : κ → Int) : ∀ A : List κ, N22.sm g A = sg g A
 | [] => rfl
 | z :: r => by
   show g z + N22.sm g r = g z + sg g r
   rw [sm_sg g r]
abbrev Lv (κ : Type) := κ × (κ × κ) × Int × Int
def lnv (W : κ → Int → Int) (v : N22.Rv κ) : Lv κ := (v.1, (v.2.1, v.2.2.1), v.2.2.2, W v.2.2.1 v.2.2.2)
def fw (W : κ → Int → Int) (V : List (N22.Rv κ)) : List (κ × Int) := V.map fun v => (v.1, W v.2.2.1 v.2.2.2)
def rone (ro t : κ) (p : κ × Int) : List (Lv κ) := if p.2 ≠ 0 then [(p.1, (ro, t), 0, -p.2)] else []
def rnd (ro t : κ) (P : List (κ × Int)) : List (Lv κ) := (N21.rs P).flatMap (rone ro t)
def lines (W : κ → Int → Int) (ro t : κ) (V : List (N22.Rv κ)) : List (Lv κ) := V.map (lnv W) ++ rnd ro t (fw W V)
theorem total {F : List κ} (nF : F.Nodup) : ∀ P : List (κ × Int), (∀ p ∈ P, p.1 ∈ F) → sg (fun c => N21.tot c P) F = sg (·.2) P
 | [], _ => sg_zero fun _ _ => rfl
 | p :: P, h => by
   have ih := total nF P fun q hq => h q (List.mem_cons_of_mem _ hq)
   have e : sg (fun c => N21.tot c (p :: P)) F = N22.sm (fun d => if d = p.1 then p.2 else 0) F + sg (fun c => N21.tot c P) F := by
     rw [← sm_sg, ← sm_sg, ← N22.sm_add]
     refine N22.sm_congr fun c _ => ?_
     show (if p.1 = c then p.2 else 0) + N21.tot c P = _
     congr 1
     by_cases e : c = p.1
     · rw [if_pos e, if_pos e.symm]
     · rw [if_neg e, if_neg (Ne.symm e)]
   rw [e, ih, N22.sm_one (fun _ => p.2) p.1 nF, if_pos (h p List.mem_cons_self)]
   rfl
def only (a : κ) (V : List (N22.Rv κ)) : List (N22.Rv κ) := V.map fun v => (a, v.2)
end N25
namespace K27
open PySem L2 L3
def top (i : Nat) : Stmt := PySem.Challenge.pw_groupbooks_k27_a_book.main.body.getD i (.Pass ⟨0, 0, 0, 0⟩)
abbrev s_rests_of : Stmt := top 6
abbrev s_month_of : Stmt := top 8
abbrev s_put_together : Stmt := top 9
abbrev s_figures_of : Stmt := top 10
abbrev s_check_entry : Stmt := top 11
abbrev s__law_cell_at : Stmt := top 14
abbrev s__law_whole : Stmt := top 15
abbrev s__law_mix : Stmt := top 16
abbrev s__law_names : Stmt := top 17
abbrev s__law_amount : Stmt := top 19
abbrev s__law_kept : Stmt := top 20
abbrev s__law_lines : Stmt := top 21
abbrev s__law_spoilt : Stmt := top 22
abbrev s__law_due : Stmt := top 23
abbrev s__law_refused : Stmt := top 24
abbrev s__law_by_base : Stmt := top 25
abbrev s__law_entered : Stmt := top 26
abbrev s__law_spots : Stmt := top 27
abbrev s__law_asked : Stmt := top 28
abbrev s__law_look : Stmt := top 29
abbrev s_law : Stmt := top 30
section
variable {P : Program} {w : World} {K : PySem.W.Frag} {mg : Str → Option Value} {base : Heap} {cm : Bool}
def spLaw (K : PySem.W.Frag) : Sp := fun vs H Q _ => ∃ (a : Addr) (ns : List Int), vs = [.ref a] ∧ SqL K H a (ns.map V.int) ∧ ns.length ≤ 63 ∧ (∀ w ∈ ns, PySem.Builtin.Int.intBits w ≤ 2 ^ 20) ∧ ∀ H', Q (.bl true) H'
def spCell (K : PySem.W.Frag) : Sp := fun vs H Q _ => ∃ (a : Addr) (ns : List Int) (k : Nat), vs = [.ref a, .int k] ∧ SqL K H a (ns.map V.int) ∧ Q (.int (ns.getD k 0)) H
def spWhole : Sp := fun vs H Q _ => ∃ i : Int, vs = [.int i] ∧ Q (.bl true) H
theorem same_upd {H : Hp} {p : Addr} {o : HO} (h : H p = none) : Same H (upd H p o) := fun b o' hb => by
 rw [upd_ne (ne_of_none hb h)]
 exact hb
theorem same_set {H0 H : Hp} {p : Addr} {o : HO} (e : Same H0 H) (h : H0 p = none) : Same H0 (upd H p o) := fun b o' hb => by
 rw [upd_ne (ne_of_none hb h)]
 exact e _ _ hb
theorem cut_ints (ws : List Int) (lo hi : Option Int) : ∃ us : List Int, cutV (ws.map V.int) lo hi = us.map V.int ∧ us.length ≤ ws.length ∧ ∀ w ∈ us, w ∈ ws := by
 refine ⟨(ws.drop (HT.sIx ws.length 0 lo)).take (HT.sIx ws.length ws.length hi - HT.sIx ws.length 0 lo), ?_, ?_, fun w hw => List.mem_of_mem_drop (List.mem_of_mem_take hw)⟩
 · unfold cutV
   rw [List.length_map, ← List.map_drop, ← List.map_take]
 · rw [List.length_take, List.length_drop]
   omega
def spMix : Sp := fun vs H Q _ => ∃ c b : Int, vs = [.int c, .int b] ∧ b.natAbs ≤ 2 ^ 62 ∧ ∀ m : Int, 0 ≤ m → m < 2 ^ 31 → Q (.int m) H
def HeadL (x : Str) : Prop := ∃ c, x.cps.toList.head? = some c ∧ 97 ≤ c
def Let (x : Str) : Prop := HeadL x ∧ x.length ≤ 8
theorem app_cps (x y : Str) : (x ++ y).cps.toList = x.cps.toList ++ y.cps.toList := by
 show (x.cps ++ y.cps).toList = _
 simp
def due (x : Str) : Str := ".due." ++ x
def L26 : Str := "abcdefghijklmnopqrstuvwxyz"
theorem l26_at {i : Int} (h0 : 0 ≤ i) (h1 : i < 26) : atI L26.cps.toList i = some (97 + i.toNat) := by
 obtain ⟨n, rfl⟩ := Int.eq_ofNat_of_zero_le h0
 have hn : n < 26 := by omega
 have all : ∀ n, n < 26 → L26.cps.toList[n]? = some (97 + n) := by decide +kernel
 exact atI_nat (all n hn)
theorem l26_len : L26.length ≤ sizeLine := by decide +kernel
theorem sq8 : ∀ i : Nat, i < 8 → 0 ≤ (0 + (i : Int)) * (0 + (i : Int)) ∧ (0 + (i : Int)) * (0 + (i : Int)) ≤ 49 := by decide
theorem str_in {ws : List Str} {i : Int} (h0 : 0 ≤ i) (h1 : i < ws.length) : ∃ w, w ∈ ws ∧ atI (ws.map V.str) i = some (.str w) := by
 obtain ⟨n, rfl⟩ := Int.eq_ofNat_of_zero_le h0
 have hn : n < ws.length := by omega
 exact ⟨ws[n], List.getElem_mem hn, atI_nat (by rw [List.getElem?_map, List.getElem?_eq_getElem hn]; rfl)⟩
theorem str_at {ws : List Str} {n : Nat} (hn : n < ws.length) : atI (ws.map V.str) ((n : Nat) : Int) = some (.str (ws.getD n "")) := atI_nat (by rw [List.getElem?_map, List.getElem?_eq_getElem hn]; simp [List.getD, hn])
theorem int_in {ws : List Int} {i : Int} (h0 : 0 ≤ i) (h1 : i < ws.length) : ∃ w ∈ ws, atI (ws.map V.int) i = some (.int w) := by
 obtain ⟨n, rfl⟩ := Int.eq_ofNat_of_zero_le h0
 have hn : n < ws.length := by omega
 exact ⟨ws[n], List.getElem_mem hn, atI_nat (by rw [List.getElem?_map, List.getElem?_eq_getElem hn]; rfl)⟩
theorem cut_drop (xs : List V) (t : Nat) : cutV xs (some (t : Int)) none = xs.drop (min t xs.length) := by
 unfold cutV
 rw [HT.sIx_nat, HT.sIx_none]
 exact List.take_of_length_le (by rw [List.length_drop]; omega)
theorem cut_take (xs : List V) (t : Nat) : cutV xs none (some (t : Int)) = xs.take (min t xs.length) := by
 unfold cutV
 rw [HT.sIx_nat, HT.sIx_none]
 simp
def sg (c : Nat) : Str := ⟨#[c]⟩
theorem join_cps : ∀ ls : List Nat, (Str.join "" (ls.map sg)).cps.toList = ls
 | [] => rfl
 | [x] => rfl
 | x :: y :: r => by
   show (sg x ++ "" ++ Str.join "" ((y :: r).map sg)).cps.toList = _
   rw [app_cps, app_cps, join_cps (y :: r)]
   rfl
theorem txt_cps (ls : List Nat) : (Txt.join "" (ls.map sg)).cps.toList = ls := by
 unfold Txt.join
 rw [StrLaws.glued_eq_join]
 exact join_cps ls
theorem sg_len {ls : List Nat} : ∀ z ∈ ls.map sg, z.length = 1 := fun z hz => by
 obtain ⟨c, _, rfl⟩ := List.mem_map.mp hz
 rfl
def atN (c : Int) : Nat := (c % 999983 / 24 % (1 + c % 999983 / 3 % 8)).toNat
def Dn (c : Int) (bs : List Int) (i : Nat) (x : Str) : Prop :=
 if c % 999983 % 3 = 1 then x.cps.toList.length = i + 1 else x.cps.toList[atN c]? = some (97 + ((bs.getD (atN c) 0 + (i : Int)) % 26).toNat)
theorem dn_nodup {c : Int} {bs : List Int} {xs : List Str} (hl : xs.length ≤ 8) (h : ∀ j x, xs[j]? = some x → Dn c bs j x) : xs.Nodup := by
 refine List.pairwise_iff_getElem.mpr fun i j hi hj hij e => ?_
 have a := h i xs[i] (List.getElem?_eq_getElem hi)
 have b := h j xs[j] (List.getElem?_eq_getElem hj)
 rw [← e] at b
 unfold Dn at a b
 split at a
 · rename_i z
   rw [if_pos z] at b
   omega
 · rename_i z
   rw [if_neg z] at b
   rw [a] at b
   have := Option.some.inj b
   omega
theorem cut_nd (ws : List Str) (t : Nat) (hn : ws.Nodup) : ∃ us : List Str, cutV (ws.map V.str) (some (t : Int)) none ++ cutV (ws.map V.str) none (some (t : Int)) = us.map V.str ∧ us.length = ws.length ∧ us.Nodup ∧ ∀ w, w ∈ us ↔ w ∈ ws := by
 refine ⟨ws.drop (min t ws.length) ++ ws.take (min t ws.length), ?_, ?_, ?_, fun w => ?_⟩
 · rw [cut_drop, cut_take, List.length_map, List.map_append, List.map_drop, List.map_take]
 · rw [List.length_append, List.length_drop, List.length_take]
   omega
 · have p : (ws.drop (min t ws.length) ++ ws.take (min t ws.length)).Perm ws := by
     have := List.perm_append_comm (l₁ := ws.drop (min t ws.length)) (l₂ := ws.take (min t ws.length))
     rw [List.take_append_drop] at this
     exact this
   exact p.nodup_iff.mpr hn
 · have p : (ws.drop (min t ws.length) ++ ws.take (min t ws.length)).Perm ws := by
     have := List.perm_append_comm (l₁ := ws.drop (min t ws.length)) (l₂ := ws.take (min t ws.length))
     rw [List.take_append_drop] at this
     exact this
   exact p.mem_iff
def Dn5 (c : Int) (bs : List Int) (i : Nat) (x : Str) : Prop := Dn c bs i x ∧ Let x
theorem dn_app5 {c : Int} {bs : List Int} {xs : List Str} {y : Str} (h : ∀ j x, xs[j]? = some x → Dn5 c bs j x) (hy : Dn5 c bs xs.length y) : ∀ j x, (xs ++ [y])[j]? = some x → Dn5 c bs j x := fun j x e => by
 rcases Nat.lt_trichotomy j xs.length with l | l | l
 · rw [List.getElem?_append_left l] at e
   exact h j x e
 · subst l
   rw [List.getElem?_append_right (Nat.le_refl _), Nat.sub_self] at e
   cases e
   exact hy
 · rw [List.getElem?_eq_none (by rw [List.length_append]; show xs.length + 1 ≤ j; omega)] at e
   cases e
theorem let_sg {ls : List Nat} (h1 : 1 ≤ ls.length) (h8 : ls.length ≤ 8) (h : ∀ u ∈ ls, 97 ≤ u) : Let (Txt.join "" (ls.map sg)) := by
 refine ⟨?_, ?_⟩
 · cases ls with
   | nil => simp at h1
   | cons a r => exact ⟨a, by rw [txt_cps]; rfl, h a List.mem_cons_self⟩
 · show (Txt.join "" (ls.map sg)).cps.size ≤ 8
   rw [← Array.length_toList, txt_cps]
   exact h8
theorem at_int0 {ws : List Int} {n : Nat} (hn : n < ws.length) : atI (ws.map V.int) ((n : Nat) : Int) = some (.int (ws.getD n 0)) := atI_nat (by rw [List.getElem?_map, List.getElem?_eq_getElem hn]; simp [List.getD, hn])
def spNames : Sp := fun vs H Q _ => ∃ (c : Int) (m : Nat), vs = [.int c, .int m] ∧ 1 ≤ m ∧ m ≤ 8 ∧ ∀ l (xs : List Str) H', Same H H' → H' l = some (.lst (xs.map V.str)) → xs.length = m → (∀ x ∈ xs, Let x) → xs.Nodup → Q (.ref l) H'
theorem bits_le {a b : Int} {n : Nat} (h : a.natAbs ≤ b.natAbs) (hb : PySem.Builtin.Int.intBits b ≤ n) : PySem.Builtin.Int.intBits a ≤ n := PyProof.Rows.bits_of_natAbs_le h hb
theorem mul_ok7 {c : Int} (h : PySem.Builtin.Int.intBits c ≤ 2 ^ 20) : PySem.IntMulOk (c / 3) ((1000003 : Int) ^ (7 : Int).toNat) :=
 PySem.IntMulOk.of_le (m := 2 ^ 20) (n := 200) (bits_le (by omega) h) (by decide +kernel) (by decide)
theorem m38 (x : Int) : (x % (2 * (10 : Int) ^ (38 : Int).toNat + 1) - (10 : Int) ^ (38 : Int).toNat).natAbs ≤ 2 ^ 127 := by
 show (x % (2 * (10 : Int) ^ 38 + 1) - (10 : Int) ^ 38).natAbs ≤ 2 ^ 127
 omega
def spAmt : Sp := fun vs H Q _ => ∃ c : Int, vs = [.int c] ∧ PySem.Builtin.Int.intBits c ≤ 2 ^ 20 ∧ ∀ a : Int, a.natAbs ≤ 2 ^ 127 → Q (.int a) H
abbrev Sd := Addr × Str × Str × Str × Int
def tupZ (z : Sd) : HO := .tup [.str z.2.1, .str z.2.2.1, .str z.2.2.2.1, .int z.2.2.2.2]
def rfs (L : List Sd) : List V := L.map fun z => .ref z.1
theorem rfs_len (L : List Sd) : (rfs L).length = L.length := List.length_map ..
theorem rfs_app (A B : List Sd) : rfs (A ++ B) = rfs A ++ rfs B := List.map_append ..
theorem rfs_at {L : List Sd} {i : Nat} {x : V} (h : (rfs L)[i]? = some x) : ∃ z, L[i]? = some z ∧ x = .ref z.1 := by
 unfold rfs at h
 rw [List.getElem?_map] at h
 cases e : L[i]? with
 | none => rw [e] at h; cases h
 | some z => rw [e] at h; exact ⟨z, rfl, (Option.some.inj h).symm⟩
def Ro (fs as cs : List Str) (B : Nat) (z : Sd) : Prop := z.2.1 ∈ fs ∧ z.2.2.1 ∈ as ∧ z.2.2.2.1 ∈ cs.take 3 ∧ z.2.2.2.2.natAbs ≤ B
def Rows (fs as cs : List Str) (B : Nat) (H : Hp) (L : List Sd) : Prop := ∀ z ∈ L, H z.1 = some (tupZ z) ∧ Ro fs as cs B z
theorem Rows.same {fs as cs : List Str} {B : Nat} {H H' : Hp} {L : List Sd} (r : Rows fs as cs B H L) (e : Same H H') : Rows fs as cs B H' L := fun z hz => ⟨e _ _ (r z hz).1, (r z hz).2⟩
structure Ls (H : Hp) (fl al cl : Addr) (fs as cs : List Str) : Prop where
 f : H fl = some (.lst (fs.map V.str))
 a : H al = some (.lst (as.map V.str))
 c : H cl = some (.lst (cs.map V.str))
 lf : 1 ≤ fs.length
 la : as.length = 3
 lc : 3 ≤ cs.length
 pf : ∀ x ∈ fs, Let x
 pa : ∀ x ∈ as, Let x
theorem Ls.same {H H' : Hp} {fl al cl : Addr} {fs as cs : List Str} (L : Ls H fl al cl fs as cs) (e : Same H H') : Ls H' fl al cl fs as cs := ⟨e _ _ L.f, e _ _ L.a, e _ _ L.c, L.lf, L.la, L.lc, L.pf, L.pa⟩
def prs (L : List Sd) : List (Str × Int) := L.map fun z => (z.2.2.2.1, z.2.2.2.2)
theorem prs_snoc {L : List Sd} {i : Nat} {z : Sd} (h : L[i]? = some z) : prs (L.take (i + 1)) = prs (L.take i) ++ [(z.2.2.2.1, z.2.2.2.2)] := by
 unfold prs
 rw [List.take_succ, h, List.map_append]
 rfl
theorem prs_len (L : List Sd) : (prs L).length = L.length := List.length_map ..
theorem Rows.le {fs as cs : List Str} {B C : Nat} {H : Hp} {L : List Sd} (r : Rows fs as cs B H L) (h : B ≤ C) : Rows fs as cs C H L := fun z hz => ⟨(r z hz).1, (r z hz).2.1, (r z hz).2.2.1, (r z hz).2.2.2.1, Nat.le_trans (r z hz).2.2.2.2 h⟩
def RT (H : Hp) (L : List Sd) : Prop := ∀ z ∈ L, H z.1 = some (tupZ z)
theorem RT.same {H H' : Hp} {L : List Sd} (r : RT H L) (e : Same H H') : RT H' L := fun z hz => e _ _ (r z hz)
theorem Rows.rt {fs as cs : List Str} {B : Nat} {H : Hp} {L : List Sd} (r : Rows fs as cs B H L) : RT H L := fun z hz => (r z hz).1
abbrev Rw := Addr × Str × Int
def rfr (R : List Rw) : List V := R.map fun z => .ref z.1
def tupR (z : Rw) : HO := .tup [.str z.2.1, .int z.2.2]
theorem rfr_at {L : List Rw} {i : Nat} {x : V} (h : (rfr L)[i]? = some x) : ∃ z, L[i]? = some z ∧ x = .ref z.1 := by
 unfold rfr at h
 rw [List.getElem?_map] at h
 cases e : L[i]? with
 | none => rw [e] at h; cases h
 | some z => rw [e] at h; exact ⟨z, rfl, (Option.some.inj h).symm⟩
theorem val_map {α κ : Type} [DecidableEq α] [DecidableEq κ] (kf : α → κ) (inj : ∀ a b, kf a = kf b → a = b) (g : α → V) (c : α) : ∀ fs : List α, valV (fs.map fun c => (kf c, g c)) (kf c) = if c ∈ fs then some (g c) else none
 | [] => rfl
 | d :: fs => by
   rw [List.map_cons]
   by_cases h : d = c
   · subst h
     rw [valV_pos rfl, if_pos List.mem_cons_self]
   · rw [valV_neg (fun e => h (inj _ _ e)), val_map kf inj g c fs]
     simp [List.mem_cons, Ne.symm h]
theorem put_map {α κ : Type} [DecidableEq α] [DecidableEq κ] (kf : α → κ) (inj : ∀ a b, kf a = kf b → a = b) (g : α → V) (c : α) (v : V) (fs : List α) : putK (fs.map fun c => (kf c, g c)) (kf c) v = (N21.add fs c).map fun d => (kf d, if d = c then v else g d) := by
 unfold putK N21.add
 rw [valV_any, val_map kf inj]
 by_cases h : c ∈ fs
 · rw [if_pos h, if_pos h]
   simp only [Option.isSome_some, if_true, List.map_map]
   refine List.map_congr_left fun d _ => ?_
   by_cases e : d = c
   · subst e
     simp
   · have e2 : ¬ kf d = kf c := fun z => e (inj _ _ z)
     simp [e, e2]
 · rw [if_neg h, if_neg h]
   simp only [Option.isSome_none, Bool.false_eq_true, if_false, List.map_append, List.map_cons, List.map_nil, if_true]
   congr 1
   refine List.map_congr_left fun d hd => ?_
   rw [if_neg (fun e => h (by rw [← e]; exact hd))]
def kvG {α κ : Type} [DecidableEq α] (kf : α → κ) (P : List (α × Int)) : List (κ × V) := (N21.firsts (P.map (·.1))).map fun c => (kf c, V.int (N21.tot c P))
theorem kvG_len {α κ : Type} [DecidableEq α] (kf : α → κ) (P : List (α × Int)) : (kvG kf P).length ≤ P.length := by
 unfold kvG
 rw [List.length_map]
 have := N21.len_firsts (P.map (·.1))
 rw [List.length_map] at this
 exact this
theorem kvG_get {α κ : Type} [DecidableEq α] [DecidableEq κ] (kf : α → κ) (inj : ∀ a b, kf a = kf b → a = b) (P : List (α × Int)) (c : α) : (valV (kvG kf P) (kf c)).getD (.int 0) = .int (N21.tot c P) := by
 unfold kvG
 rw [val_map kf inj (fun c => V.int (N21.tot c P))]
 by_cases h : c ∈ N21.firsts (P.map (·.1))
 · rw [if_pos h]
   rfl
 · rw [if_neg h, N21.tot_not (fun m => h (N21.mem_firsts.mpr m))]
   rfl
theorem kvG_put {α κ : Type} [DecidableEq α] [DecidableEq κ] (kf : α → κ) (inj : ∀ a b, kf a = kf b → a = b) (P : List (α × Int)) (c : α) (am : Int) : putK (kvG kf P) (kf c) (.int (N21.tot c P + am)) = kvG kf (P ++ [(c, am)]) := by
 unfold kvG
 rw [put_map kf inj (fun c => V.int (N21.tot c P)), List.map_append]
 show _ = (N21.firsts (P.map (·.1) ++ [c])).map _
 rw [N21.firsts_snoc]
 refine List.map_congr_left fun d _ => ?_
 rw [N21.tot_snoc]
 by_cases e : d = c
 · subst e
   simp
 · simp [e, Ne.symm e]
def kS : Str → Key := Sum.inr
theorem kS_inj (a b : Str) (h : kS a = kS b) : a = b := Sum.inr.inj h
def kT (p : Str × Str) : List Key := [Sum.inr p.1, Sum.inr p.2]
theorem kv_zip (as : List Addr) (P : List (Str × Int)) (hl : as.length = (kvG kS P).length) : rfr (as.zip (N21.rs P)) = as.map V.ref ∧ (as.zip (N21.rs P)).map (·.2) = N21.rs P := by
 have hl2 : as.length = (N21.rs P).length := by
   rw [hl]
   unfold kvG N21.rs
   rw [List.length_map, List.length_map]
 constructor
 · unfold rfr
   have h : (as.zip (N21.rs P)).map Prod.fst = as := List.map_fst_zip (by omega)
   calc (as.zip (N21.rs P)).map (fun z => V.ref z.1) = ((as.zip (N21.rs P)).map Prod.fst).map V.ref := by rw [List.map_map]; rfl
     _ = as.map V.ref := by rw [h]
 · exact List.map_snd_zip (by omega)
def spRests : Sp := fun vs H Q _ => ∃ (l : Addr) (L : List Sd), vs = [.ref l] ∧ H l = some (.lst (rfs L)) ∧ RT H L ∧ L.length ≤ 30000 ∧
 ∀ (p : Addr) (R : List Rw) H', Same H H' → H p = none → H' p = some (.lst (rfr R)) → R.map (·.2) = N21.rs (prs L) → (∀ z ∈ R, H' z.1 = some (tupR z)) → Q (.ref p) H'
def p2 (L : List Sd) : List ((Str × Str) × Int) := L.map fun z => ((z.2.1, z.2.2.2.1), z.2.2.2.2)
def vls (L : List Sd) : List (N22.Rv Str) := L.map (·.2)
def tf (L : List Sd) (f c : Str) : Int := N22.sumIf (N22.pFC f c) (vls L)
def frm (L : List Sd) : List Str := N21.firsts (L.map (·.2.1))
def dvs (L : List Sd) (cs : List Str) : List (N22.Rv Str) := N22.dues due ((frm L).headD "") (tf L) ((frm L).drop 1) cs
abbrev Pl := Str × Str
abbrev Pr := Pl × Int × Int
abbrev Rw4 := Addr × Pr
def tup4 (z : Rw4) : HO := .tup [.str z.2.1.1, .str z.2.1.2, .int z.2.2.1, .int z.2.2.2]
def rf4 (L : List Rw4) : List V := L.map fun z => .ref z.1
abbrev Ln := Addr × Str × Pr
def tup5 (z : Ln) : HO := .tup [.str z.2.1, .str z.2.2.1.1, .str z.2.2.1.2, .int z.2.2.2.1, .int z.2.2.2.2]
def rf5 (L : List Ln) : List V := L.map fun z => .ref z.1
abbrev Kp := Addr × Addr × Addr × Pr
def rfk (L : List Kp) : List V := L.map fun z => .ref z.1
theorem rf4_len (L : List Rw4) : (rf4 L).length = L.length := List.length_map ..
theorem rf5_len (L : List Ln) : (rf5 L).length = L.length := List.length_map ..
theorem rfk_len (L : List Kp) : (rfk L).length = L.length := List.length_map ..
theorem rf4_app (A B : List Rw4) : rf4 (A ++ B) = rf4 A ++ rf4 B := List.map_append ..
theorem rfk_app (A B : List Kp) : rfk (A ++ B) = rfk A ++ rfk B := List.map_append ..
theorem ref_at {α : Type} {f : α → Addr} {L : List α} {i : Nat} {x : V} (h : (L.map fun z => V.ref (f z))[i]? = some x) : ∃ z, L[i]? = some z ∧ x = .ref (f z) := by
 rw [List.getElem?_map] at h
 cases e : L[i]? with
 | none => rw [e] at h; cases h
 | some z => rw [e] at h; exact ⟨z, rfl, (Option.some.inj h).symm⟩
theorem rf4_at {L : List Rw4} {i : Nat} {x : V} (h : (rf4 L)[i]? = some x) : ∃ z, L[i]? = some z ∧ x = .ref z.1 := ref_at h
theorem rf5_at {L : List Ln} {i : Nat} {x : V} (h : (rf5 L)[i]? = some x) : ∃ z, L[i]? = some z ∧ x = .ref z.1 := ref_at h
theorem rfk_at {L : List Kp} {i : Nat} {x : V} (h : (rfk L)[i]? = some x) : ∃ z, L[i]? = some z ∧ x = .ref z.1 := ref_at h
theorem rf5_pl (L : List Ln) : ∀ z ∈ rf5 L, eqPl z = true := by
 intro z hz
 obtain ⟨y, _, rfl⟩ := List.mem_map.mp hz
 rfl
theorem take_nx {α : Type} {L : List α} {i : Nat} {z : α} (h : L[i]? = some z) : L.take (i + 1) = L.take i ++ [z] := by
 rw [List.take_succ, h]
 rfl
def pA (P : List Pr) : List (Pl × Int) := P.map fun p => (p.1, p.2.1)
def pW (P : List Pr) : List (Pl × Int) := P.map fun p => (p.1, p.2.2)
def kys (P : List Pr) : List Pl := N21.firsts (P.map (·.1))
def ta (P : List Pr) (k : Pl) : Int := N21.tot k (pA P)
def tw (P : List Pr) (k : Pl) : Int := N21.tot k (pW P)
def kk (k : Pl) : List Key := [Sum.inr k.1, Sum.inr k.2]
theorem kk_inj {k l : Pl} (h : kk k = kk l) : k = l := by
 unfold kk at h
 simp at h
 exact Prod.ext h.1 h.2
theorem ta_snoc (P : List Pr) (p : Pr) (k : Pl) : ta (P ++ [p]) k = ta P k + (if p.1 = k then p.2.1 else 0) := by
 unfold ta pA
 rw [List.map_append]
 exact N21.tot_snoc k (p.1, p.2.1) _
theorem tw_snoc (P : List Pr) (p : Pr) (k : Pl) : tw (P ++ [p]) k = tw P k + (if p.1 = k then p.2.2 else 0) := by
 unfold tw pW
 rw [List.map_append]
 exact N21.tot_snoc k (p.1, p.2.2) _
theorem kys_snoc (P : List Pr) (p : Pr) : kys (P ++ [p]) = N21.add (kys P) p.1 := by
 unfold kys
 rw [List.map_append]
 exact N21.firsts_snoc _ _
theorem ta_not {P : List Pr} {k : Pl} (h : k ∉ kys P) : ta P k = 0 ∧ tw P k = 0 := by
 have h1 : k ∉ P.map (·.1) := fun m => h (N21.mem_firsts.mpr m)
 constructor
 · refine N21.tot_not (P := pA P) ?_
   unfold pA
   rw [List.map_map]
   exact h1
 · refine N21.tot_not (P := pW P) ?_
   unfold pW
   rw [List.map_map]
   exact h1
def kvT (A : Pl → Addr) (P : List Pr) : List (List Key × V) := (kys P).map fun k => (kk k, V.ref (A k))
theorem kvT_len (A : Pl → Addr) (P : List Pr) : (kvT A P).length ≤ P.length := by
 unfold kvT kys
 rw [List.length_map]
 have := N21.len_firsts (P.map (·.1))
 rw [List.length_map] at this
 exact this
theorem val_mapP (g : Pl → V) (c : Pl) : ∀ fs : List Pl, valV (fs.map fun c => (kk c, g c)) (kk c) = if c ∈ fs then some (g c) else none
 | [] => rfl
 | d :: fs => by
   rw [List.map_cons]
   by_cases h : d = c
   · subst h
     rw [valV_pos rfl, if_pos List.mem_cons_self]
   · rw [valV_neg (fun e => h (kk_inj e)), val_mapP g c fs]
     simp [List.mem_cons, Ne.symm h]
theorem put_mapP (g : Pl → V) (c : Pl) (v : V) (fs : List Pl) : putK (fs.map fun c => (kk c, g c)) (kk c) v = (N21.add fs c).map fun d => (kk d, if d = c then v else g d) := by
 unfold putK N21.add
 rw [valV_any, val_mapP]
 by_cases h : c ∈ fs
 · rw [if_pos h, if_pos h]
   simp only [Option.isSome_some, if_true, List.map_map]
   refine List.map_congr_left fun d _ => ?_
   by_cases e : d = c
   · subst e
     simp
   · have e2 : ¬ kk d = kk c := fun z => e (kk_inj z)
     simp [e, e2]
 · rw [if_neg h, if_neg h]
   simp only [Option.isSome_none, Bool.false_eq_true, if_false, List.map_append, List.map_cons, List.map_nil, if_true]
   congr 1
   refine List.map_congr_left fun d hd => ?_
   rw [if_neg (fun e => h (by rw [← e]; exact hd))]
theorem kvT_val {A : Pl → Addr} {P : List Pr} {k : Pl} (h : k ∈ kys P) : valV (kvT A P) (kk k) = some (.ref (A k)) := by
 unfold kvT
 rw [val_mapP (fun k => V.ref (A k)), if_pos h]
theorem kvT_put (A : Pl → Addr) (P : List Pr) (p : Pr) (n : Addr) : putK (kvT A P) (kk p.1) (.ref n) = kvT (fun k => if k = p.1 then n else A k) (P ++ [p]) := by
 unfold kvT
 rw [put_mapP (fun k => V.ref (A k)), kys_snoc]
 refine List.map_congr_left fun d _ => ?_
 by_cases e : d = p.1
 · simp [e]
 · simp [e]
def two (x y : Int) : HO := .tup [.int x, .int y]
def Sums (H : Hp) (d : Addr) (P : List Pr) (A : Pl → Addr) : Prop := H d = some (.dT (kvT A P)) ∧ ∀ k ∈ kys P, H (A k) = some (two (ta P k) (tw P k))
theorem Sums.same {H H' : Hp} {d : Addr} {P : List Pr} {A : Pl → Addr} (S : Sums H d P A) (e : Same H H') : Sums H' d P A := ⟨e _ _ S.1, fun k hk => e _ _ (S.2 k hk)⟩
theorem Sums.get {H : Hp} {d z : Addr} {P : List Pr} {A : Pl → Addr} (S : Sums H d P A) (k : Pl) (hz : H z = some (two 0 0)) : ∃ s, (valV (kvT A P) (kk k)).getD (.ref z) = .ref s ∧ H s = some (two (ta P k) (tw P k)) := by
 by_cases h : k ∈ kys P
 · exact ⟨A k, by rw [kvT_val h]; rfl, S.2 k h⟩
 · refine ⟨z, ?_, ?_⟩
   · unfold kvT
     rw [val_mapP (fun k => V.ref (A k)), if_neg h]
     rfl
   · rw [(ta_not h).1, (ta_not h).2]
     exact hz
theorem Sums.put {H : Hp} {d n : Addr} {P : List Pr} {A : Pl → Addr} {p : Pr} (S : Sums H d P A) (hn : H n = some (two (ta P p.1 + p.2.1) (tw P p.1 + p.2.2))) : Sums (upd H d (.dT (putK (kvT A P) (kk p.1) (.ref n)))) d (P ++ [p]) (fun k => if k = p.1 then n else A k) := by
 refine ⟨by rw [upd_same, kvT_put], fun k hk => ?_⟩
 have keep : ∀ z o, H z = some (.tup o) → upd H d (.dT (putK (kvT A P) (kk p.1) (.ref n))) z = some (.tup o) := fun z o hz => by
   rw [upd_ne (ne_of hz S.1 (by intro z; cases z))]
   exact hz
 rw [ta_snoc, tw_snoc]
 by_cases e : k = p.1
 · subst e
   show upd H d (.dT (putK (kvT A P) (kk p.1) (.ref n))) (if p.1 = p.1 then n else A p.1) = _
   rw [if_pos rfl, if_pos rfl, if_pos rfl]
   exact keep _ _ hn
 · show upd H d (.dT (putK (kvT A P) (kk p.1) (.ref n))) (if k = p.1 then n else A k) = _
   rw [if_neg e, if_neg (Ne.symm e), if_neg (Ne.symm e), Int.add_zero, Int.add_zero]
   refine keep _ _ (S.2 k ?_)
   rw [kys_snoc] at hk
   unfold N21.add at hk
   split at hk
   · exact hk
   · rcases List.mem_append.mp hk with m | m
     · exact m
     · exact absurd (List.mem_singleton.mp m) e
theorem kvT_keys (A : Pl → Addr) (P : List Pr) : (kvT A P).map (·.1) = (kys P).map (fun k => [Sum.inr k.1, Sum.inr k.2]) := by
 unfold kvT
 rw [List.map_map]
 rfl
theorem kys_len (P : List Pr) : (kys P).length ≤ P.length := by
 unfold kys
 have := N21.len_firsts (P.map (·.1))
 rw [List.length_map] at this
 exact this
def nz (P : List Pr) (k : Pl) : Bool := !decide ([ta P k, tw P k] = [0, 0])
def fg (P : List Pr) (ks : List Pl) : List Pr := (ks.filter (nz P)).map fun k => (k, ta P k, tw P k)
def Fig (P : List Pr) (gs : List Pr) : Prop := ∃ ks : List Pl, ks.Perm (kys P) ∧ ks.Pairwise (fun a b => ltP a b = true) ∧ gs = fg P ks
theorem fig_len {P gs : List Pr} (h : Fig P gs) : gs.length ≤ P.length := by
 obtain ⟨ks, p, _, rfl⟩ := h
 unfold fg
 rw [List.length_map]
 have a := List.length_filter_le (nz P) ks
 have b := p.length_eq
 have c := kys_len P
 omega
theorem fig_one {P gs hs : List Pr} (h1 : Fig P gs) (h2 : Fig P hs) : gs = hs := by
 obtain ⟨ks, p1, w1, rfl⟩ := h1
 obtain ⟨ls, p2, w2, rfl⟩ := h2
 rw [ltP_uniq (p1.trans p2.symm) w1 w2]
theorem fg_nx {P : List Pr} {ks : List Pl} {i : Nat} {k : Pl} (h : ks[i]? = some k) : fg P (ks.take (i + 1)) = if nz P k = true then fg P (ks.take i) ++ [(k, ta P k, tw P k)] else fg P (ks.take i) := by
 unfold fg
 rw [take_nx h, List.filter_append, List.map_append]
 by_cases z : nz P k = true
 · rw [if_pos z, List.filter_cons_of_pos z]
   rfl
 · rw [if_neg z, List.filter_cons_of_neg z]
   simp
theorem tup_keepL {H : Hp} {p : Addr} {xs ys : List V} {z : Addr} {o : List V} (h : H z = some (.tup o)) (hp : H p = some (.lst xs)) : upd H p (.lst ys) z = some (.tup o) := by
 rw [upd_ne (ne_of h hp (by intro z; cases z))]
 exact h
theorem join1 {α : Type} {G : Prop} (F P : α → Prop) (hm : (∀ x, F x → P x) → G) (hr : ∀ x, F x → P x) : G := hm hr
def R4 (H : Hp) (R : List Rw4) : Prop := ∀ z ∈ R, H z.1 = some (tup4 z)
def R5 (H : Hp) (L : List Ln) : Prop := ∀ z ∈ L, H z.1 = some (tup5 z)
theorem R4.same {H H' : Hp} {R : List Rw4} (h : R4 H R) (e : Same H H') : R4 H' R := fun z hz => e _ _ (h z hz)
theorem R5.same {H H' : Hp} {R : List Ln} (h : R5 H R) (e : Same H H') : R5 H' R := fun z hz => e _ _ (h z hz)
def RK (H : Hp) (Z : List Kp) : Prop := ∀ z ∈ Z, H z.1 = some (.tup [.ref z.2.1, .ref z.2.2.1]) ∧ H z.2.1 = some (.tup [.str z.2.2.2.1.1, .str z.2.2.2.1.2]) ∧ H z.2.2.1 = some (two z.2.2.2.2.1 z.2.2.2.2.2)
theorem RK.same {H H' : Hp} {R : List Kp} (h : RK H R) (e : Same H H') : RK H' R := fun z hz => ⟨e _ _ (h z hz).1, e _ _ (h z hz).2.1, e _ _ (h z hz).2.2⟩
theorem sc_rests_of : FnScope ["sides", "rests", "firm", "account", "coin", "amount"] ["sides"] (defScope s_rests_of) := ⟨rfl, rfl, rfl, by decide +kernel, rfl, by decide +kernel, by decide +kernel⟩
theorem ok_rests_of (D : Def K mg "rests_of" s_rests_of .none) (z_list : mg "list" = none) : Cal P w K mg base CX0 true 1 "rests_of" ["sides"] [] spRests := by
 obtain ⟨f, fd, F, hm⟩ := D
 refine ⟨f, fd, _, F.ok sc_rests_of (fun vs H Q E h => ?_) (fun cdv A outer s H vs Q E hr h => ?_), hm, F.kp, (F.binds fun _ _ _ _ _ _ us hl => match us, hl with | [_], _ => rfl), .nil, F.binds fun _ _ _ _ _ _ us hl => match us, hl with | [_], _ => rfl⟩
 · obtain ⟨l, L, rfl, hl, hL, hlen, q⟩ := h
   rfl
 obtain ⟨l, L, rfl, hl, hL, hlen, q⟩ := h
 have nd := sc_rests_of.nd
 refine ⟨_, (pss_cons (ps_set (i := 1) nd rfl (Or.inl rfl) pe_dnewK)
   (pss_cons (ps_for PassesOwn.never rfl (pi_list (pv 0)) (pg_tup rfl (pgs_cons (pg_name (i := 2) nd rfl (Or.inl rfl)) (pgs_cons (pg_name (i := 3) nd rfl (Or.inl rfl)) (pgs_cons (pg_name (i := 4) nd rfl (Or.inl rfl)) (pgs_cons (pg_name (i := 5) nd rfl (Or.inl rfl)) pgs_nil))))) (pss_one (ps_dput (hu_of hr) (pv 1) (pv 4) (pe_op op_add (pe_dget2 (hu_of hr) (pv 1) (pv 4) pe_int ⟨rfl, rfl, rfl, rfl⟩) (pv 5)) rfl)))
   (pss_one (ps_ret (pe_callTy (call_list_items rfl) rfl z_list bt_list (pa_cons (pe_bm0 PySem.F.plainAttrs_dict PySem.F.slot_dict_items PySem.F.type_dict_items mt_items (pv 1)) pa_nil)))))), ?_⟩
 have hline : 10 ^ 6 ≤ sizeLine := by decide
 refine fun d hd => ?_
 have e1 := same_upd (o := .dK []) hd
 refine ⟨_, rfl, l, rfl, ⟨_, SqL.of (e1 _ _ hl)⟩, ?_⟩
 refine for_list (xs := rfs L) (fun i σ H' => ∃ (o2 o3 o4 o5 : Option V), σ = [some (.ref l), some (.ref d), o2, o3, o4, o5] ∧ Same H H' ∧ H' d = some (.dK (kvG kS (prs (L.take i))))) ⟨_, _, _, _, rfl, e1, upd_same⟩ ?_ ?_ ?_
 · rintro i σ H1 hi ⟨o2, o3, o4, o5, rfl, e, _⟩
   exact SqL.of (e _ _ hl)
 · rintro i x σ H1 hx ⟨o2, o3, o4, o5, rfl, e, hdd⟩
   obtain ⟨z, hz, rfl⟩ := rfs_at hx
   have hzz := e _ _ (hL z (List.mem_of_getElem? hz))
   have hkl := kvG_len kS (prs (L.take i))
   rw [prs_len, List.length_take] at hkl
   refine ⟨z.1, _, rfl, SqT.of hzz, rfl, _, _, rfl, _, _, rfl, _, _, rfl, _, _, rfl, rfl, ?_⟩
   refine ⟨_, rfl, d, rfl, .inl ⟨_, .inl hdd⟩, _, rfl, _, DGet.k (k := kS z.2.2.2.1) hdd, _, rfl, _, _, kvG_get kS kS_inj _ _, rfl, _, rfl, _, rfl, d, _, rfl, DPut.k (k := kS z.2.2.2.1) hdd (by omega), ?_⟩
   refine ⟨_, _, _, _, rfl, same_set e hd, ?_⟩
   rw [upd_same, kvG_put kS kS_inj, prs_snoc hz]
 rintro σ H1 ⟨o2, o3, o4, o5, rfl, e, hdd⟩
 rw [rfs_len, List.take_length] at hdd
 refine ⟨_, rfl, .inr (.inr (.inl ⟨rfl, .inl ⟨_, hdd⟩⟩)), d, _, rfl, rfl, hdd, fun v hv => ?_⟩
 have e2 := same_upd (o := ivw v d) hv
 refine ⟨v, d, _, rfl, upd_same, e2 _ _ hdd, fun p as H' e3 hp0 hp hal hpr => ?_⟩
 obtain ⟨z1, z2⟩ := kv_zip as (prs L) hal
 refine q p (as.zip (N21.rs (prs L))) H' ((e.trans e2).trans e3) ((e.trans e2).free hp0) (by rw [z1]; exact hp) z2 fun z hz => ?_
 obtain ⟨j, hj⟩ := List.mem_iff_getElem?.mp hz
 have hj1 : as[j]? = some z.1 := by
   have := congrArg (Option.map Prod.fst) hj
   rw [← List.getElem?_map] at this
   rw [List.map_fst_zip (by rw [hal]; unfold kvG N21.rs; rw [List.length_map, List.length_map]; exact Nat.le_refl _)] at this
   exact this
 have hj2 : (N21.rs (prs L))[j]? = some z.2 := by
   have := congrArg (Option.map Prod.snd) hj
   rw [← List.getElem?_map] at this
   rw [List.map_snd_zip (by rw [hal]; unfold kvG N21.rs; rw [List.length_map, List.length_map]; exact Nat.le_refl _)] at this
   exact this
 have hj3 : (kvG kS (prs L))[j]? = some (kS z.2.1, V.int z.2.2) := by
   unfold N21.rs at hj2
   unfold kvG
   rw [List.getElem?_map] at hj2 ⊢
   cases h : (N21.firsts ((prs L).map (·.1)))[j]? with
   | none => rw [h] at hj2; cases hj2
   | some c =>
     rw [h] at hj2
     rw [← Option.some.inj hj2]
     rfl
 exact hpr j z.1 _ hj1 hj3
def spPut : Sp := fun vs H Q _ => ∃ (l : Addr) (R : List Rw4), vs = [.ref l] ∧ H l = some (.lst (rf4 R)) ∧ R4 H R ∧ R.length ≤ 200000 ∧ (kys (R.map (·.2))).length < 64 ∧
 ∀ (p : Addr) (F : List Rw4) H', Same H H' → H p = none → H' p = some (.lst (rf4 F)) → R4 H' F → Fig (R.map (·.2)) (F.map (·.2)) → Q (.ref p) H'
def spFigs : Sp := fun vs H Q _ => ∃ (l : Addr) (L : List Ln), vs = [.ref l] ∧ H l = some (.lst (rf5 L)) ∧ R5 H L ∧ L.length ≤ 200000 ∧ (kys (L.map (·.2.2))).length < 64 ∧
 ∀ (p : Addr) (F : List Rw4) H', Same H H' → H p = none → H' p = some (.lst (rf4 F)) → R4 H' F → Fig (L.map (·.2.2)) (F.map (·.2)) → Q (.ref p) H'
def mV : Option Int → V
 | none => .non
 | some m => .int m
def okM (m : Option Int) (d : Int) : Bool := match m with
 | none => true
 | some m => decide (d / 30 ≤ m)
def prsL (L : List Ln) : List (Str × Int) := L.map fun z => (z.2.2.1.2, z.2.2.2.1)
def wrs (L : List Ln) : List Int := L.map fun z => z.2.2.2.2
structure Good (f : Str) (L : List Ln) : Prop where
 f : ∀ z ∈ L, z.2.1 = f
 c : ∀ k, N21.tot k (prsL L) = 0
 w : (wrs L).sum = 0
 n : L.length ≤ 1000
def spMon : Sp := fun vs H Q _ => ∃ d : Int, vs = [.int d] ∧ Q (.int (d / 30)) H
structure KB0 (C : Addr) (H : Hp) (p kl : Addr) (f : Str) : Prop where
 ob : ∃ dx fs, H p = some (.ins C dx fs) ∧ fs.lookup ("book" : Str) = some (.str f) ∧ fs.lookup ("kept" : Str) = some (.ref kl) ∧ ∀ m ∈ (["may_enter", "post", "entries", "spots", "lines_upto", "figures"] : List Str), fs.lookup m = none
theorem KB0.same {C : Addr} {H H' : Hp} {p kl : Addr} {f : Str} (h : KB0 C H p kl f) (e : Same H H') : KB0 C H' p kl f := by
 obtain ⟨dx, fs, hp, r⟩ := h.ob
 exact ⟨dx, fs, e _ _ hp, r⟩
def spMay0 (C : Addr) : Sp := fun vs H Q _ => ∃ (p : Addr) (d : Int), vs = [.ref p, .int d] ∧ Q .non H
abbrev En := Addr × Int × Int × Addr × List Ln
def rfE (E : List En) : List V := E.map fun z => .ref z.1
def EnL (H : Hp) (E : List En) : Prop := ∀ e ∈ E, H e.1 = some (.tup [.int e.2.1, .int e.2.2.1, .ref e.2.2.2.1]) ∧ H e.2.2.2.1 = some (.tup (rf5 e.2.2.2.2)) ∧ R5 H e.2.2.2.2 ∧ e.2.2.2.2.length ≤ 1000
theorem EnL.same {H H' : Hp} {E : List En} (h : EnL H E) (e : Same H H') : EnL H' E := fun z hz => ⟨e _ _ (h z hz).1, e _ _ (h z hz).2.1, (h z hz).2.2.1.same e, (h z hz).2.2.2⟩
abbrev Dl := List (Int × List Ln)
def dl (E : List En) : Dl := E.map fun e => (e.2.1, e.2.2.2.2)
def upto (D : Dl) (m : Option Int) : List Ln := D.flatMap fun d => if okM m d.1 = true then d.2 else []
theorem upto_len {D : Dl} {m : Option Int} (h : ∀ d ∈ D, d.2.length ≤ 1000) : (upto D m).length ≤ 1000 * D.length := by
 induction D with
 | nil => exact Nat.le_refl _
 | cons d r ih =>
   have a := ih fun z hz => h z (List.mem_cons_of_mem _ hz)
   have b := h d List.mem_cons_self
   unfold upto at a ⊢
   rw [List.flatMap_cons, List.length_append, List.length_cons]
   split
   · omega
   · show 0 + _ ≤ _
     omega
def numL (i : Int) (j : Nat) : List Ln → List ((Int × Int) × Ln)
 | [] => []
 | z :: r => ((i, (j : Int)), z) :: numL i (j + 1) r
theorem numL_app (i : Int) : ∀ (A B : List Ln) (j : Nat), numL i j (A ++ B) = numL i j A ++ numL i (j + A.length) B
 | [], B, j => rfl
 | z :: A, B, j => by
   show ((i, (j : Int)), z) :: numL i (j + 1) (A ++ B) = ((i, (j : Int)), z) :: (numL i (j + 1) A ++ _)
   rw [numL_app i A B (j + 1), List.length_cons, show j + 1 + A.length = j + (A.length + 1) by omega]
theorem numL_map (i : Int) : ∀ (A : List Ln) (j : Nat), (numL i j A).map (·.2) = A
 | [], _ => rfl
 | z :: A, j => congrArg (z :: ·) (numL_map i A (j + 1))
theorem numL_nx {i : Int} {L : List Ln} {j : Nat} {y : Ln} (h : L[j]? = some y) : numL i 0 (L.take (j + 1)) = numL i 0 (L.take j) ++ [((i, (j : Int)), y)] := by
 have hj : j < L.length := (List.getElem?_eq_some_iff.mp h).1
 rw [take_nx h, numL_app, List.length_take, Nat.min_eq_left (by omega), Nat.zero_add]
 rfl
def spF (m : Option Int) (i : Nat) : Dl → List ((Int × Int) × Ln)
 | [] => []
 | d :: r => (if okM m d.1 = true then numL i 0 d.2 else []) ++ spF m (i + 1) r
theorem spF_app (m : Option Int) : ∀ (A B : Dl) (i : Nat), spF m i (A ++ B) = spF m i A ++ spF m (i + A.length) B
 | [], B, i => rfl
 | d :: A, B, i => by
   show _ ++ spF m (i + 1) (A ++ B) = (_ ++ spF m (i + 1) A) ++ _
   rw [spF_app m A B (i + 1), List.length_cons, show i + 1 + A.length = i + (A.length + 1) by omega, List.append_assoc]
def spD (D : Dl) (m : Option Int) : List ((Int × Int) × Ln) := spF m 0 D
theorem spD_nx {D : Dl} {i : Nat} {d : Int × List Ln} {m : Option Int} (h : D[i]? = some d) : spD (D.take (i + 1)) m = spD (D.take i) m ++ (if okM m d.1 = true then numL i 0 d.2 else []) := by
 have hi : i < D.length := (List.getElem?_eq_some_iff.mp h).1
 unfold spD
 rw [take_nx h, spF_app, List.length_take, Nat.min_eq_left (by omega), Nat.zero_add]
 show _ ++ ((if okM m d.1 = true then numL i 0 d.2 else []) ++ []) = _
 rw [List.append_nil]
theorem spF_map (m : Option Int) : ∀ (D : Dl) (i : Nat), (spF m i D).map (·.2) = upto D m
 | [], _ => rfl
 | d :: r, i => by
   show ((if okM m d.1 = true then numL i 0 d.2 else []) ++ spF m (i + 1) r).map (·.2) = (if okM m d.1 = true then d.2 else []) ++ upto r m
   rw [List.map_append, spF_map m r (i + 1)]
   congr 1
   split
   · exact numL_map ..
   · rfl
theorem spD_map (D : Dl) (m : Option Int) : (spD D m).map (·.2) = upto D m := spF_map m D 0
theorem spD_len (D : Dl) (m : Option Int) : (spD D m).length = (upto D m).length := by
 rw [← spD_map, List.length_map]
abbrev Tp := Addr × (Int × Int) × Ln
def rfT (T : List Tp) : List V := T.map fun z => .ref z.1
def TpL (H : Hp) (f : Str) (T : List Tp) : Prop := ∀ z ∈ T, ∃ s, H z.1 = some (.tup [.ref s, .ref z.2.2.1]) ∧ H s = some (.tup [.str f, .int z.2.1.1, .int z.2.1.2])
theorem TpL.same {H H' : Hp} {f : Str} {T : List Tp} (h : TpL H f T) (e : Same H H') : TpL H' f T := fun z hz => by
 obtain ⟨s, h1, h2⟩ := h z hz
 exact ⟨s, e _ _ h1, e _ _ h2⟩
theorem rfE_len (L : List En) : (rfE L).length = L.length := List.length_map ..
theorem rfT_len (L : List Tp) : (rfT L).length = L.length := List.length_map ..
theorem rfE_at {L : List En} {i : Nat} {x : V} (h : (rfE L)[i]? = some x) : ∃ z, L[i]? = some z ∧ x = .ref z.1 := ref_at h
theorem rfT_at {L : List Tp} {i : Nat} {x : V} (h : (rfT L)[i]? = some x) : ∃ z, L[i]? = some z ∧ x = .ref z.1 := ref_at h
theorem rfT_app (A B : List Tp) : rfT (A ++ B) = rfT A ++ rfT B := List.map_append ..
def spSpots0 (C : Addr) : Sp := fun vs H Q _ => ∃ (p kl : Addr) (f : Str) (m : Option Int) (E : List En), vs = [.ref p, mV m] ∧ KB0 C H p kl f ∧ H kl = some (.lst (rfE E)) ∧ EnL H E ∧ E.length ≤ 12 ∧
 ∀ (r : Addr) (T : List Tp) H', Same H H' → H r = none → H' r = some (.lst (rfT T)) → TpL H' f T → T.map (·.2) = spD (dl E) m → Q (.ref r) H'
def spUpto0 (C : Addr) : Sp := fun vs H Q _ => ∃ (p kl : Addr) (f : Str) (m : Option Int) (E : List En), vs = [.ref p, mV m] ∧ KB0 C H p kl f ∧ H kl = some (.lst (rfE E)) ∧ EnL H E ∧ E.length ≤ 12 ∧
 ∀ (r : Addr) H', Same H H' → H r = none → H' r = some (.lst (rf5 (upto (dl E) m))) → Q (.ref r) H'
def spFigures0 (C : Addr) : Sp := fun vs H Q _ => ∃ (p kl : Addr) (f : Str) (m : Option Int) (E : List En), vs = [.ref p, mV m] ∧ KB0 C H p kl f ∧ H kl = some (.lst (rfE E)) ∧ EnL H E ∧ E.length ≤ 12 ∧ (kys ((upto (dl E) m).map (·.2.2))).length < 64 ∧
 ∀ (r : Addr) (F : List Rw4) H', Same H H' → H r = none → H' r = some (.lst (rf4 F)) → R4 H' F → Fig ((upto (dl E) m).map (·.2.2)) (F.map (·.2)) → Q (.ref r) H'
def spBkI (C : Addr) : Sp := fun vs H Q _ => ∃ (p dx : Addr) (f : Str), vs = [.ref p, .str f] ∧ H p = some (.ins C dx []) ∧ ∀ kl H', H kl = none → kl ≠ p → KB0 C H' p kl f → H' kl = some (.lst []) → (∀ b o, H b = some o → b ≠ p → H' b = some o) → Q .non H'
theorem bk_ne : ¬ (("book" : Str) = "kept") := by decide +kernel
def dueC (f : Str) (L : List Ln) : Option (Str ⊕ (Str × Int)) := match L.find? (fun z => decide (z.2.1 ≠ f)) with
 | some z => some (.inl z.2.1)
 | none => match (N21.rs (prsL L)).find? (fun p => decide (p.2 ≠ 0)) with
   | some p => some (.inr p)
   | none => if (wrs L).sum = 0 then none else some (.inr ("", (wrs L).sum))
def xf1 (n : V) : List (Str × V) := putF "name" n []
def xf3 (b c r : V) : List (Str × V) := putF "rest" r (putF "coin" c (putF "book" b []))
theorem xf3_len (b c : V) : (putF "coin" c (putF "book" b [])).length < 1000 := by
 have h : (putF "coin" c (putF "book" b [])).map (·.1) = (putF "coin" V.non (putF "book" V.non [])).map (·.1) := rfl
 have := congrArg List.length h
 rw [List.length_map, List.length_map] at this
 rw [this]
 decide +kernel
theorem xf1_name (n : V) : (xf1 n).lookup ("name" : Str) = some n := by
 unfold xf1
 rw [lookup_putF, if_pos rfl]
theorem xf3_book (b c r : V) : (xf3 b c r).lookup ("book" : Str) = some b := by
 unfold xf3
 rw [lookup_putF, if_neg (by decide +kernel), lookup_putF, if_neg (by decide +kernel), lookup_putF, if_pos rfl]
theorem xf3_coin (b c r : V) : (xf3 b c r).lookup ("coin" : Str) = some c := by
 unfold xf3
 rw [lookup_putF, if_neg (by decide +kernel), lookup_putF, if_pos rfl]
theorem xf3_rest (b c r : V) : (xf3 b c r).lookup ("rest" : Str) = some r := by
 unfold xf3
 rw [lookup_putF, if_pos rfl]
def spX1 (C : Addr) : Sp := fun vs H Q _ => ∃ (x : Addr) (u0 : V), vs = [.ref x, u0] ∧ H x = some (bareO x (.ref C) none) ∧ ∀ d H', H d = none → d ≠ x → H' d = some (.xd (xf1 u0)) → H' x = some (bareO x (.ref C) (some d)) → (∀ y o, H y = some o → y ≠ x → H' y = some o) → Q .non H'
def spX3 (C : Addr) : Sp := fun vs H Q _ => ∃ (x : Addr) (u0 u1 u2 : V), vs = [.ref x, u0, u1, u2] ∧ H x = some (bareO x (.ref C) none) ∧ ∀ d H', H d = none → d ≠ x → H' d = some (.xd (xf3 u0 u1 u2)) → H' x = some (bareO x (.ref C) (some d)) → (∀ y o, H y = some o → y ≠ x → H' y = some o) → Q .non H'
theorem after_x {H H' : Hp} {x : Addr} {o : HO} (hx0 : H x = none) (keep : ∀ y o', upd H x o y = some o' → y ≠ x → H' y = some o') : Same H (fun b => if b = x then none else H' b) := fun b o' hb => by
 have n := ne_of_none hb hx0
 show (if b = x then none else H' b) = some o'
 rw [if_neg n]
 exact keep b o' (by rw [upd_ne n]; exact hb) n
theorem find_at {α : Type} {p : α → Bool} : ∀ {xs : List α} {i : Nat} {a : α}, (∀ y ∈ xs.take i, p y = false) → xs[i]? = some a → p a = true → xs.find? p = some a
 | [], i, a, _, h, _ => by simp at h
 | x :: xs, 0, a, _, h, hp => by
   cases h
   simp [List.find?_cons, hp]
 | x :: xs, i + 1, a, h1, h2, hp => by
   have hx : p x = false := h1 x List.mem_cons_self
   rw [List.find?_cons, hx]
   exact find_at (fun y hy => h1 y (List.mem_cons_of_mem _ hy)) (by simpa using h2) hp
theorem take_snoc {α : Type} {P : α → Prop} {xs : List α} {i : Nat} {a : α} (h : ∀ y ∈ xs.take i, P y) (hx : xs[i]? = some a) (ha : P a) : ∀ y ∈ xs.take (i + 1), P y := fun y hy => by
 rw [List.take_succ, hx] at hy
 rcases List.mem_append.mp hy with m | m
 · exact h y m
 · rw [List.mem_singleton.mp m]
   exact ha
def spChkE (CN CU : Addr) : Sp := fun vs H Q E => ∃ (f : Str) (l : Addr) (L : List Ln), vs = [.str f, .ref l] ∧ H l = some (.lst (rf5 L)) ∧ R5 H L ∧ L.length ≤ 5 ∧
 (∀ n, dueC f L = some (.inl n) → ∀ e H', Same H H' → H' e = some (.xd (xf1 (.str n))) → E (.ref CN) (some e) H') ∧
 (∀ c r, dueC f L = some (.inr (c, r)) → ∀ e H', Same H H' → H' e = some (.xd (xf3 (.str f) (.str c) (.int r))) → E (.ref CU) (some e) H') ∧
 (dueC f L = none → ∀ H', Same H H' → Q .non H')
def de (E : List En) : List (Int × Int × List Ln) := E.map fun e => (e.2.1, e.2.2.1, e.2.2.2.2)
theorem rfE_app (A B : List En) : rfE (A ++ B) = rfE A ++ rfE B := List.map_append ..
def TeL (H : Hp) (T : List En) : Prop := ∀ e ∈ T, H e.1 = some (.tup [.int e.2.1, .int e.2.2.1, .ref e.2.2.2.1]) ∧ H e.2.2.2.1 = some (.lst (rf5 e.2.2.2.2))
theorem TeL.same {H H' : Hp} {E : List En} (h : TeL H E) (e : Same H H') : TeL H' E := fun z hz => ⟨e _ _ (h z hz).1, e _ _ (h z hz).2⟩
def spEnt (C : Addr) : Sp := fun vs H Q _ => ∃ (p kl : Addr) (f : Str) (E : List En), vs = [.ref p] ∧ KB0 C H p kl f ∧ H kl = some (.lst (rfE E)) ∧ EnL H E ∧ E.length ≤ 12 ∧
 ∀ (r : Addr) (T : List En) H', Same H H' → H r = none → H' r = some (.lst (rfE T)) → TeL H' T → (∀ t ∈ T, H t.2.2.2.1 = none) → de T = de E → Q (.ref r) H'
def spPostE (C CN CU : Addr) : Sp := fun vs H Q E => ∃ (p kl : Addr) (f : Str) (es : List V) (d ab : Int) (l : Addr) (L : List Ln), vs = [.ref p, .int d, .int ab, .ref l] ∧ KB0 C H p kl f ∧ H kl = some (.lst es) ∧ es.length ≤ 100 ∧ H l = some (.lst (rf5 L)) ∧ R5 H L ∧ L.length ≤ 5 ∧
 (∀ n, dueC f L = some (.inl n) → ∀ e H', Same H H' → H' e = some (.xd (xf1 (.str n))) → E (.ref CN) (some e) H') ∧
 (∀ c r, dueC f L = some (.inr (c, r)) → ∀ e H', Same H H' → H' e = some (.xd (xf3 (.str f) (.str c) (.int r))) → E (.ref CU) (some e) H') ∧
 (dueC f L = none → ∀ (e t : Addr) H', (∀ b o, H b = some o → b ≠ kl → H' b = some o) → H' kl = some (.lst (es ++ [.ref e])) → H' e = some (.tup [.int d, .int ab, .ref t]) → H' t = some (.tup (rf5 L)) → Q (.int es.length) H')
theorem sc_month_of : FnScope ["day"] ["day"] (defScope s_month_of) := ⟨rfl, rfl, rfl, by decide +kernel, rfl, by decide +kernel, by decide +kernel⟩
theorem ok_month_of (D : Def K mg "month_of" s_month_of .none) : Cal P w K mg base CX0 cm 1 "month_of" ["day"] [] spMon := by
 obtain ⟨f, fd, F, hm⟩ := D
 refine ⟨f, fd, _, F.ok sc_month_of (fun vs H Q E h => ?_) (fun cdv A outer s H vs Q E hr h => ?_), hm, F.kp, (F.binds fun _ _ _ _ _ _ us hl => match us, hl with | [_], _ => rfl), .nil, F.binds fun _ _ _ _ _ _ us hl => match us, hl with | [_], _ => rfl⟩
 · obtain ⟨d, rfl, q⟩ := h
   rfl
 obtain ⟨d, rfl, q⟩ := h
 have nd := sc_month_of.nd
 refine ⟨_, (pss_one (ps_ret (pe_op op_fdiv (pv 0) pe_int))), ?_⟩
 exact ⟨_, rfl, _, _, rfl, rfl, ⟨by decide, by decide⟩, q⟩
theorem sc_put_together : FnScope ["rows", "sums", "figures", "account", "coin", "amount", "worth", "so_far", "total"] ["rows"] (defScope s_put_together) := ⟨rfl, rfl, rfl, by decide +kernel, rfl, by decide +kernel, by decide +kernel⟩
theorem ok_put_together (D : Def K mg "put_together" s_put_together .none) (z_sorted : mg "sorted" = none) : Cal P w K mg base CX0 true 1 "put_together" ["rows"] [] spPut := by
 obtain ⟨f, fd, F, hm⟩ := D
 refine ⟨f, fd, _, F.ok sc_put_together (fun vs H Q E h => ?_) (fun cdv A outer s H vs Q E hr h => ?_), hm, F.kp, (F.binds fun _ _ _ _ _ _ us hl => match us, hl with | [_], _ => rfl), .nil, F.binds fun _ _ _ _ _ _ us hl => match us, hl with | [_], _ => rfl⟩
 · obtain ⟨l, R, rfl, hl, hR, hlen, hk64, q⟩ := h
   rfl
 obtain ⟨l, R, rfl, hl, hR, hlen, hk64, q⟩ := h
 have nd := sc_put_together.nd
 refine ⟨_, (pss_cons (ps_set (i := 1) nd rfl (Or.inl rfl) pe_dnewT)
   (pss_cons (ps_for PassesOwn.never rfl (pi_list (pv 0)) (pg_tup rfl (pgs_cons (pg_name (i := 3) nd rfl (Or.inl rfl)) (pgs_cons (pg_name (i := 4) nd rfl (Or.inl rfl)) (pgs_cons (pg_name (i := 5) nd rfl (Or.inl rfl)) (pgs_cons (pg_name (i := 6) nd rfl (Or.inl rfl)) pgs_nil))))) (pss_cons (ps_set (i := 7) nd rfl (Or.inl rfl) (pe_dget2 (hu_of hr) (pv 1) (pe_tup (pa_cons (pv 3) (pa_cons (pv 4) pa_nil))) (pe_tup (pa_cons pe_int (pa_cons pe_int pa_nil))) ⟨rfl, rfl, rfl, rfl⟩))
   (pss_one (ps_dput (hu_of hr) (pv 1) (pe_tup (pa_cons (pv 3) (pa_cons (pv 4) pa_nil))) (pe_tup (pa_cons (pe_op op_add (pe_ix ix_seq (pv 7) pe_int (fun _ _ => rfl)) (pv 5)) (pa_cons (pe_op op_add (pe_ix ix_seq (pv 7) pe_int (fun _ _ => rfl)) (pv 6)) pa_nil))) rfl))))
   (pss_cons (ps_set (i := 2) nd rfl (Or.inl rfl) (pe_lst pa_nil))
   (pss_cons (ps_for PassesOwn.never rfl (pi_list (pe_callB (call_sortedT rfl) rfl z_sorted bt_sorted (pa_cons (pv 1) pa_nil))) (pg_tup rfl (pgs_cons (pg_name (i := 3) nd rfl (Or.inl rfl)) (pgs_cons (pg_name (i := 4) nd rfl (Or.inl rfl)) pgs_nil))) (pss_cons (ps_set (i := 8) nd rfl (Or.inl rfl) (pe_dget (hu_of hr) (pv 1) (pe_tup (pa_cons (pv 3) (pa_cons (pv 4) pa_nil))) (fun _ _ => rfl)))
   (pss_one (ps_if (pt_cmpR (op_neI hr) (pv 8) (pe_tup (pa_cons pe_int (pa_cons pe_int pa_nil))) (nomark _)) (pss_one (ps_expr (pe_bm PySem.F.plainAttrs_list PySem.F.slot_list_append PySem.F.type_list_append mt_append (pv 2) (pa_cons (pe_tup (pa_cons (pv 3) (pa_cons (pv 4) (pa_cons (pe_ix ix_seq (pv 8) pe_int (fun _ _ => rfl)) (pa_cons (pe_ix ix_seq (pv 8) pe_int (fun _ _ => rfl)) pa_nil))))) pa_nil)))) pss_nil))))
   (pss_one (ps_ret (pv 2))))))), ?_⟩
 have hline : 10 ^ 6 ≤ sizeLine := by decide
 refine fun d hd => ?_
 have e1 := same_upd (o := .dT []) hd
 refine ⟨_, rfl, l, rfl, ⟨_, SqL.of (e1 _ _ hl)⟩, ?_⟩
 refine for_list (xs := rf4 R) (fun i σ H' => ∃ (o2 o3 o4 o5 o6 o7 o8 : Option V) (A : Pl → Addr), σ = [some (.ref l), some (.ref d), o2, o3, o4, o5, o6, o7, o8] ∧ Same H H' ∧ Sums H' d ((R.take i).map (·.2)) A) ⟨_, _, _, _, _, _, _, fun _ => d, rfl, e1, upd_same, fun k hk => nomatch hk⟩ ?_ ?_ ?_
 · rintro i σ H1 hi ⟨o2, o3, o4, o5, o6, o7, o8, A, rfl, e, _⟩
   exact SqL.of (e _ _ hl)
 · rintro i x σ H1 hx ⟨o2, o3, o4, o5, o6, o7, o8, A, rfl, e, S⟩
   obtain ⟨z, hz, rfl⟩ := rf4_at hx
   have hzz := e _ _ (hR z (List.mem_of_getElem? hz))
   have hkl := kvT_len A ((R.take i).map (·.2))
   rw [List.length_map, List.length_take] at hkl
   have hlz : i < R.length := (List.getElem?_eq_some_iff.mp hz).1
   refine ⟨z.1, _, rfl, SqT.of hzz, rfl, _, _, rfl, _, _, rfl, _, _, rfl, _, _, rfl, rfl, ?_⟩
   refine ⟨_, rfl, d, rfl, .inr ⟨_, .inl S.1⟩, _, rfl, _, rfl, (by show 2 ≤ sizeLine; decide), fun kp hkp => ⟨(by show 2 ≤ sizeLine; decide), fun zp hzp => ?_⟩⟩
   have f1 := same_upd (o := .tup [.str z.2.1.1, .str z.2.1.2]) hkp
   have f2 := same_upd (o := .tup [.int 0, .int 0]) hzp
   have S2 := S.same (f1.trans f2)
   obtain ⟨s, hs, hst⟩ := S2.get z.2.1 (z := zp) upd_same
   refine ⟨_, DGet.t (k := kk z.2.1) S2.1 (f2 _ _ upd_same), ?_⟩
   rw [hs]
   have hT := SqT.of (K := K) hst
   refine ⟨_, rfl, .inr (.inl ⟨s, _, 0, _, rfl, rfl, hT, rfl, _, rfl, _, _, rfl, rfl, _, rfl, .inr (.inl ⟨s, _, 1, _, rfl, rfl, hT, rfl, _, rfl, _, _, rfl, rfl, (by show 2 ≤ sizeLine; decide), fun np hnp => ?_⟩)⟩)⟩
   have f3 := same_upd (o := .tup [.int (ta ((R.take i).map (·.2)) z.2.1 + z.2.2.1), .int (tw ((R.take i).map (·.2)) z.2.1 + z.2.2.2)]) hnp
   refine ⟨_, rfl, _, rfl, _, rfl, (by show 2 ≤ sizeLine; decide), fun kp2 hkp2 => ?_⟩
   have f4 := same_upd (o := .tup [.str z.2.1.1, .str z.2.1.2]) hkp2
   have S4 := S2.same (f3.trans f4)
   refine ⟨d, _, rfl, DPut.t (k := kk z.2.1) S4.1 upd_same (by omega), ?_⟩
   refine ⟨_, _, _, _, _, _, _, fun k => if k = z.2.1 then np else A k, rfl, same_set (e.trans ((f1.trans f2).trans (f3.trans f4))) hd, ?_⟩
   rw [take_nx hz, List.map_append]
   exact S4.put (p := z.2) (f4 _ _ upd_same)
 rintro σ H1 ⟨o2, o3, o4, o5, o6, o7, o8, A, rfl, e, S⟩
 rw [rf4_len, List.take_length] at S
 have hkn := kys_len (R.map (·.2))
 rw [List.length_map] at hkn
 generalize hP : R.map (·.2) = P at S hkn hk64 q
 refine ⟨(by show 0 ≤ sizeLine; decide), fun p hp => ?_⟩
 have g1 := same_upd (o := .lst []) hp
 refine ⟨_, rfl, d, _, kys P, rfl, g1 _ _ S.1, kvT_keys A P, by omega, fun sl T hsl perm pw ht => ⟨sl, rfl, ⟨_, SqL.of upd_same⟩, ?_⟩⟩
 have g2 := same_upd (o := .lst (T.map fun z => V.ref z.1)) hsl
 have hTl := perm.length_eq
 rw [List.length_map] at hTl
 have hTn : (T.map fun z => V.ref z.1).length = T.length := List.length_map ..
 have nsp : sl ≠ p := fun w => by
   rw [w, upd_same] at hsl
   cases hsl
 refine for_list (xs := T.map fun z => V.ref z.1) (fun i σ H' => ∃ (o3 o4 o5 o6 o7 o8 : Option V) (F : List Rw4), σ = [some (.ref l), some (.ref d), some (.ref p), o3, o4, o5, o6, o7, o8] ∧ Same H1 H' ∧ H' sl = some (.lst (T.map fun z => V.ref z.1)) ∧ H' p = some (.lst (rf4 F)) ∧ R4 H' F ∧ F.map (·.2) = fg P ((T.map (·.2)).take i) ∧ (∀ z ∈ T, H' z.1 = some (.tup [.str z.2.1, .str z.2.2]))) ⟨_, _, _, _, _, _, [], rfl, g1.trans g2, upd_same, g2 _ _ upd_same, (fun z hz => nomatch hz), rfl, fun z hz => g2 _ _ (ht z hz)⟩ ?_ ?_ ?_
 · rintro i σ H2 hi ⟨o3, o4, o5, o6, o7, o8, F, rfl, e2, hs2, _⟩
   exact SqL.of hs2
 · rintro i x σ H2 hx ⟨o3, o4, o5, o6, o7, o8, F, rfl, e2, hs2, hp2, hF, hFg, hT2⟩
   obtain ⟨z, hz, rfl⟩ := ref_at hx
   have hzm := List.mem_of_getElem? hz
   have hzz := hT2 z hzm
   have hkz : z.2 ∈ kys P := perm.mem_iff.mp (List.mem_map_of_mem hzm)
   have hFl : F.length ≤ T.length := by
     have := congrArg List.length hFg
     rw [List.length_map] at this
     unfold fg at this
     rw [List.length_map] at this
     have b := List.length_filter_le (nz P) ((T.map (·.2)).take i)
     rw [List.length_take, List.length_map] at b
     omega
   refine ⟨z.1, _, rfl, SqT.of hzz, rfl, _, _, rfl, _, _, rfl, rfl, ?_⟩
   refine ⟨_, rfl, _, rfl, _, rfl, (by show 2 ≤ sizeLine; decide), fun kp hkp => ?_⟩
   have f1 := same_upd (o := .tup [.str z.2.1, .str z.2.2]) hkp
   have S1 := S.same (e2.trans f1)
   refine ⟨d, .ref (A z.2), rfl, kvT_val hkz ▸ DGet.t (k := kk z.2) S1.1 upd_same, ?_⟩
   refine ⟨_, rfl, (by show 2 ≤ sizeLine; decide), fun zp hzp => ?_⟩
   have f2 := same_upd (o := .tup [.int 0, .int 0]) hzp
   have S2 := S1.same f2
   have hA := SqT.of (K := K) (S2.2 z.2 hkz)
   have f12 := f1.trans f2
   refine ⟨A z.2, zp, [ta P z.2, tw P z.2], [0, 0], rfl, rfl, hA, SqT.of upd_same, _, rfl, ?_⟩
   have nx := fg_nx (P := P) (ks := T.map (·.2)) (i := i) (k := z.2) (by rw [List.getElem?_map, hz]; rfl)
   refine ndec2 (fun h => ?_) (fun h => ?_)
   · have hnz : nz P z.2 = true := by
       unfold nz
       rw [decide_eq_false h]
       rfl
     rw [if_pos hnz] at nx
     refine ⟨_, rfl, .inl ⟨rfl, _, SqL.of (f12 _ _ hp2)⟩, _, rfl, _, rfl, _, rfl, .inr (.inl ⟨A z.2, _, 0, _, rfl, rfl, hA, rfl, _, rfl, .inr (.inl ⟨A z.2, _, 1, _, rfl, rfl, hA, rfl, (by show 4 ≤ sizeLine; decide), fun fp hfp => ?_⟩)⟩)⟩
     have f3 := same_upd (o := .tup [.str z.2.1, .str z.2.2, .int (ta P z.2), .int (tw P z.2)]) hfp
     have f123 := f12.trans f3
     refine ⟨p, _, _, rfl, rfl, f123 _ _ hp2, (by rw [rf4_len]; omega), ?_⟩
     refine ⟨_, _, _, _, _, _, F ++ [(fp, z.2, ta P z.2, tw P z.2)], rfl, same_set (e2.trans f123) hp, (by rw [upd_ne nsp]; exact f123 _ _ hs2), (by rw [upd_same, rf4_app]; rfl), fun y hy => ?_, ?_, fun y hy => ?_⟩
     · rcases List.mem_append.mp hy with w | w
       · exact tup_keepL (f123 _ _ (hF y w)) (f123 _ _ hp2)
       · rw [List.mem_singleton.mp w]
         exact tup_keepL upd_same (f123 _ _ hp2)
     · rw [nx, List.map_append, hFg]
       rfl
     · exact tup_keepL (f123 _ _ (hT2 y hy)) (f123 _ _ hp2)
   · have hnz : ¬ nz P z.2 = true := by
       unfold nz
       rw [decide_eq_true h]
       decide
     rw [if_neg hnz] at nx
     exact ⟨_, _, _, _, _, _, F, rfl, e2.trans f12, f12 _ _ hs2, f12 _ _ hp2, hF.same f12, hFg.trans nx.symm, fun y hy => f12 _ _ (hT2 y hy)⟩
 rintro σ H2 ⟨o3, o4, o5, o6, o7, o8, F, rfl, e2, hs2, hp2, hF, hFg, hT2⟩
 rw [hTn, ← List.map_take, List.take_length] at hFg
 exact ⟨_, rfl, q p F _ (e.trans e2) (e.free hp) hp2 hF ⟨_, perm, pw, hFg⟩⟩
theorem sc_figures_of : FnScope ["lines"] ["lines"] (defScope s_figures_of) := ⟨rfl, rfl, rfl, by decide +kernel, rfl, by decide +kernel, by decide +kernel⟩
theorem ok_figures_of (D : Def K mg "figures_of" s_figures_of .none) (c_put_together : Cal P w K mg base CX0 true 1 "put_together" ["rows"] [] spPut) : Cal P w K mg base CX0 true 2 "figures_of" ["lines"] [] spFigs := by
 obtain ⟨f, fd, F, hm⟩ := D
 obtain ⟨f_put_together, fd_put_together, d_put_together, G_put_together, m_put_together, k_put_together, b_put_together, v_put_together, b_put_together1⟩ := c_put_together
 refine ⟨f, fd, _, F.ok sc_figures_of (fun vs H Q E h => ?_) (fun cdv A outer s H vs Q E hr h => ?_), hm, F.kp, (F.binds fun _ _ _ _ _ _ us hl => match us, hl with | [_], _ => rfl), .nil, F.binds fun _ _ _ _ _ _ us hl => match us, hl with | [_], _ => rfl⟩
 · obtain ⟨l, L, rfl, hl, hL, hlen, hk64, q⟩ := h
   rfl
 obtain ⟨l, L, rfl, hl, hL, hlen, hk64, q⟩ := h
 have nd := sc_figures_of.nd
 refine ⟨_, (pss_one (ps_ret (pe_call G_put_together (hr.mono (by decide)) rfl m_put_together k_put_together b_put_together Paired.nil pass0 (pa_cons (pe_lc [] rfl (LcOk.plain (by decide +kernel) (by decide +kernel) rfl (by decide +kernel) rfl) (pi_list (pv 0)) (fun C s2 H2 fp xe => (pe_slice sl_tupC (pv 0) (po_some pe_int) po_none))) pa_nil)))), ?_⟩
 have hline : 10 ^ 6 ≤ sizeLine := by decide
 refine ⟨_, rfl, l, rfl, ⟨_, SqL.of hl⟩, ?_⟩
 refine lc_list (xs := rf5 L) (fun i ys H1 => ∃ R : List Rw4, ys = rf4 R ∧ R.map (·.2) = (L.take i).map (·.2.2) ∧ R4 H1 R ∧ Same H H1) ⟨[], rfl, rfl, (fun z hz => nomatch hz), fun _ _ h => h⟩ (by rw [rf5_len]; omega) ?_ ?_ ?_
 · rintro i ys H1 hi ⟨R, rfl, hR, _, e⟩
   have := congrArg List.length hR
   rw [List.length_map, List.length_map, List.length_take] at this
   rw [rf5_len] at hi
   exact ⟨SqL.of (e _ _ hl), by rw [rf4_len]; omega⟩
 · rintro i x ys H1 hx ⟨R, rfl, hR, hRt, e⟩
   obtain ⟨z, hz, rfl⟩ := rf5_at hx
   have hzz := e _ _ (hL z (List.mem_of_getElem? hz))
   refine ⟨_, rfl, _, rfl, z.1, _, rfl, SqT.of hzz, (fun h => Nat.one_ne_zero h.1), fun p hp => ?_⟩
   have f := same_upd (o := tup4 (p, z.2.2)) hp
   refine ⟨R ++ [(p, z.2.2)], by rw [rf4_app]; rfl, ?_, fun y hy => ?_, e.trans f⟩
   · rw [take_nx hz, List.map_append, List.map_append, hR]
     rfl
   · rcases List.mem_append.mp hy with w | w
     · exact f _ _ (hRt y w)
     · rw [List.mem_singleton.mp w]
       exact upd_same
 rintro ys H1 ⟨R, rfl, hR, hRt, e⟩ rl hrl
 rw [rf5_len, List.take_length] at hR
 have hRl := congrArg List.length hR
 rw [List.length_map, List.length_map] at hRl
 have f := same_upd (o := .lst (rf4 R)) hrl
 refine ⟨rl, R, rfl, upd_same, hRt.same f, by omega, (by rw [hR]; exact hk64), fun p F H' e2 hp hp2 hF hFg => ?_⟩
 rw [hR] at hFg
 exact q p F H' ((e.trans f).trans e2) ((e.trans f).free hp) hp2 hF hFg
abbrev s_NoFirm__init__ : Stmt := inClass (top 4) 0
theorem sc_NoFirm__init__ : FnScope ["self", "name"] ["self", "name"] (defScope s_NoFirm__init__) := ⟨rfl, rfl, rfl, by decide +kernel, rfl, by decide +kernel, by decide +kernel⟩
theorem ok_NoFirm__init__ {C_NoFirm : Addr} (X_NoFirm : XCls K C_NoFirm) (n_NoFirmname : NoAttr K C_NoFirm "name") (D : DefX K C_NoFirm "NoFirm.__init__" s_NoFirm__init__) : CalX P w K mg base true 1 C_NoFirm ["self", "name"] (spX1 C_NoFirm) := by
 obtain ⟨f, fd, F, hfi, hfn⟩ := D
 refine ⟨f, fd, hfi, hfn, F.ok sc_NoFirm__init__ (fun vs H Q E h => ?_) (fun cdv A outer s H vs Q E hr h => ?_), (F.binds fun _ _ _ _ _ _ us hl => match us, hl with | [_, _], _ => rfl)⟩
 · obtain ⟨x, u0, rfl, hx, q⟩ := h
   rfl
 obtain ⟨x, u0, rfl, hx, q⟩ := h
 have nd := sc_NoFirm__init__.nd
 refine ⟨_, (pss_one (ps_fldB (pv 0) (pv 1) rfl)), ?_⟩
 refine ⟨_, rfl, _, rfl, x, C_NoFirm, rfl, X_NoFirm, n_NoFirmname, .inl ⟨hx, fun d hd hdx => ?_⟩⟩
 refine q d _ hd hdx (by rw [upd_ne hdx]; exact upd_same) upd_same fun y o hy hyx => ?_
 have hyd : y ≠ d := ne_of_none hy hd
 rw [upd_ne hyx, upd_ne hyd]
 exact hy
abbrev s_Unbalanced__init__ : Stmt := inClass (top 2) 0
theorem sc_Unbalanced__init__ : FnScope ["self", "book", "coin", "rest"] ["self", "book", "coin", "rest"] (defScope s_Unbalanced__init__) := ⟨rfl, rfl, rfl, by decide +kernel, rfl, by decide +kernel, by decide +kernel⟩
theorem ok_Unbalanced__init__ {C_Unbalanced : Addr} (X_Unbalanced : XCls K C_Unbalanced) (n_Unbalancedbook : NoAttr K C_Unbalanced "book") (n_Unbalancedcoin : NoAttr K C_Unbalanced "coin") (n_Unbalancedrest : NoAttr K C_Unbalanced "rest") (D : DefX K C_Unbalanced "Unbalanced.__init__" s_Unbalanced__init__) : CalX P w K mg base true 1 C_Unbalanced ["self", "book", "coin", "rest"] (spX3 C_Unbalanced) := by
 obtain ⟨f, fd, F, hfi, hfn⟩ := D
 refine ⟨f, fd, hfi, hfn, F.ok sc_Unbalanced__init__ (fun vs H Q E h => ?_) (fun cdv A outer s H vs Q E hr h => ?_), (F.binds fun _ _ _ _ _ _ us hl => match us, hl with | [_, _, _, _], _ => rfl)⟩
 · obtain ⟨x, u0, u1, u2, rfl, hx, q⟩ := h
   rfl
 obtain ⟨x, u0, u1, u2, rfl, hx, q⟩ := h
 have nd := sc_Unbalanced__init__.nd
 refine ⟨_, (pss_cons (ps_fldB (pv 0) (pv 1) rfl)
   (pss_cons (ps_fldB (pv 0) (pv 2) rfl)
   (pss_one (ps_fldB (pv 0) (pv 3) rfl)))), ?_⟩
 refine ⟨_, rfl, _, rfl, x, C_Unbalanced, rfl, X_Unbalanced, n_Unbalancedbook, .inl ⟨hx, fun d hd hdx => ?_⟩⟩
 refine ⟨_, rfl, _, rfl, x, C_Unbalanced, rfl, X_Unbalanced, n_Unbalancedcoin, .inr ⟨d, _, upd_same, (by rw [upd_ne hdx]; exact upd_same), (by show 1 < 1000; decide), ?_⟩⟩
 refine ⟨_, rfl, _, rfl, x, C_Unbalanced, rfl, X_Unbalanced, n_Unbalancedrest, .inr ⟨d, _, (by rw [upd_ne (Ne.symm hdx)]; exact upd_same), upd_same, xf3_len _ _, ?_⟩⟩
 refine q d _ hd hdx upd_same ?_ fun y o hy hyx => ?_
 · rw [upd_ne (Ne.symm hdx), upd_ne (Ne.symm hdx)]
   exact upd_same
 · have hyd : y ≠ d := ne_of_none hy hd
   rw [upd_ne hyd, upd_ne hyd, upd_ne hyx, upd_ne hyd]
   exact hy
theorem sc_check_entry : FnScope ["book", "lines", "line", "worth", "coin", "rest"] ["book", "lines"] (defScope s_check_entry) := ⟨rfl, rfl, rfl, by decide +kernel, rfl, by decide +kernel, by decide +kernel⟩
theorem ok_check_entry (D : Def K mg "check_entry" s_check_entry .none) {C_NoFirm C_Unbalanced : Addr} (c_NoFirm__init__ : CalX P w K mg base true 1 C_NoFirm ["self", "name"] (spX1 C_NoFirm)) (c_rests_of : Cal P w K mg base CX0 true 1 "rests_of" ["sides"] [] spRests) (c_Unbalanced__init__ : CalX P w K mg base true 1 C_Unbalanced ["self", "book", "coin", "rest"] (spX3 C_Unbalanced)) (z_sum : mg "sum" = none) (m_NoFirm : mg "NoFirm" = some (.ref C_NoFirm)) (m_Unbalanced : mg "Unbalanced" = some (.ref C_Unbalanced)) (X_NoFirm : XCls K C_NoFirm) (X_Unbalanced : XCls K C_Unbalanced) : Cal P w K mg base (CX1 P w) true 3 "check_entry" ["book", "lines"] [] (spChkE C_NoFirm C_Unbalanced) := by
 obtain ⟨f, fd, F, hm⟩ := D
 obtain ⟨f_NoFirm__init__, fd_NoFirm__init__, i_NoFirm, fn_NoFirm, G_NoFirm__init__, b_NoFirm__init__⟩ := c_NoFirm__init__
 obtain ⟨f_rests_of, fd_rests_of, d_rests_of, G_rests_of, m_rests_of, k_rests_of, b_rests_of, v_rests_of, b_rests_of1⟩ := c_rests_of
 obtain ⟨f_Unbalanced__init__, fd_Unbalanced__init__, i_Unbalanced, fn_Unbalanced, G_Unbalanced__init__, b_Unbalanced__init__⟩ := c_Unbalanced__init__
 refine ⟨f, fd, _, F.okX sc_check_entry (fun vs H Q E h => ?_) (fun cdv A outer s H vs Q E hr h => ?_), hm, F.kp, (F.binds fun _ _ _ _ _ _ us hl => match us, hl with | [_, _], _ => rfl), .nil, F.binds fun _ _ _ _ _ _ us hl => match us, hl with | [_, _], _ => rfl⟩
 · obtain ⟨f, l, L, rfl, hl, hL, hlen, q1, q2, q3⟩ := h
   rfl
 obtain ⟨f, l, L, rfl, hl, hL, hlen, q1, q2, q3⟩ := h
 have nd := sc_check_entry.nd
 refine ⟨_, (pss_cons (ps_for PassesOwn.leaving rfl (pi_list (pv 1)) (pg_name (i := 2) nd rfl (Or.inl rfl)) (pss_one (ps_if (pt_cmpR op_ne (pe_ix ix_seq (pv 2) pe_int (fun _ _ => rfl)) (pv 0) (nomark _)) (pss_one (ps_raiseI rfl xe_def rfl m_NoFirm X_NoFirm i_NoFirm fn_NoFirm G_NoFirm__init__ (hr.mono (by decide)) b_NoFirm__init__ (pa_cons (pe_ix ix_seq (pv 2) pe_int (fun _ _ => rfl)) pa_nil))) pss_nil)))
   (pss_cons (ps_for PassesOwn.leaving rfl (pi_list (pe_call G_rests_of (hr.mono (by decide)) rfl m_rests_of k_rests_of b_rests_of Paired.nil pass0 (pa_cons (pe_lc [] rfl (LcOk.plain (by decide +kernel) (by decide +kernel) rfl (by decide +kernel) rfl) (pi_list (pv 1)) (fun C s2 H2 fp xe => (pe_slice sl_tupC (pv 0) po_none (po_some pe_int)))) pa_nil))) (pg_tup rfl (pgs_cons (pg_name (i := 4) nd rfl (Or.inl rfl)) (pgs_cons (pg_name (i := 5) nd rfl (Or.inl rfl)) pgs_nil))) (pss_one (ps_if (pt_cmpR op_ne (pv 5) pe_int (nomark _)) (pss_one (ps_raiseI rfl xe_def rfl m_Unbalanced X_Unbalanced i_Unbalanced fn_Unbalanced G_Unbalanced__init__ (hr.mono (by decide)) b_Unbalanced__init__ (pa_cons (pv 0) (pa_cons (pv 4) (pa_cons (pv 5) pa_nil))))) pss_nil)))
   (pss_cons (ps_set (i := 3) nd rfl (Or.inl rfl) (pe_callB (call_sum hr) rfl z_sum bt_sum (pa_cons (pe_lc [] rfl (LcOk.plain (by decide +kernel) (by decide +kernel) rfl (by decide +kernel) rfl) (pi_list (pv 1)) (fun C s2 H2 fp xe => (pe_ix ix_seqC (pv 0) pe_int (fun _ _ => rfl)))) pa_nil)))
   (pss_one (ps_if (pt_cmpR op_ne (pv 3) pe_int (nomark _)) (pss_one (ps_raiseI rfl xe_def rfl m_Unbalanced X_Unbalanced i_Unbalanced fn_Unbalanced G_Unbalanced__init__ (hr.mono (by decide)) b_Unbalanced__init__ (pa_cons (pv 0) (pa_cons pe_str (pa_cons (pv 3) pa_nil))))) pss_nil))))), ?_⟩
 have hline : 10 ^ 6 ≤ sizeLine := by decide
 have hn := hlen
 refine ⟨_, rfl, l, rfl, ⟨_, SqL.of hl⟩, ?_⟩
 refine for_list (xs := rf5 L) (fun i σ H' => ∃ (o2 o3 o4 o5 : Option V), σ = [some (.str f), some (.ref l), o2, o3, o4, o5] ∧ H' = H ∧ ∀ y ∈ L.take i, y.2.1 = f) ⟨_, _, _, _, rfl, rfl, fun y hy => nomatch hy⟩ ?_ ?_ ?_
 · rintro i σ H1 hi ⟨o2, o3, o4, o5, rfl, rfl, _⟩
   exact SqL.of hl
 · rintro i x σ H1 hx ⟨o2, o3, o4, o5, rfl, rfl, hpre⟩
   obtain ⟨z, hz, rfl⟩ := rf5_at hx
   have hm := List.mem_of_getElem? hz
   have hT := SqT.of (K := K) (hL z hm)
   refine ⟨_, rfl, .inr (.inl ⟨z.1, _, 0, _, rfl, rfl, hT, rfl, _, rfl, rfl, _, rfl, ?_⟩)⟩
   refine ndec2 (fun hne => ?_) (fun h0 => ⟨_, _, _, _, rfl, rfl, take_snoc hpre hz (V.str.inj h0)⟩)
   have hd : dueC f L = some (.inl z.2.1) := by
     unfold dueC
     rw [find_at (i := i) (fun y hy => by simp [hpre y hy]) hz (by simpa using fun e => hne (congrArg V.str e))]
   exact ⟨_, rfl, .inr (.inl ⟨z.1, _, 0, _, rfl, rfl, hT, rfl, (by show 1 ≤ sizeLine; decide), True.intro, fun x hx0 => ⟨x, _, rfl, upd_same, fun e H' hd1 hdx g1 g2 keep => ⟨rfl, some e, g2, q1 z.2.1 hd e _ (after_x hx0 keep) (by show (if e = x then none else H' e) = _; rw [if_neg hdx]; exact g1)⟩⟩⟩)⟩
 rintro σ H1 ⟨o2, o3, o4, o5, rfl, rfl, hpre⟩
 rw [rf5_len, List.take_length] at hpre
 have hno : L.find? (fun z => decide (z.2.1 ≠ f)) = none := List.find?_eq_none.mpr fun y hy => by simp [hpre y hy]
 refine ⟨_, rfl, l, rfl, ⟨_, SqL.of hl⟩, ?_⟩
 refine lc_list (xs := rf5 L) (fun i ys H2 => ∃ S : List Sd, ys = rfs S ∧ S.length = i ∧ prs S = prsL (L.take i) ∧ (∀ z ∈ S, H2 z.1 = some (tupZ z)) ∧ Same H1 H2) ⟨[], rfl, rfl, rfl, (fun z hz => nomatch hz), fun _ _ h => h⟩ (by rw [rf5_len]; omega) ?_ ?_ ?_
 · rintro i ys H2 hi ⟨S, rfl, hS, _, _, e⟩
   exact ⟨SqL.of (e _ _ hl), by rw [rfs_len]; exact hS⟩
 · rintro i x ys H2 hx ⟨S, rfl, hS, hp, hSt, e⟩
   obtain ⟨z, hz, rfl⟩ := rf5_at hx
   have hzz := e _ _ (hL z (List.mem_of_getElem? hz))
   refine ⟨_, rfl, _, rfl, z.1, _, rfl, SqT.of hzz, (fun h => absurd (show (4 : Nat) = 5 from h.2) (by decide)), fun p hp0 => ?_⟩
   have f1 := same_upd (o := tupZ (p, z.2.1, z.2.2.1.1, z.2.2.1.2, z.2.2.2.1)) hp0
   refine ⟨S ++ [(p, z.2.1, z.2.2.1.1, z.2.2.1.2, z.2.2.2.1)], by rw [rfs_app]; rfl, by rw [List.length_append, hS]; rfl, ?_, fun y hy => ?_, e.trans f1⟩
   · unfold prs prsL at hp ⊢
     rw [take_nx hz, List.map_append, List.map_append, hp]
     rfl
   · rcases List.mem_append.mp hy with w | w
     · exact f1 _ _ (hSt y w)
     · rw [List.mem_singleton.mp w]
       exact upd_same
 rintro ys H2 ⟨S, rfl, hS, hp, hSt, e⟩ sl hsl
 rw [rf5_len] at hS
 rw [rf5_len, List.take_length] at hp
 have f2 := same_upd (o := .lst (rfs S)) hsl
 refine ⟨sl, S, rfl, upd_same, (fun z hz => f2 _ _ (hSt z hz)), by omega, fun rp R H3 e3 hrp0 hrp hR hRt => ⟨rp, rfl, ⟨_, SqL.of hrp⟩, ?_⟩⟩
 have ee := (e.trans f2).trans e3
 refine for_list (xs := rfr R) (fun i σ H' => ∃ (o2 o3 o4 o5 : Option V), σ = [some (.str f), some (.ref l), o2, o3, o4, o5] ∧ H' = H3 ∧ ∀ y ∈ R.take i, y.2.2 = 0) ⟨_, _, _, _, rfl, rfl, fun y hy => nomatch hy⟩ ?_ ?_ ?_
 · rintro i σ H4 hi ⟨o2, o3, o4, o5, rfl, rfl, _⟩
   exact SqL.of hrp
 · rintro i x σ H4 hx ⟨o2, o3, o4, o5, rfl, rfl, hpre2⟩
   obtain ⟨z, hz, rfl⟩ := rfr_at hx
   have hm := List.mem_of_getElem? hz
   refine ⟨z.1, _, rfl, SqT.of (hRt z hm), rfl, _, _, rfl, _, _, rfl, rfl, ?_⟩
   refine ⟨_, rfl, rfl, _, rfl, ?_⟩
   refine ndec2 (fun hne => ?_) (fun h0 => ⟨_, _, _, _, rfl, rfl, take_snoc (P := fun y : Addr × Str × Int => y.2.2 = 0) hpre2 hz (V.int.inj h0)⟩)
   have hd : dueC f L = some (.inr (z.2.1, z.2.2)) := by
     unfold dueC
     rw [hno, ← hp, ← hR]
     have := find_at (xs := R.map (·.2)) (p := fun p => decide (p.2 ≠ 0)) (i := i) (a := z.2) (fun y hy => by
       rw [← List.map_take] at hy
       obtain ⟨y2, m2, rfl⟩ := List.mem_map.mp hy
       simp [hpre2 y2 m2]) (by rw [List.getElem?_map, hz]; rfl) (by simpa using fun e => hne (congrArg V.int e))
     rw [this]
   exact ⟨_, rfl, _, rfl, _, rfl, (by show 3 ≤ sizeLine; decide), True.intro, fun x hx0 => ⟨x, _, _, _, rfl, upd_same, fun e H' hd1 hdx g1 g2 keep => ⟨rfl, some e, g2, q2 z.2.1 z.2.2 hd e _ (ee.trans (after_x hx0 keep)) (by show (if e = x then none else H' e) = _; rw [if_neg hdx]; exact g1)⟩⟩⟩
 rintro σ H4 ⟨o2, o3, o4, o5, rfl, rfl, hpre2⟩
 rw [show (rfr R).length = R.length from List.length_map .., List.take_length] at hpre2
 have hno2 : (N21.rs (prsL L)).find? (fun p => decide (p.2 ≠ 0)) = none := by
   rw [← hp, ← hR, List.find?_eq_none]
   intro y hy
   obtain ⟨y2, m2, rfl⟩ := List.mem_map.mp hy
   simp [hpre2 y2 m2]
 refine ⟨_, rfl, l, rfl, ⟨_, SqL.of (ee _ _ hl)⟩, ?_⟩
 refine lc_list (xs := rf5 L) (fun i ys H5 => ys = (wrs (L.take i)).map V.int ∧ H5 = H4) ⟨rfl, rfl⟩ (by rw [rf5_len]; omega) ?_ ?_ ?_
 · rintro i ys H5 hi ⟨rfl, rfl⟩
   rw [rf5_len] at hi
   refine ⟨SqL.of (ee _ _ hl), ?_⟩
   unfold wrs
   rw [List.length_map, List.length_map, List.length_take]
   omega
 · rintro i x ys H5 hx ⟨rfl, rfl⟩
   obtain ⟨z, hz, rfl⟩ := rf5_at hx
   have hT := SqT.of (K := K) (ee _ _ (hL z (List.mem_of_getElem? hz)))
   refine ⟨_, rfl, .inr (.inl ⟨z.1, _, 4, _, rfl, rfl, hT, rfl, ?_, rfl⟩)⟩
   unfold wrs
   rw [take_nx hz, List.map_append, List.map_append]
   rfl
 rintro ys H5 ⟨rfl, rfl⟩ wl hwl
 rw [rf5_len, List.take_length]
 have f6 := same_upd (o := .lst ((wrs L).map V.int)) hwl
 refine ⟨wl, wrs L, rfl, SqL.of upd_same, ?_⟩
 have f6' := ee.trans f6
 refine ⟨_, rfl, rfl, _, rfl, ?_⟩
 refine ndec2 (fun hne => ?_) (fun h0 => ?_)
 · have hd : dueC f L = some (.inr ("", (wrs L).sum)) := by
     unfold dueC
     rw [hno, hno2]
     exact if_neg fun e => hne (congrArg V.int e)
   exact ⟨_, rfl, _, rfl, (by show 3 ≤ sizeLine; decide), True.intro, fun x hx0 => ⟨x, _, _, _, rfl, upd_same, fun e H' hd1 hdx g1 g2 keep => ⟨rfl, some e, g2, q2 "" (wrs L).sum hd e _ (f6'.trans (after_x hx0 keep)) (by show (if e = x then none else H' e) = _; rw [if_neg hdx]; exact g1)⟩⟩⟩
 · have hd : dueC f L = none := by
     unfold dueC
     rw [hno, hno2]
     exact if_pos (V.int.inj h0)
   exact q3 hd _ f6'
abbrev s_Book___init__ : Stmt := inClass (top 12) 0
theorem sc_Book___init__ : FnScope ["self", "firm"] ["self", "firm"] (defScope s_Book___init__) := ⟨rfl, rfl, rfl, by decide +kernel, rfl, by decide +kernel, by decide +kernel⟩
theorem ok_Book___init__ {C_Book : Addr} (D : DefI K C_Book "Book.__init__" s_Book___init__ .none) (cl_Book : Cls K C_Book) (n_bbook : NoAttr K C_Book "book") (n_bkept : NoAttr K C_Book "kept") : CalI P w K mg base CX0 cm 1 C_Book ["self", "firm"] [] (spBkI C_Book) := by
 obtain ⟨f, fd, F, hm⟩ := D
 refine ⟨f, fd, _, F.ok sc_Book___init__ (fun vs H Q E h => ?_) (fun cdv A outer s H vs Q E hr h => ?_), hm, (F.binds fun _ _ _ _ _ _ us hl => match us, hl with | [_, _], _ => rfl), .nil, F.binds fun _ _ _ _ _ _ us hl => match us, hl with | [_, _], _ => rfl⟩
 · obtain ⟨p, dx, f, rfl, hp, q⟩ := h
   rfl
 obtain ⟨p, dx, f, rfl, hp, q⟩ := h
 have nd := sc_Book___init__.nd
 refine ⟨_, (pss_cons (ps_fld (pv 0) (pv 1) rfl)
   (pss_one (ps_fld (pv 0) (pe_lst pa_nil) rfl))), ?_⟩
 refine ⟨_, rfl, _, rfl, p, C_Book, dx, [], rfl, hp, cl_Book, n_bbook, (by show 0 < 1000; decide), ?_⟩
 refine ⟨(by show 0 ≤ sizeLine; decide), fun kl hkl => ?_⟩
 have npk : p ≠ kl := ne_of_none upd_same hkl
 have hk0 : H kl = none := by
   rw [upd_ne (Ne.symm npk)] at hkl
   exact hkl
 refine ⟨_, rfl, p, C_Book, dx, _, rfl, (by rw [upd_ne npk]; exact upd_same), cl_Book, n_bkept, (by show 1 < 1000; decide), ?_⟩
 refine q kl _ hk0 (Ne.symm npk) ⟨⟨dx, _, upd_same, ?_, ?_, fun m hm => ?_⟩⟩ ?_ fun b o e hb => ?_
 · rw [lookup_putF, if_neg bk_ne, lookup_putF, if_pos rfl]
 · rw [lookup_putF, if_pos rfl]
 · rw [lookup_putF, lookup_putF]
   have h1 : ¬ m = ("kept" : Str) := by
     intro z
     subst z
     exact absurd hm (by decide +kernel)
   have h2 : ¬ m = ("book" : Str) := by
     intro z
     subst z
     exact absurd hm (by decide +kernel)
   rw [if_neg h1, if_neg h2]
   rfl
 · rw [upd_ne (Ne.symm npk), upd_same]
 · rw [upd_ne hb, upd_ne (ne_of_none e hk0), upd_ne hb]
   exact e
abbrev s_Book_may_enter : Stmt := inClass (top 12) 1
theorem sc_Book_may_enter : FnScope ["self", "day"] ["self", "day"] (defScope s_Book_may_enter) := ⟨rfl, rfl, rfl, by decide +kernel, rfl, by decide +kernel, by decide +kernel⟩
theorem ok_Book_may_enter {C_Book : Addr} (D : DefM K C_Book "may_enter" "Book.may_enter" s_Book_may_enter .none) : CalM P w K mg base CX0 cm 1 C_Book "may_enter" ["self", "day"] [] (spMay0 C_Book) := by
 obtain ⟨f, fd, F, hm⟩ := D
 refine ⟨f, fd, _, F.ok sc_Book_may_enter (fun vs H Q E h => ?_) (fun cdv A outer s H vs Q E hr h => ?_), hm, (F.binds fun _ _ _ _ _ _ us hl => match us, hl with | [_, _], _ => rfl), .nil, F.binds fun _ _ _ _ _ _ us hl => match us, hl with | [_, _], _ => rfl⟩
 · obtain ⟨p, d, rfl, q⟩ := h
   rfl
 obtain ⟨p, d, rfl, q⟩ := h
 have nd := sc_Book_may_enter.nd
 refine ⟨_, (pss_one (ps_ret pe_non)), ?_⟩
 exact q
abbrev s_Book_post : Stmt := inClass (top 12) 2
theorem sc_Book_post : FnScope ["self", "day", "about", "lines"] ["self", "day", "about", "lines"] (defScope s_Book_post) := ⟨rfl, rfl, rfl, by decide +kernel, rfl, by decide +kernel, by decide +kernel⟩
theorem ok_Book_post {C_Book : Addr} (D : DefM K C_Book "post" "Book.post" s_Book_post .none) {C_NoFirm C_Unbalanced : Addr} (c_Book_may_enter : CalM P w K mg base CX0 true 1 C_Book "may_enter" ["self", "day"] [] (spMay0 C_Book)) (c_check_entry : Cal P w K mg base (CX1 P w) true 3 "check_entry" ["book", "lines"] [] (spChkE C_NoFirm C_Unbalanced)) (z_tuple : mg "tuple" = none) (z_len : mg "len" = none) (cl_Book : Cls K C_Book) (n_bbook : NoAttr K C_Book "book") (n_bkept : NoAttr K C_Book "kept") : CalM P w K mg base (CX1 P w) true 4 C_Book "post" ["self", "day", "about", "lines"] [] (spPostE C_Book C_NoFirm C_Unbalanced) := by
 obtain ⟨f, fd, F, hm⟩ := D
 obtain ⟨f_Book_may_enter, fd_Book_may_enter, d_Book_may_enter, G_Book_may_enter, m_Book_may_enter, b_Book_may_enter, v_Book_may_enter, b_Book_may_enter1⟩ := c_Book_may_enter
 obtain ⟨f_check_entry, fd_check_entry, d_check_entry, G_check_entry, m_check_entry, k_check_entry, b_check_entry, v_check_entry, b_check_entry1⟩ := c_check_entry
 refine ⟨f, fd, _, F.okX sc_Book_post (fun vs H Q E h => ?_) (fun cdv A outer s H vs Q E hr h => ?_), hm, (F.binds fun _ _ _ _ _ _ us hl => match us, hl with | [_, _, _, _], _ => rfl), .nil, F.binds fun _ _ _ _ _ _ us hl => match us, hl with | [_, _, _, _], _ => rfl⟩
 · obtain ⟨p, kl, f, es, d, ab, l, L, rfl, R, hk, hes, hl, hL, hlen, q1, q2, q3⟩ := h
   rfl
 obtain ⟨p, kl, f, es, d, ab, l, L, rfl, R, hk, hes, hl, hL, hlen, q1, q2, q3⟩ := h
 have nd := sc_Book_post.nd
 refine ⟨_, (pss_cons (ps_expr (pe_meth (pv 0) cl_Book m_Book_may_enter G_Book_may_enter (hr.mono (by decide)) b_Book_may_enter Paired.nil pass0 (pa_cons (pv 1) pa_nil)))
   (pss_cons (ps_expr (pe_callR G_check_entry (hr.mono (by decide)) rfl m_check_entry k_check_entry b_check_entry Paired.nil xe_def (pa_cons (pe_fld (pv 0) rfl) (pa_cons (pv 3) pa_nil))))
   (pss_cons (ps_expr (pe_bm PySem.F.plainAttrs_list PySem.F.slot_list_append PySem.F.type_list_append mt_append (pe_fld (pv 0) rfl) (pa_cons (pe_tup (pa_cons (pv 1) (pa_cons (pv 2) (pa_cons (pe_callTy call_tuple_of rfl z_tuple bt_tuple (pa_cons (pv 3) pa_nil)) pa_nil)))) pa_nil)))
   (pss_one (ps_ret (pe_op op_sub (pe_callB call_len_seq rfl z_len bt_len (pa_cons (pe_fld (pv 0) rfl) pa_nil)) pe_int)))))), ?_⟩
 obtain ⟨dx, fs, hp, hbk, hke, hno⟩ := R.ob
 have hline : 10 ^ 6 ≤ sizeLine := by decide
 refine ⟨_, rfl, p, dx, fs, rfl, hp, hno _ (by decide +kernel), _, rfl, p, d, rfl, ?_⟩
 refine ⟨_, rfl, p, C_Book, dx, fs, _, rfl, hp, cl_Book, n_bbook, hbk, _, rfl, True.intro, f, l, L, rfl, hl, hL, hlen, q1, q2, fun hd H1 e1 => ?_⟩
 refine ⟨_, rfl, p, C_Book, dx, fs, _, rfl, (e1 _ _ hp), cl_Book, n_bkept, hke, .inl ⟨rfl, _, SqL.of (e1 _ _ hk)⟩, _, rfl, _, rfl, _, rfl, l, _, rfl, .inl ⟨SqL.of (e1 _ _ hl), fun t ht => ⟨(by show 3 ≤ sizeLine; decide), fun e he => ?_⟩⟩⟩
 have f1 := same_upd (o := .tup (rf5 L)) ht
 have f2 := same_upd (o := .tup [.int d, .int ab, .ref t]) he
 have f := (e1.trans f1).trans f2
 refine ⟨kl, _, _, rfl, rfl, f _ _ hk, by omega, ?_⟩
 have npk : p ≠ kl := ne_of hp hk (by intro z; cases z)
 have nek : e ≠ kl := ne_of (upd_same (H := _) (a := e) (o := .tup [.int d, .int ab, .ref t])) (f _ _ hk) (by intro z; cases z)
 have ntk : t ≠ kl := ne_of (f2 _ _ (upd_same (H := _) (a := t) (o := .tup (rf5 L)))) (f _ _ hk) (by intro z; cases z)
 refine ⟨_, rfl, p, C_Book, dx, fs, _, rfl, (by rw [upd_ne npk]; exact f _ _ hp), cl_Book, n_bkept, hke, kl, _, rfl, .inl (SqL.of upd_same), _, _, rfl, rfl, ?_⟩
 have hv : ((es ++ [V.ref e]).length : Int) - 1 = es.length := by
   rw [List.length_append]
   show ((es.length + 1 : Nat) : Int) - 1 = _
   omega
 dsimp only
 rw [hv]
 refine q3 hd e t _ (fun b o hb nb => by rw [upd_ne nb]; exact f _ _ hb) upd_same ?_ ?_
 · rw [upd_ne nek]
   exact upd_same
 · rw [upd_ne ntk]
   exact f2 _ _ upd_same
abbrev s_Book_entries : Stmt := inClass (top 12) 3
theorem sc_Book_entries : FnScope ["self"] ["self"] (defScope s_Book_entries) := ⟨rfl, rfl, rfl, by decide +kernel, rfl, by decide +kernel, by decide +kernel⟩
theorem ok_Book_entries {C_Book : Addr} (D : DefM K C_Book "entries" "Book.entries" s_Book_entries .none) (z_list : mg "list" = none) (cl_Book : Cls K C_Book) (n_bbook : NoAttr K C_Book "book") (n_bkept : NoAttr K C_Book "kept") : CalM P w K mg base CX0 true 2 C_Book "entries" ["self"] [] (spEnt C_Book) := by
 obtain ⟨f, fd, F, hm⟩ := D
 refine ⟨f, fd, _, F.ok sc_Book_entries (fun vs H Q E h => ?_) (fun cdv A outer s H vs Q E hr h => ?_), hm, (F.binds fun _ _ _ _ _ _ us hl => match us, hl with | [_], _ => rfl), .nil, F.binds fun _ _ _ _ _ _ us hl => match us, hl with | [_], _ => rfl⟩
 · obtain ⟨p, kl, f, E, rfl, R, hk, hE, hEl, q⟩ := h
   rfl
 obtain ⟨p, kl, f, E, rfl, R, hk, hE, hEl, q⟩ := h
 have nd := sc_Book_entries.nd
 refine ⟨_, (pss_one (ps_ret (pe_lcT (xs := ["day", "about", "lines"]) [] rfl (LcOkT.plain (xs := ["day", "about", "lines"]) (by decide +kernel) (by decide +kernel) rfl (by decide +kernel) (by decide +kernel) (by decide +kernel)) (pi_list (pe_fld (pv 0) rfl)) (pg_tup3T rfl (LcOkT.plain (xs := ["day", "about", "lines"]) (by decide +kernel) (by decide +kernel) rfl (by decide +kernel) (by decide +kernel) (by decide +kernel))) (fun C s2 H2 fp xe => (pe_tup (pa_cons (pv 0) (pa_cons (pv 1) (pa_cons (pe_callTy call_list_ofC rfl z_list bt_list (pa_cons (pv 2) pa_nil)) pa_nil)))))))), ?_⟩
 obtain ⟨dx, fs, hp, hbk, hke, hno⟩ := R.ob
 have hline : 10 ^ 6 ≤ sizeLine := by decide
 refine ⟨_, rfl, p, C_Book, dx, fs, _, rfl, hp, cl_Book, n_bkept, hke, _, rfl, ⟨_, SqL.of hk⟩, ?_⟩
 have el := rfE_len E
 refine lc_list (xs := rfE E) (fun j ys H2 => ∃ T : List En, ys = rfE T ∧ T.length = j ∧ de T = de (E.take j) ∧ TeL H2 T ∧ (∀ t ∈ T, H t.2.2.2.1 = none) ∧ Same H H2) ⟨[], rfl, rfl, rfl, (fun t ht => nomatch ht), (fun t ht => nomatch ht), fun _ _ h => h⟩ (by omega) ?_ ?_ ?_
 · rintro j ys H2 hj ⟨T, rfl, hT, _, _, _, e⟩
   exact ⟨SqL.of (e _ _ hk), by rw [rfE_len]; exact hT⟩
 · rintro j x ys H2 hx ⟨T, rfl, hT, hd, hTe, hTf, e⟩ σ0 h0
   obtain ⟨z, hz, rfl⟩ := rfE_at hx
   obtain ⟨u, v, w, rfl⟩ : ∃ u v w, σ0 = [u, v, w] := by
     rcases σ0 with _ | ⟨u, _ | ⟨v, _ | ⟨w, _ | ⟨w2, r⟩⟩⟩⟩ <;> simp at h0
     exact ⟨u, v, w, rfl⟩
   obtain ⟨h1, h2, h3, h4⟩ := (hE.same e) z (List.mem_of_getElem? hz)
   refine ⟨z.1, _, rfl, SqT.of h1, rfl, _, _, rfl, _, _, rfl, _, _, rfl, rfl, [_, _, _], rfl, rfl, _, rfl, _, rfl, _, rfl, z.2.2.2.1, _, rfl, .inr (SqT.of h2), fun l hl => ⟨(by show 3 ≤ sizeLine; decide), fun n hn => ?_⟩⟩
   have f1 := same_upd (o := .lst (rf5 z.2.2.2.2)) hl
   have f2 := same_upd (o := .tup [.int z.2.1, .int z.2.2.1, .ref l]) hn
   have f12 := f1.trans f2
   refine ⟨T ++ [(n, z.2.1, z.2.2.1, l, z.2.2.2.2)], by rw [rfE_app]; rfl, by rw [List.length_append, hT]; rfl, ?_, fun t ht => ?_, fun t ht => ?_, e.trans f12⟩
   · unfold de at hd ⊢
     rw [take_nx hz, List.map_append, List.map_append, hd]
     rfl
   · rcases List.mem_append.mp ht with m | m
     · exact hTe.same f12 t m
     · rw [List.mem_singleton.mp m]
       exact ⟨upd_same, f2 _ _ upd_same⟩
   · rcases List.mem_append.mp ht with m | m
     · exact hTf t m
     · rw [List.mem_singleton.mp m]
       exact e.free hl
 rintro ys H2 ⟨T, rfl, hT, hd, hTe, hTf, e⟩ r hr1
 rw [rfE_len, List.take_length] at hd
 have f3 := same_upd (o := .lst (rfE T)) hr1
 exact q r T _ (e.trans f3) (e.free hr1) upd_same (hTe.same f3) hTf hd
abbrev s_Book_spots : Stmt := inClass (top 12) 4
theorem sc_Book_spots : FnScope ["self", "upto", "found", "number", "entry", "place", "line"] ["self", "upto"] (defScope s_Book_spots) := ⟨rfl, rfl, rfl, by decide +kernel, rfl, by decide +kernel, by decide +kernel⟩
theorem ok_Book_spots {C_Book : Addr} {T_Book_spots : Addr} (D : DefM K C_Book "spots" "Book.spots" s_Book_spots (.ref T_Book_spots)) {od_Book_spots : Option Addr} {n_Book_spots : Nat} {sl_Book_spots : Array (Option Value)} (lT_Book_spots : K.lookup T_Book_spots = some ⟨.type "tuple", od_Book_spots, .seq #[.none] n_Book_spots, sl_Book_spots⟩) (c_month_of : Cal P w K mg base CX0 true 1 "month_of" ["day"] [] spMon) (z_enumerate : mg "enumerate" = none) (cl_Book : Cls K C_Book) (n_bbook : NoAttr K C_Book "book") (n_bkept : NoAttr K C_Book "kept") : CalM P w K mg base CX0 true 2 C_Book "spots" ["self", "upto"] [.non] (spSpots0 C_Book) := by
 obtain ⟨f, fd, F, hm⟩ := D
 obtain ⟨f_month_of, fd_month_of, d_month_of, G_month_of, m_month_of, k_month_of, b_month_of, v_month_of, b_month_of1⟩ := c_month_of
 refine ⟨f, fd, _, F.ok sc_Book_spots (fun vs H Q E h => ?_) (fun cdv A outer s H vs Q E hr h => ?_), hm, (F.bindsD (ds := []) lT_Book_spots 2 rfl fun _ _ _ _ _ _ us hl => match us, hl with | [_, _], _ => ⟨_, rfl, rfl⟩), (.cons rfl .nil), F.bindsD (ds := [.none]) lT_Book_spots 1 rfl fun _ _ _ _ _ _ us hl => match us, hl with | [_], _ => ⟨_, rfl, rfl⟩⟩
 · obtain ⟨p, kl, f, m, E, rfl, R, hk, hE, hEl, q⟩ := h
   rfl
 obtain ⟨p, kl, f, m, E, rfl, R, hk, hE, hEl, q⟩ := h
 have nd := sc_Book_spots.nd
 refine ⟨_, (pss_cons (ps_set (i := 2) nd rfl (Or.inl rfl) (pe_lst pa_nil))
   (pss_cons (ps_for PassesOwn.never rfl (pi_enum rfl z_enumerate (pa_cons (pe_fld (pv 0) rfl) pa_nil)) (pg_tup rfl (pgs_cons (pg_name (i := 3) nd rfl (Or.inl rfl)) (pgs_cons (pg_name (i := 4) nd rfl (Or.inl rfl)) pgs_nil))) (pss_one (ps_if (PW.pt (pw_or (pt_cmpR op_isN (pv 1) pe_non (nomark _)) (pw_or1 (pt_cmpR op_le (pe_call G_month_of (hr.mono (by decide)) rfl m_month_of k_month_of b_month_of Paired.nil pass0 (pa_cons (pe_ix ix_seq (pv 4) pe_int (fun _ _ => rfl)) pa_nil)) (pv 1) (nomark _))))) (pss_one (ps_for PassesOwn.never rfl (pi_enumT rfl z_enumerate (pa_cons (pe_ix ix_seq (pv 4) pe_int (fun _ _ => rfl)) pa_nil)) (pg_tup rfl (pgs_cons (pg_name (i := 5) nd rfl (Or.inl rfl)) (pgs_cons (pg_name (i := 6) nd rfl (Or.inl rfl)) pgs_nil))) (pss_one (ps_expr (pe_bm PySem.F.plainAttrs_list PySem.F.slot_list_append PySem.F.type_list_append mt_append (pv 2) (pa_cons (pe_tup (pa_cons (pe_tup (pa_cons (pe_fld (pv 0) rfl) (pa_cons (pv 3) (pa_cons (pv 5) pa_nil)))) (pa_cons (pv 6) pa_nil))) pa_nil)))))) pss_nil)))
   (pss_one (ps_ret (pv 2))))), ?_⟩
 obtain ⟨dx, fs, hp, hbk, hke, hno⟩ := R.ob
 cases m with
 | none =>
   have hline : 10 ^ 6 ≤ sizeLine := by decide
   refine ⟨(by show 0 ≤ sizeLine; decide), fun r hr0 => ?_⟩
   have e1 := same_upd (o := .lst []) hr0
   have hD : ∀ i, (upto ((dl E).take i) none).length ≤ 168000 := fun i => by
     have h := upto_len (D := (dl E).take i) (m := none) (fun d hd => by
       obtain ⟨e, he, rfl⟩ := List.mem_map.mp (List.mem_of_mem_take hd)
       exact (hE e he).2.2.2)
     rw [List.length_take] at h
     have : (dl E).length = E.length := List.length_map ..
     omega
   have eN := rfE_len E
   refine ⟨_, rfl, p, C_Book, dx, fs, _, rfl, (e1 _ _ hp), cl_Book, n_bkept, hke, kl, rfl, ⟨_, SqL.of (e1 _ _ hk)⟩, ?_⟩
   refine for_enum (xs := rfE E) (fun i σ H' => ∃ (o3 o4 o5 o6 : Option V) (T : List Tp), σ = [some (.ref p), some .non, some (.ref r), o3, o4, o5, o6] ∧ Same H H' ∧ H' r = some (.lst (rfT T)) ∧ TpL H' f T ∧ T.map (·.2) = spD ((dl E).take i) none) ⟨_, _, _, _, [], rfl, e1, upd_same, (fun z hz => nomatch hz), rfl⟩ ?_ ?_ ?_
   · rintro i σ H1 hi ⟨o3, o4, o5, o6, T, rfl, e, _⟩
     exact SqL.of (e _ _ hk)
   · rintro i x σ H1 t hx ⟨o3, o4, o5, o6, T, rfl, e, hrr, hT, hTu⟩ ht
     obtain ⟨z, hz, rfl⟩ := rfE_at hx
     have hzm := List.mem_of_getElem? hz
     have f1 := same_upd (o := .tup [.int (i : Int), .ref z.1]) ht
     have g1 := e.trans f1
     have hzE := (hE.same g1) z hzm
     have hzT := SqT.of (K := K) hzE.1
     have nx := spD_nx (m := none) (show (dl E)[i]? = some (z.2.1, z.2.2.2.2) by unfold dl; rw [List.getElem?_map, hz]; rfl)
     refine ⟨t, _, rfl, SqT.of upd_same, rfl, _, _, rfl, _, _, rfl, rfl, ?_⟩
     refine ⟨_, rfl, rfl, _, rfl, decT rfl (iteT ?_)⟩
     rw [if_pos (show okM none z.2.1 = true from rfl)] at nx
     refine ⟨_, rfl, .inr (.inl ⟨z.1, _, 2, _, rfl, rfl, hzT, rfl, z.2.2.2.1, rfl, ⟨_, SqT.of hzE.2.1⟩, ?_⟩)⟩
     refine for_enumT (xs := rf5 z.2.2.2.2) (fun j σ H' => ∃ (o5 o6 : Option V) (T' : List Tp), σ = [some (.ref p), some .non, some (.ref r), some (.int (i : Int)), some (.ref z.1), o5, o6] ∧ Same H H' ∧ H' r = some (.lst (rfT T')) ∧ TpL H' f T' ∧ T'.map (·.2) = spD ((dl E).take i) none ++ numL i 0 (z.2.2.2.2.take j)) ⟨_, _, T, rfl, g1, f1 _ _ hrr, (hT.same f1), by rw [hTu]; simp [numL]⟩ ?_ ?_ ?_
     · rintro j σ H2 hj ⟨o5, o6, T', rfl, e2, _⟩
       exact SqT.of ((hE.same e2) z hzm).2.1
     · rintro j x σ H2 t2 hx2 ⟨o5, o6, T', rfl, e2, hr2, hT2, hTu2⟩ ht2
       obtain ⟨y, hy, rfl⟩ := rf5_at hx2
       have f2 := same_upd (o := .tup [.int (j : Int), .ref y.1]) ht2
       have hTl : T'.length ≤ 200000 := by
         have a := congrArg List.length hTu2
         have nl2 := congrArg List.length (numL_map (i : Int) (z.2.2.2.2.take j) 0)
         rw [List.length_map, List.length_take] at nl2
         rw [List.length_map, List.length_append, spD_len] at a
         have b := hD i
         have c := (hE z hzm).2.2.2
         omega
       refine ⟨t2, _, rfl, SqT.of upd_same, rfl, _, _, rfl, _, _, rfl, rfl, ?_⟩
       refine ⟨_, rfl, .inl ⟨rfl, _, SqL.of (f2 _ _ hr2)⟩, _, rfl, p, C_Book, dx, fs, _, rfl, (f2 _ _ (e2 _ _ hp)), cl_Book, n_bbook, hbk, _, rfl, _, rfl, (by show 3 ≤ sizeLine; decide), fun s hs => ⟨_, rfl, (by show 2 ≤ sizeLine; decide), fun u hu => ?_⟩⟩
       have f3 := same_upd (o := .tup [.str f, .int (i : Int), .int (j : Int)]) hs
       have f4 := same_upd (o := .tup [.ref s, .ref y.1]) hu
       have f234 := (f2.trans f3).trans f4
       refine ⟨r, _, _, rfl, rfl, f234 _ _ hr2, by rw [rfT_len]; omega, ?_⟩
       refine ⟨_, _, T' ++ [(u, ((i : Int), (j : Int)), y)], rfl, same_set (e2.trans f234) hr0, by rw [upd_same, rfT_app]; rfl, fun v hv => ?_, ?_⟩
       · rcases List.mem_append.mp hv with w | w
         · obtain ⟨s2, hs2, hs3⟩ := hT2 v w
           exact ⟨s2, tup_keepL (f234 _ _ hs2) (f234 _ _ hr2), tup_keepL (f234 _ _ hs3) (f234 _ _ hr2)⟩
         · rw [List.mem_singleton.mp w]
           exact ⟨s, tup_keepL upd_same (f234 _ _ hr2), tup_keepL (f4 _ _ upd_same) (f234 _ _ hr2)⟩
       · rw [List.map_append, hTu2, numL_nx hy, List.append_assoc]
         rfl
     · rintro σ H2 ⟨o5, o6, T', rfl, e2, hr2, hT2, hTu2⟩
       refine ⟨_, _, _, _, T', rfl, e2, hr2, hT2, ?_⟩
       rw [nx, hTu2, rf5_len, List.take_length]
   rintro σ H1 ⟨o3, o4, o5, o6, T, rfl, e, hrr, hT, hTu⟩
   rw [rfE_len, show (dl E).take E.length = dl E by rw [show E.length = (dl E).length from (List.length_map ..).symm, List.take_length]] at hTu
   exact ⟨_, rfl, q r T _ e hr0 hrr hT hTu⟩
 | some m =>
   have hline : 10 ^ 6 ≤ sizeLine := by decide
   refine ⟨(by show 0 ≤ sizeLine; decide), fun r hr0 => ?_⟩
   have e1 := same_upd (o := .lst []) hr0
   have hD : ∀ i, (upto ((dl E).take i) (some m)).length ≤ 168000 := fun i => by
     have h := upto_len (D := (dl E).take i) (m := some m) (fun d hd => by
       obtain ⟨e, he, rfl⟩ := List.mem_map.mp (List.mem_of_mem_take hd)
       exact (hE e he).2.2.2)
     rw [List.length_take] at h
     have : (dl E).length = E.length := List.length_map ..
     omega
   have eN := rfE_len E
   refine ⟨_, rfl, p, C_Book, dx, fs, _, rfl, (e1 _ _ hp), cl_Book, n_bkept, hke, kl, rfl, ⟨_, SqL.of (e1 _ _ hk)⟩, ?_⟩
   refine for_enum (xs := rfE E) (fun i σ H' => ∃ (o3 o4 o5 o6 : Option V) (T : List Tp), σ = [some (.ref p), some (.int m), some (.ref r), o3, o4, o5, o6] ∧ Same H H' ∧ H' r = some (.lst (rfT T)) ∧ TpL H' f T ∧ T.map (·.2) = spD ((dl E).take i) (some m)) ⟨_, _, _, _, [], rfl, e1, upd_same, (fun z hz => nomatch hz), rfl⟩ ?_ ?_ ?_
   · rintro i σ H1 hi ⟨o3, o4, o5, o6, T, rfl, e, _⟩
     exact SqL.of (e _ _ hk)
   · rintro i x σ H1 t hx ⟨o3, o4, o5, o6, T, rfl, e, hrr, hT, hTu⟩ ht
     obtain ⟨z, hz, rfl⟩ := rfE_at hx
     have hzm := List.mem_of_getElem? hz
     have f1 := same_upd (o := .tup [.int (i : Int), .ref z.1]) ht
     have g1 := e.trans f1
     have hzE := (hE.same g1) z hzm
     have hzT := SqT.of (K := K) hzE.1
     have nx := spD_nx (m := some m) (show (dl E)[i]? = some (z.2.1, z.2.2.2.2) by unfold dl; rw [List.getElem?_map, hz]; rfl)
     refine ⟨t, _, rfl, SqT.of upd_same, rfl, _, _, rfl, _, _, rfl, rfl, ?_⟩
     refine ⟨_, rfl, rfl, _, rfl, decF (fun h => by cases h) ?_⟩
     refine ⟨_, rfl, .inr (.inl ⟨z.1, _, 0, _, rfl, rfl, hzT, rfl, z.2.1, rfl, _, rfl, _, _, rfl, rfl, _, rfl, ?_⟩)⟩
     refine dec2 (fun h => ?_) (fun h => ?_)
     · rw [if_pos (show okM (some m) z.2.1 = true from decide_eq_true h)] at nx
       refine ⟨_, rfl, .inr (.inl ⟨z.1, _, 2, _, rfl, rfl, hzT, rfl, z.2.2.2.1, rfl, ⟨_, SqT.of hzE.2.1⟩, ?_⟩)⟩
       refine for_enumT (xs := rf5 z.2.2.2.2) (fun j σ H' => ∃ (o5 o6 : Option V) (T' : List Tp), σ = [some (.ref p), some (.int m), some (.ref r), some (.int (i : Int)), some (.ref z.1), o5, o6] ∧ Same H H' ∧ H' r = some (.lst (rfT T')) ∧ TpL H' f T' ∧ T'.map (·.2) = spD ((dl E).take i) (some m) ++ numL i 0 (z.2.2.2.2.take j)) ⟨_, _, T, rfl, g1, f1 _ _ hrr, (hT.same f1), by rw [hTu]; simp [numL]⟩ ?_ ?_ ?_
       · rintro j σ H2 hj ⟨o5, o6, T', rfl, e2, _⟩
         exact SqT.of ((hE.same e2) z hzm).2.1
       · rintro j x σ H2 t2 hx2 ⟨o5, o6, T', rfl, e2, hr2, hT2, hTu2⟩ ht2
         obtain ⟨y, hy, rfl⟩ := rf5_at hx2
         have f2 := same_upd (o := .tup [.int (j : Int), .ref y.1]) ht2
         have hTl : T'.length ≤ 200000 := by
           have a := congrArg List.length hTu2
           have nl2 := congrArg List.length (numL_map (i : Int) (z.2.2.2.2.take j) 0)
           rw [List.length_map, List.length_take] at nl2
           rw [List.length_map, List.length_append, spD_len] at a
           have b := hD i
           have c := (hE z hzm).2.2.2
           omega
         refine ⟨t2, _, rfl, SqT.of upd_same, rfl, _, _, rfl, _, _, rfl, rfl, ?_⟩
         refine ⟨_, rfl, .inl ⟨rfl, _, SqL.of (f2 _ _ hr2)⟩, _, rfl, p, C_Book, dx, fs, _, rfl, (f2 _ _ (e2 _ _ hp)), cl_Book, n_bbook, hbk, _, rfl, _, rfl, (by show 3 ≤ sizeLine; decide), fun s hs => ⟨_, rfl, (by show 2 ≤ sizeLine; decide), fun u hu => ?_⟩⟩
         have f3 := same_upd (o := .tup [.str f, .int (i : Int), .int (j : Int)]) hs
         have f4 := same_upd (o := .tup [.ref s, .ref y.1]) hu
         have f234 := (f2.trans f3).trans f4
         refine ⟨r, _, _, rfl, rfl, f234 _ _ hr2, by rw [rfT_len]; omega, ?_⟩
         refine ⟨_, _, T' ++ [(u, ((i : Int), (j : Int)), y)], rfl, same_set (e2.trans f234) hr0, by rw [upd_same, rfT_app]; rfl, fun v hv => ?_, ?_⟩
         · rcases List.mem_append.mp hv with w | w
           · obtain ⟨s2, hs2, hs3⟩ := hT2 v w
             exact ⟨s2, tup_keepL (f234 _ _ hs2) (f234 _ _ hr2), tup_keepL (f234 _ _ hs3) (f234 _ _ hr2)⟩
           · rw [List.mem_singleton.mp w]
             exact ⟨s, tup_keepL upd_same (f234 _ _ hr2), tup_keepL (f4 _ _ upd_same) (f234 _ _ hr2)⟩
         · rw [List.map_append, hTu2, numL_nx hy, List.append_assoc]
           rfl
       · rintro σ H2 ⟨o5, o6, T', rfl, e2, hr2, hT2, hTu2⟩
         refine ⟨_, _, _, _, T', rfl, e2, hr2, hT2, ?_⟩
         rw [nx, hTu2, rf5_len, List.take_length]
     · rw [if_neg (show ¬ okM (some m) z.2.1 = true from fun w => h (of_decide_eq_true w)), List.append_nil] at nx
       exact ⟨_, _, _, _, T, rfl, g1, f1 _ _ hrr, (hT.same f1), by rw [nx]; exact hTu⟩
   rintro σ H1 ⟨o3, o4, o5, o6, T, rfl, e, hrr, hT, hTu⟩
   rw [rfE_len, show (dl E).take E.length = dl E by rw [show E.length = (dl E).length from (List.length_map ..).symm, List.take_length]] at hTu
   exact ⟨_, rfl, q r T _ e hr0 hrr hT hTu⟩
abbrev s_Book_lines_upto : Stmt := inClass (top 12) 5
theorem sc_Book_lines_upto : FnScope ["self", "upto"] ["self", "upto"] (defScope s_Book_lines_upto) := ⟨rfl, rfl, rfl, by decide +kernel, rfl, by decide +kernel, by decide +kernel⟩
theorem ok_Book_lines_upto {C_Book : Addr} {T_Book_lines_upto : Addr} (D : DefM K C_Book "lines_upto" "Book.lines_upto" s_Book_lines_upto (.ref T_Book_lines_upto)) {od_Book_lines_upto : Option Addr} {n_Book_lines_upto : Nat} {sl_Book_lines_upto : Array (Option Value)} (lT_Book_lines_upto : K.lookup T_Book_lines_upto = some ⟨.type "tuple", od_Book_lines_upto, .seq #[.none] n_Book_lines_upto, sl_Book_lines_upto⟩) (c_Book_spots : CalM P w K mg base CX0 true 2 C_Book "spots" ["self", "upto"] [.non] (spSpots0 C_Book)) (cl_Book : Cls K C_Book) (n_bbook : NoAttr K C_Book "book") (n_bkept : NoAttr K C_Book "kept") : CalM P w K mg base CX0 true 3 C_Book "lines_upto" ["self", "upto"] [.non] (spUpto0 C_Book) := by
 obtain ⟨f, fd, F, hm⟩ := D
 obtain ⟨f_Book_spots, fd_Book_spots, d_Book_spots, G_Book_spots, m_Book_spots, b_Book_spots, v_Book_spots, b_Book_spots1⟩ := c_Book_spots
 refine ⟨f, fd, _, F.ok sc_Book_lines_upto (fun vs H Q E h => ?_) (fun cdv A outer s H vs Q E hr h => ?_), hm, (F.bindsD (ds := []) lT_Book_lines_upto 2 rfl fun _ _ _ _ _ _ us hl => match us, hl with | [_, _], _ => ⟨_, rfl, rfl⟩), (.cons rfl .nil), F.bindsD (ds := [.none]) lT_Book_lines_upto 1 rfl fun _ _ _ _ _ _ us hl => match us, hl with | [_], _ => ⟨_, rfl, rfl⟩⟩
 · obtain ⟨p, kl, f, m, E, rfl, R, hk, hE, hEl, q⟩ := h
   rfl
 obtain ⟨p, kl, f, m, E, rfl, R, hk, hE, hEl, q⟩ := h
 have nd := sc_Book_lines_upto.nd
 refine ⟨_, (pss_one (ps_ret (pe_lcT (xs := ["spot", "line"]) [] rfl (LcOkT.plain (xs := ["spot", "line"]) (by decide +kernel) (by decide +kernel) rfl (by decide +kernel) (by decide +kernel) (by decide +kernel)) (pi_list (pe_meth (pv 0) cl_Book m_Book_spots G_Book_spots (hr.mono (by decide)) b_Book_spots Paired.nil pass0 (pa_cons (pv 1) pa_nil))) (pg_tup2T rfl (LcOkT.plain (xs := ["spot", "line"]) (by decide +kernel) (by decide +kernel) rfl (by decide +kernel) (by decide +kernel) (by decide +kernel))) (fun C s2 H2 fp xe => (pv 1))))), ?_⟩
 obtain ⟨dx, fs, hp, hbk, hke, hno⟩ := R.ob
 have hline : 10 ^ 6 ≤ sizeLine := by decide
 refine ⟨_, rfl, p, dx, fs, rfl, hp, hno _ (by decide +kernel), _, rfl, p, kl, f, m, E, rfl, R, hk, hE, hEl, fun r T H1 e1 hr0 hr1 hT hTu => ⟨r, rfl, ⟨_, SqL.of hr1⟩, ?_⟩⟩
 have hTl : T.length ≤ 168000 := by
   have a := congrArg List.length hTu
   rw [List.length_map, spD_len] at a
   have b := upto_len (D := dl E) (m := m) (fun d hd => by
     obtain ⟨e, he, rfl⟩ := List.mem_map.mp hd
     exact (hE e he).2.2.2)
   have c : (dl E).length = E.length := List.length_map ..
   omega
 refine lc_list (xs := rfT T) (fun j ys H2 => ys = (T.take j).map (fun z => V.ref z.2.2.1) ∧ H2 = H1) ⟨rfl, rfl⟩ (by rw [rfT_len]; omega) ?_ ?_ ?_
 · rintro j ys H2 hj ⟨rfl, rfl⟩
   rw [rfT_len] at hj
   exact ⟨SqL.of hr1, by rw [List.length_map, List.length_take]; omega⟩
 · rintro j x ys H2 hx ⟨rfl, rfl⟩ σ0 h0
   obtain ⟨y, hy, rfl⟩ := rfT_at hx
   obtain ⟨u, v, rfl⟩ : ∃ u v, σ0 = [u, v] := by
     rcases σ0 with _ | ⟨u, _ | ⟨v, _ | ⟨w, r⟩⟩⟩ <;> simp at h0
     exact ⟨u, v, rfl⟩
   obtain ⟨s, hs, _⟩ := hT y (List.mem_of_getElem? hy)
   refine ⟨y.1, _, rfl, SqT.of hs, rfl, _, _, rfl, _, _, rfl, rfl, [_, _], rfl, rfl, _, rfl, ?_, rfl⟩
   rw [take_nx hy, List.map_append]
   rfl
 rintro ys H2 ⟨rfl, rfl⟩ l3 hl3
 rw [rfT_len, List.take_length]
 have em : T.map (fun z => V.ref z.2.2.1) = rf5 (upto (dl E) m) := by
   rw [← spD_map, ← hTu]
   unfold rf5
   rw [List.map_map, List.map_map]
   rfl
 rw [em]
 exact q l3 _ (e1.trans (same_upd hl3)) (e1.free hl3) upd_same
abbrev s_Book_figures : Stmt := inClass (top 12) 6
theorem sc_Book_figures : FnScope ["self", "upto"] ["self", "upto"] (defScope s_Book_figures) := ⟨rfl, rfl, rfl, by decide +kernel, rfl, by decide +kernel, by decide +kernel⟩
theorem ok_Book_figures {C_Book : Addr} {T_Book_figures : Addr} (D : DefM K C_Book "figures" "Book.figures" s_Book_figures (.ref T_Book_figures)) {od_Book_figures : Option Addr} {n_Book_figures : Nat} {sl_Book_figures : Array (Option Value)} (lT_Book_figures : K.lookup T_Book_figures = some ⟨.type "tuple", od_Book_figures, .seq #[.none] n_Book_figures, sl_Book_figures⟩) (c_figures_of : Cal P w K mg base CX0 true 2 "figures_of" ["lines"] [] spFigs) (c_Book_lines_upto : CalM P w K mg base CX0 true 3 C_Book "lines_upto" ["self", "upto"] [.non] (spUpto0 C_Book)) (cl_Book : Cls K C_Book) (n_bbook : NoAttr K C_Book "book") (n_bkept : NoAttr K C_Book "kept") : CalM P w K mg base CX0 true 4 C_Book "figures" ["self", "upto"] [.non] (spFigures0 C_Book) := by
 obtain ⟨f, fd, F, hm⟩ := D
 obtain ⟨f_figures_of, fd_figures_of, d_figures_of, G_figures_of, m_figures_of, k_figures_of, b_figures_of, v_figures_of, b_figures_of1⟩ := c_figures_of
 obtain ⟨f_Book_lines_upto, fd_Book_lines_upto, d_Book_lines_upto, G_Book_lines_upto, m_Book_lines_upto, b_Book_lines_upto, v_Book_lines_upto, b_Book_lines_upto1⟩ := c_Book_lines_upto
 refine ⟨f, fd, _, F.ok sc_Book_figures (fun vs H Q E h => ?_) (fun cdv A outer s H vs Q E hr h => ?_), hm, (F.bindsD (ds := []) lT_Book_figures 2 rfl fun _ _ _ _ _ _ us hl => match us, hl with | [_, _], _ => ⟨_, rfl, rfl⟩), (.cons rfl .nil), F.bindsD (ds := [.none]) lT_Book_figures 1 rfl fun _ _ _ _ _ _ us hl => match us, hl with | [_], _ => ⟨_, rfl, rfl⟩⟩
 · obtain ⟨p, kl, f, m, E, rfl, R, hk, hE, hEl, hk64, q⟩ := h
   rfl
 obtain ⟨p, kl, f, m, E, rfl, R, hk, hE, hEl, hk64, q⟩ := h
 have nd := sc_Book_figures.nd
 refine ⟨_, (pss_one (ps_ret (pe_call G_figures_of (hr.mono (by decide)) rfl m_figures_of k_figures_of b_figures_of Paired.nil pass0 (pa_cons (pe_meth (pv 0) cl_Book m_Book_lines_upto G_Book_lines_upto (hr.mono (by decide)) b_Book_lines_upto Paired.nil pass0 (pa_cons (pv 1) pa_nil)) pa_nil)))), ?_⟩
 obtain ⟨dx, fs, hp, hbk, hke, hno⟩ := R.ob
 have hline : 10 ^ 6 ≤ sizeLine := by decide
 have b := upto_len (D := dl E) (m := m) (fun d hd => by
   obtain ⟨e, he, rfl⟩ := List.mem_map.mp hd
   exact (hE e he).2.2.2)
 have c : (dl E).length = E.length := List.length_map ..
 refine ⟨_, rfl, p, dx, fs, rfl, hp, hno _ (by decide +kernel), _, rfl, p, kl, f, m, E, rfl, R, hk, hE, hEl, fun r H1 e1 hr0 hr1 => ?_⟩
 refine ⟨r, upto (dl E) m, rfl, hr1, fun z hz => ?_, by omega, hk64, fun g F H2 e2 hg0 hg hF hFg => q g F H2 (e1.trans e2) (e1.free hg0) hg hF hFg⟩
 unfold upto at hz
 obtain ⟨d, hd, hz⟩ := List.mem_flatMap.mp hz
 obtain ⟨e, he, rfl⟩ := List.mem_map.mp hd
 split at hz
 · exact e1 _ _ ((hE e he).2.2.1 z hz)
 · cases hz
theorem firm_none {f : Str} {L : List Ln} (h : ∀ z ∈ L, z.2.1 = f) : L.find? (fun z => decide (z.2.1 ≠ f)) = none := List.find?_eq_none.mpr fun y hy => by simp [h y hy]
theorem due_good {f : Str} {L : List Ln} (g : Good f L) : dueC f L = none := by
 unfold dueC
 rw [firm_none g.f]
 have h2 : (N21.rs (prsL L)).find? (fun p => decide (p.2 ≠ 0)) = none := List.find?_eq_none.mpr fun y hy => by
   unfold N21.rs at hy
   obtain ⟨c, _, rfl⟩ := List.mem_map.mp hy
   simp [g.c c]
 rw [h2]
 exact if_pos g.w
def spKept : Sp := fun vs H Q _ => ∃ (l : Addr) (L : List Ln), vs = [.ref l] ∧ H l = some (.lst (rf5 L)) ∧ R5 H L ∧ L.length ≤ 30000 ∧ (kys (L.map (·.2.2))).length < 64 ∧
 ∀ (p : Addr) (Z : List Kp) H', Same H H' → H' p = some (.lst (rfk Z)) → RK H' Z → Fig (L.map (·.2.2)) (Z.map (·.2.2.2)) → Q (.ref p) H'
theorem find_firsts {κ : Type} [DecidableEq κ] {p : κ → Bool} {cs : List κ} {i : Nat} {c : κ} (h : ∀ y ∈ cs.take i, p y = false) (hc : cs[i]? = some c) (hp : p c = true) : (N21.firsts cs).find? p = some c := by
 have hi : i < cs.length := (List.getElem?_eq_some_iff.mp hc).1
 have hce : cs[i] = c := (List.getElem?_eq_some_iff.mp hc).2
 have e : cs = cs.take i ++ [c] ++ cs.drop (i + 1) := by
   rw [List.append_assoc, List.singleton_append, ← hce, ← List.drop_eq_getElem_cons hi, List.take_append_drop]
 have hn : c ∉ N21.firsts (cs.take i) := fun m => by
   have := h c (N21.mem_firsts.mp m)
   rw [hp] at this
   cases this
 obtain ⟨T, hT⟩ := N21.foldl_pre (cs.drop (i + 1)) (N21.firsts (cs.take i ++ [c]))
 have e2 : N21.firsts cs = N21.firsts (cs.take i ++ [c]) ++ T := by
   rw [← hT]
   conv => lhs; rw [e]
   unfold N21.firsts
   rw [List.foldl_append]
 rw [e2, N21.firsts_snoc]
 have e3 : N21.add (N21.firsts (cs.take i)) c = N21.firsts (cs.take i) ++ [c] := by
   unfold N21.add
   rw [if_neg hn]
 rw [e3, List.append_assoc, List.find?_append]
 have e4 : (N21.firsts (cs.take i)).find? p = none := List.find?_eq_none.mpr fun y hy w => by
   rw [h y (N21.mem_firsts.mp hy)] at w
   cases w
 rw [e4, List.singleton_append, List.find?_cons, hp]
 rfl
theorem find_rs {P : List (Str × Int)} {i : Nat} {c : Str} {r : Int} (h : ∀ y ∈ P.take i, N21.tot y.1 P = 0) (hc : P[i]? = some (c, r)) (hp : N21.tot c P ≠ 0) : (N21.rs P).find? (fun p => decide (p.2 ≠ 0)) = some (c, N21.tot c P) := by
 unfold N21.rs
 rw [List.find?_map]
 have := find_firsts (p := fun k => decide (N21.tot k P ≠ 0)) (cs := P.map (·.1)) (i := i) (c := c) (fun y hy => by
   rw [← List.map_take] at hy
   obtain ⟨z, hz, rfl⟩ := List.mem_map.mp hy
   simp [h z hz]) (by rw [List.getElem?_map, hc]; rfl) (by simpa using hp)
 show Option.map _ ((N21.firsts (P.map (·.1))).find? fun k => decide (N21.tot k P ≠ 0)) = _
 rw [this]
 rfl
theorem find_rs0 {P : List (Str × Int)} (h : ∀ y ∈ P, N21.tot y.1 P = 0) : (N21.rs P).find? (fun p => decide (p.2 ≠ 0)) = none := List.find?_eq_none.mpr fun y hy w => by
 unfold N21.rs at hy
 obtain ⟨c, hc, rfl⟩ := List.mem_map.mp hy
 obtain ⟨z, hz, e⟩ := List.mem_map.mp (N21.mem_firsts.mp hc)
 have := h z hz
 rw [e] at this
 simp [this] at w
def dT (f : Str) : Str ⊕ (Str × Int) → List V
 | .inl n => [.str "NoFirm", .str n]
 | .inr (c, r) => [.str "Unbalanced", .str f, .str c, .int r]
def spDu7 : Sp := fun vs H Q _ => ∃ (f : Str) (l : Addr) (L : List Ln), vs = [.str f, .ref l] ∧ H l = some (.lst (rf5 L)) ∧ R5 H L ∧ L.length ≤ 5 ∧ (dueC f L = none → ∀ H', Same H H' → Q .non H') ∧ ∀ d, dueC f L = some d → ∀ t H', Same H H' → H' t = some (.tup (dT f d)) → Q (.ref t) H'
def spLn7 : Sp := fun vs H Q _ => ∃ (cp al cl : Addr) (f : Str) (us : List Int) (as cs : List Str), vs = [.ref cp, .str f, .ref al, .ref cl] ∧ H cp = some (.lst (us.map V.int)) ∧ us.length = 5 ∧ (∀ w ∈ us, PySem.Builtin.Int.intBits w ≤ 2 ^ 20) ∧ H al = some (.lst (as.map V.str)) ∧ as.length = 5 ∧ H cl = some (.lst (cs.map V.str)) ∧ cs.length = 3 ∧
 ∀ (l : Addr) (L : List Ln) H', Same H H' → H l = none → H' l = some (.lst (rf5 L)) → R5 H' L → L.length ≤ 5 → dueC f L = none → Q (.ref l) H'
theorem sc__law_cell_at : FnScope ["_law_script", "_law_k"] ["_law_script", "_law_k"] (defScope s__law_cell_at) := ⟨rfl, rfl, rfl, by decide +kernel, rfl, by decide +kernel, by decide +kernel⟩
theorem ok__law_cell_at (D : Def K mg "_law_cell_at" s__law_cell_at .none) (z_len : mg "len" = none) : Cal P w K mg base CX0 cm 1 "_law_cell_at" ["_law_script", "_law_k"] [] (spCell K) := by
 obtain ⟨f, fd, F, hm⟩ := D
 refine ⟨f, fd, _, F.ok sc__law_cell_at (fun vs H Q E h => ?_) (fun cdv A outer s H vs Q E hr h => ?_), hm, F.kp, (F.binds fun _ _ _ _ _ _ us hl => match us, hl with | [_, _], _ => rfl), .nil, F.binds fun _ _ _ _ _ _ us hl => match us, hl with | [_, _], _ => rfl⟩
 · obtain ⟨a, ns, k, rfl, hS, q⟩ := h
   rfl
 obtain ⟨a, ns, k, rfl, hS, q⟩ := h
 have nd := sc__law_cell_at.nd
 refine ⟨_, (pss_cons (ps_if (pt_cmpR op_lt (pv 1) (pe_callB call_len_seq rfl z_len bt_len (pa_cons (pv 0) pa_nil)) (nomark _)) (pss_one (ps_ret (pe_ix ix_seq (pv 0) (pv 1) (fun _ _ => rfl)))) pss_nil)
   (pss_one (ps_ret pe_int))), ?_⟩
 refine ⟨_, rfl, _, rfl, a, _, rfl, .inl hS, _, _, rfl, rfl, _, rfl, ?_⟩
 rw [List.length_map]
 refine dec2 (fun h => ?_) (fun h => ?_)
 · refine ⟨_, rfl, _, rfl, .inl ⟨a, _, k, .int (ns.getD k 0), rfl, rfl, hS, atI_nat ?_, q⟩⟩
   have hk : k < ns.length := by omega
   rw [List.getElem?_map, List.getElem?_eq_getElem hk]
   simp [List.getD, hk]
 · have hk : ns.length ≤ k := by omega
   have e : ns.getD k 0 = 0 := by simp [List.getD, hk]
   rw [e] at q
   exact q
theorem sc__law_whole : FnScope ["_law_found"] ["_law_found"] (defScope s__law_whole) := ⟨rfl, rfl, rfl, by decide +kernel, rfl, by decide +kernel, by decide +kernel⟩
theorem ok__law_whole (D : Def K mg "_law_whole" s__law_whole .none) (z_isinstance : mg "isinstance" = none) (z_int : mg "int" = none) (z_bool : mg "bool" = none) (q_ib : PySem.W.kitOne K (.type "int") (.type "bool") = some false) : Cal P w K mg base CX0 cm 1 "_law_whole" ["_law_found"] [] spWhole := by
 obtain ⟨f, fd, F, hm⟩ := D
 refine ⟨f, fd, _, F.ok sc__law_whole (fun vs H Q E h => ?_) (fun cdv A outer s H vs Q E hr h => ?_), hm, F.kp, (F.binds fun _ _ _ _ _ _ us hl => match us, hl with | [_], _ => rfl), .nil, F.binds fun _ _ _ _ _ _ us hl => match us, hl with | [_], _ => rfl⟩
 · obtain ⟨i, rfl, q⟩ := h
   rfl
 obtain ⟨i, rfl, q⟩ := h
 have nd := sc__law_whole.nd
 refine ⟨_, (pss_one (ps_ret (pe_and (pe_callB call_is rfl z_isinstance bt_isinstance (pa_cons (pv 0) (pa_cons (pe_bltn (v := .ty "int") rfl z_int bt_int rfl) pa_nil))) (pe_one (pe_not (pe_callB call_is rfl z_isinstance bt_isinstance (pa_cons (pv 0) (pa_cons (pe_bltn (v := .ty "bool") rfl z_bool bt_bool rfl) pa_nil)))))))), ?_⟩
 refine ⟨_, rfl, _, _, _, _, _, rfl, .of (.int i), rfl, rfl, true, rfl, iteT ?_⟩
 exact ⟨_, rfl, _, _, _, _, _, rfl, .of (.int i), rfl, q_ib, false, rfl, q⟩
theorem sc__law_mix : FnScope ["_law_cell", "_law_by"] ["_law_cell", "_law_by"] (defScope s__law_mix) := ⟨rfl, rfl, rfl, by decide +kernel, rfl, by decide +kernel, by decide +kernel⟩
theorem ok__law_mix (D : Def K mg "_law_mix" s__law_mix .none) : Cal P w K mg base CX0 cm 1 "_law_mix" ["_law_cell", "_law_by"] [] spMix := by
 obtain ⟨f, fd, F, hm⟩ := D
 refine ⟨f, fd, _, F.ok sc__law_mix (fun vs H Q E h => ?_) (fun cdv A outer s H vs Q E hr h => ?_), hm, F.kp, (F.binds fun _ _ _ _ _ _ us hl => match us, hl with | [_, _], _ => rfl), .nil, F.binds fun _ _ _ _ _ _ us hl => match us, hl with | [_, _], _ => rfl⟩
 · obtain ⟨c, b, rfl, hb, q⟩ := h
   rfl
 obtain ⟨c, b, rfl, hb, q⟩ := h
 have nd := sc__law_mix.nd
 refine ⟨_, (pss_one (ps_ret (pe_op op_fdiv (pe_op op_mod (pe_op op_mulB (pe_op op_add (pe_op op_mod (pv 0) pe_int) pe_int) (pv 1)) pe_int) pe_int))), ?_⟩
 exact ⟨_, rfl, _, _, rfl, rfl, (by show (0 : Int) < 2147483647; decide), _, _, rfl, rfl, _, rfl, _, _, rfl, rfl, mul_of (by omega) (by omega) (by omega) (by omega), _, _, rfl, rfl, (by show (0 : Int) < 2147483399; decide), _, _, rfl, rfl, ⟨by decide, by decide⟩, q _ (by omega) (by omega)⟩
theorem sc__law_names : FnScope ["_law_cell", "_law_many", "_law_letters", "_law_seed", "_law_base", "_law_size", "_law_at", "_law_turn", "_law_names_here", "_law_k"] ["_law_cell", "_law_many"] (defScope s__law_names) := ⟨rfl, rfl, rfl, by decide +kernel, rfl, by decide +kernel, by decide +kernel⟩
theorem ok__law_names (D : Def K mg "_law_names" s__law_names .none) (z_range : mg "range" = none) (z_int : mg "int" = none) : Cal P w K mg base CX0 true 2 "_law_names" ["_law_cell", "_law_many"] [] spNames := by
 obtain ⟨f, fd, F, hm⟩ := D
 refine ⟨f, fd, _, F.ok sc__law_names (fun vs H Q E h => ?_) (fun cdv A outer s H vs Q E hr h => ?_), hm, F.kp, (F.binds fun _ _ _ _ _ _ us hl => match us, hl with | [_, _], _ => rfl), .nil, F.binds fun _ _ _ _ _ _ us hl => match us, hl with | [_, _], _ => rfl⟩
 · obtain ⟨c, m, rfl, hm1, hm8, q⟩ := h
   rfl
 obtain ⟨c, m, rfl, hm1, hm8, q⟩ := h
 have nd := sc__law_names.nd
 refine ⟨_, (pss_cons (ps_set (i := 2) nd rfl (Or.inr rfl) pe_str)
   (pss_cons (ps_set (i := 3) nd rfl (Or.inr rfl) (pe_op op_mod (pv 0) pe_int))
   (pss_cons (ps_set (i := 4) nd rfl (Or.inr rfl) (pe_lc [3] rfl (LcOk.free ["_law_seed"] rfl rfl (List.forall_mem_cons.mpr ⟨rfl, (fun _ h => nomatch h)⟩) (by decide +kernel) rfl (by decide +kernel) rfl (by decide +kernel) (show (["_law_k", "_law_seed"] : List Str).Nodup from by decide +kernel) (List.forall_mem_cons.mpr ⟨⟨_, rfl, rfl, rfl, by decide +kernel⟩, (fun _ h => nomatch h)⟩)) (pi_range1 rfl z_range (pa_cons pe_int pa_nil)) (fun C s2 H2 fp xe => (pe_op op_mod (pe_op op_mod (pe_op op_mulB (pv 1) (pe_op op_add (pe_op op_mulB (pv 0) (pv 0)) pe_int)) pe_int) pe_int))))
   (pss_cons (ps_set (i := 5) nd rfl (Or.inl rfl) (pe_op op_add pe_int (pe_op op_mod (pe_op op_fdiv (pv 3) pe_int) pe_int)))
   (pss_cons (ps_set (i := 6) nd rfl (Or.inr rfl) (pe_op op_mod (pe_op op_fdiv (pv 3) pe_int) (pv 5)))
   (pss_cons (ps_set (i := 7) nd rfl (Or.inl rfl) (pe_op op_mod (pe_op op_fdiv (pv 3) pe_int) (pv 1)))
   (pss_cons (ps_set (i := 8) nd rfl (Or.inl rfl) (pe_lst pa_nil))
   (pss_cons (ps_for PassesOwn.never rfl (pi_range1 rfl z_range (pa_cons (pv 1) pa_nil)) (pg_name (i := 9) nd rfl (Or.inr rfl)) (pss_one (ps_if (pt_cmpR op_eq (pe_op op_mod (pv 3) pe_int) pe_int (nomark _)) (pss_one (ps_expr (pe_bm PySem.F.plainAttrs_list PySem.F.slot_list_append PySem.F.type_list_append mt_append (pv 8) (pa_cons (pe_bm PySem.F.plainAttrs_str PySem.F.slot_str_join PySem.F.type_str_join mt_join pe_str (pa_cons (pe_lc [2, 4] rfl (LcOk.free ["_law_letters", "_law_base"] rfl rfl (List.forall_mem_cons.mpr ⟨rfl, (List.forall_mem_cons.mpr ⟨rfl, (fun _ h => nomatch h)⟩)⟩) (by decide +kernel) rfl (by decide +kernel) rfl (by decide +kernel) (show (["_law_j", "_law_letters", "_law_base"] : List Str).Nodup from by decide +kernel) (List.forall_mem_cons.mpr ⟨⟨_, rfl, rfl, rfl, by decide +kernel⟩, (List.forall_mem_cons.mpr ⟨⟨_, rfl, rfl, rfl, by decide +kernel⟩, (fun _ h => nomatch h)⟩)⟩)) (pi_range1 rfl z_range (pa_cons (pe_op op_add (pv 9) pe_int) pa_nil)) (fun C s2 H2 fp xe => (pe_ix ix_seqC (pv 1) (pe_ix ix_seqC (pv 2) (pv 0) (fun _ _ => rfl)) (fun _ _ => rfl)))) pa_nil)) pa_nil)))) (pss_one (ps_expr (pe_bm PySem.F.plainAttrs_list PySem.F.slot_list_append PySem.F.type_list_append mt_append (pv 8) (pa_cons (pe_bm PySem.F.plainAttrs_str PySem.F.slot_str_join PySem.F.type_str_join mt_join pe_str (pa_cons (pe_lc [2, 4, 9, 6] rfl (LcOk.free ["_law_letters", "_law_k", "_law_base", "_law_at"] rfl rfl (List.forall_mem_cons.mpr ⟨rfl, (List.forall_mem_cons.mpr ⟨rfl, (List.forall_mem_cons.mpr ⟨rfl, (List.forall_mem_cons.mpr ⟨rfl, (fun _ h => nomatch h)⟩)⟩)⟩)⟩) (by decide +kernel) rfl (by decide +kernel) rfl (by decide +kernel) (show (["_law_j", "_law_letters", "_law_base", "_law_k", "_law_at"] : List Str).Nodup from by decide +kernel) (List.forall_mem_cons.mpr ⟨⟨_, rfl, rfl, rfl, by decide +kernel⟩, (List.forall_mem_cons.mpr ⟨⟨_, rfl, rfl, rfl, by decide +kernel⟩, (List.forall_mem_cons.mpr ⟨⟨_, rfl, rfl, rfl, by decide +kernel⟩, (List.forall_mem_cons.mpr ⟨⟨_, rfl, rfl, rfl, by decide +kernel⟩, (fun _ h => nomatch h)⟩)⟩)⟩)⟩)) (pi_range1 rfl z_range (pa_cons (pv 5) pa_nil)) (fun C s2 H2 fp xe => (pe_ix ix_seqC (pv 1) (pe_op op_mod (pe_op op_add (pe_ix ix_seqC (pv 2) (pv 0) (fun _ _ => rfl)) (pe_op op_mulB (pv 3) (pe_callTy call_int1 rfl z_int bt_int (pa_cons (pe_cmpR op_eq (pv 0) (pv 4) (nomark _)) pa_nil)))) pe_int) (fun _ _ => rfl)))) pa_nil)) pa_nil)))))))
   (pss_one (ps_ret (pe_op op_cat (pe_slice sl_list (pv 8) (po_some (pv 7)) po_none) (pe_slice sl_list (pv 8) po_none (po_some (pv 7)))))))))))))), ?_⟩
 have hline : 600 ≤ sizeLine := by decide
 refine ⟨_, rfl, _, _, rfl, rfl, (by show (0 : Int) < 999983; decide), ?_⟩
 refine ⟨_, rfl, by decide, by decide, ?_⟩
 refine lc_range (fun i ys H1 => ∃ bs : List Int, ys = bs.map V.int ∧ bs.length = i ∧ (∀ b ∈ bs, 0 ≤ b ∧ b < 26) ∧ H1 = H) ⟨[], rfl, rfl, (fun b hb => nomatch hb), rfl⟩ (by show 8 ≤ sizeLine; decide) ?_ ?_ ?_
 · rintro i ys H1 hi ⟨bs, rfl, hb, _, rfl⟩
   rw [List.length_map]
   exact hb
 · rintro i ys H1 hi ⟨bs, rfl, hb, hbs, rfl⟩
   have hi8 : i < 8 := hi
   have sq := sq8 i hi8
   refine ⟨_, rfl, _, rfl, _, rfl, _, _, rfl, rfl, mul_of (by omega) (by omega) (by omega) (by omega), _, _, rfl, rfl, _, _, rfl, rfl, mul_of (by omega) (by omega) (by omega) (by omega), _, _, rfl, rfl, (by show (0 : Int) < 7919; decide), _, _, rfl, rfl, (by show (0 : Int) < 26; decide), bs ++ [_], by rw [List.map_append]; rfl, by rw [List.length_append, hb]; rfl, fun b hm => ?_, rfl⟩
   rcases List.mem_append.mp hm with w | w
   · exact hbs b w
   · rw [List.mem_singleton.mp w]
     omega
 rintro ys H0 ⟨bs, rfl, hbn, hbs, rfl⟩ bl hbl
 have hbn8 : bs.length = 8 := hbn
 have eb := same_upd (o := .lst (bs.map V.int)) hbl
 have hat : atN c < 8 ∧ (atN c : Int) < (1 + c % 999983 / 3 % 8) := by
   unfold atN
   have a1 := Int.emod_nonneg (c % 999983 / 24) (show (1 + c % 999983 / 3 % 8) ≠ 0 by omega)
   have a2 := Int.emod_lt_of_pos (c % 999983 / 24) (show 0 < (1 + c % 999983 / 3 % 8) by omega)
   omega
 have hbb8 : ∀ j, j < 8 → 0 ≤ bs.getD j 0 ∧ bs.getD j 0 < 26 := fun j hj => by
   have : bs.getD j 0 = bs[j]'(by omega) := by simp [List.getD, show j < bs.length by omega]
   rw [this]
   exact hbs _ (List.getElem_mem _)
 refine ⟨_, rfl, _, _, rfl, rfl, ⟨by decide, by decide⟩, _, _, rfl, rfl, (by show (0 : Int) < 8; decide), _, _, rfl, rfl, ?_⟩
 refine ⟨_, rfl, _, _, rfl, rfl, ⟨by decide, by decide⟩, _, rfl, _, _, rfl, rfl, (by show (0 : Int) < (1 + c % 999983 / 3 % 8); omega), ?_⟩
 refine ⟨_, rfl, _, _, rfl, rfl, ⟨by decide, by decide⟩, _, rfl, _, _, rfl, rfl, (by show (0 : Int) < m; omega), ?_⟩
 refine ⟨(by show 0 ≤ sizeLine; decide), fun l hl => ?_⟩
 have nbl : bl ≠ l := ne_of_none upd_same hl
 have el := same_upd (o := .lst []) hl
 have hlH := eb.free hl
 refine ⟨_, rfl, _, rfl, by omega, by omega, ?_⟩
 refine for_range (fun i σ H' => ∃ (o : Option V) (xs : List Str), σ = [some (.int c), some (.int m), some (.str L26), some (.int (c % 999983)), some (.ref bl), some (.int (1 + c % 999983 / 3 % 8)), some (.int (c % 999983 / 24 % (1 + c % 999983 / 3 % 8))), some (.int (c % 999983 / 5 % m)), some (.ref l), o] ∧ Same H0 H' ∧ H' l = some (.lst (xs.map V.str)) ∧ xs.length = i ∧ H' bl = some (.lst (bs.map V.int)) ∧ ∀ j x, xs[j]? = some x → Dn5 c bs j x) ⟨_, [], rfl, eb.trans el, upd_same, rfl, el _ _ upd_same, fun j x h => by simp at h⟩ ?_ ?_
 · rintro i σ H1 hi ⟨o, xs, rfl, eH, hll, hxl, hbb, hdn⟩
   have him : i < m := by omega
   refine ⟨_, rfl, _, _, rfl, rfl, (by show (0 : Int) < 3; decide), rfl, _, rfl, ?_⟩
   refine dec2 (fun h => ?_) (fun h => ?_)
   · have h3 : c % 999983 % 3 = 1 := V.int.inj h
     refine ⟨_, rfl, .inl ⟨rfl, _, SqL.of hll⟩, rfl, _, rfl, _, _, rfl, rfl, _, rfl, by omega, by omega, ?_⟩
     refine lc_range (fun j ys H2 => ∃ ls : List Nat, ys = (ls.map sg).map V.str ∧ ls.length = j ∧ (∀ u ∈ ls, 97 ≤ u) ∧ H2 = H1) ⟨[], rfl, rfl, (fun u hu => nomatch hu), rfl⟩ (by omega) ?_ ?_ ?_
     · rintro j ys H2 hj ⟨ls, rfl, hz, _, rfl⟩
       rw [List.length_map, List.length_map]
       exact hz
     · rintro j ys H2 hj ⟨ls, rfl, hz, hv, rfl⟩
       obtain ⟨b, bm, hb⟩ := int_in (ws := bs) (i := 0 + (j : Int)) (by omega) (by omega)
       obtain ⟨b0, b1⟩ := hbs b bm
       refine ⟨_, rfl, _, rfl, _, rfl, .inl ⟨bl, _, _, _, rfl, rfl, SqL.of hbb, hb, .inr (.inr ⟨L26, _, _, rfl, rfl, l26_len, l26_at b0 b1, ?_⟩)⟩⟩
       exact ⟨ls ++ [97 + b.toNat], by rw [List.map_append, List.map_append]; rfl, by rw [List.length_append, hz]; rfl, (fun u hu => (List.mem_append.mp hu).elim (hv u) (fun w => by rw [List.mem_singleton.mp w]; omega)), rfl⟩
     · rintro ys H2 ⟨ls, rfl, hz, hv, rfl⟩ l3 hl3
       have e3 := same_upd (o := .lst ((ls.map sg).map V.str)) hl3
       refine ⟨"", l3, ls.map sg, rfl, rfl, SqL.of upd_same, join_ok (by rw [List.length_map]; omega) sg_len, ?_⟩
       refine ⟨l, _, _, rfl, rfl, e3 _ _ hll, (by rw [List.length_map]; omega), ?_⟩
       refine ⟨_, xs ++ [Txt.join "" (ls.map sg)], rfl, same_set (eH.trans e3) hlH, (by rw [upd_same, List.map_append]; rfl), by rw [List.length_append, hxl]; rfl, ?_, dn_app5 hdn ?_⟩
       · rw [upd_ne nbl]
         exact e3 _ _ hbb
       · unfold Dn5 Dn
         rw [if_pos h3, txt_cps, hz, hxl]
         exact ⟨by omega, let_sg (by omega) (by omega) hv⟩
   · have h3 : ¬ c % 999983 % 3 = 1 := fun z => h (congrArg V.int z)
     refine ⟨_, rfl, .inl ⟨rfl, _, SqL.of hll⟩, rfl, _, rfl, _, rfl, by omega, by omega, ?_⟩
     refine lc_range (fun j ys H2 => ∃ ls : List Nat, ys = (ls.map sg).map V.str ∧ ls.length = j ∧ ((atN c < j → ls[atN c]? = some (97 + ((bs.getD (atN c) 0 + (i : Int)) % 26).toNat)) ∧ ∀ u ∈ ls, 97 ≤ u) ∧ H2 = H1) ⟨[], rfl, rfl, ⟨(fun z => absurd z (Nat.not_lt_zero _)), fun u hu => nomatch hu⟩, rfl⟩ (by omega) ?_ ?_ ?_
     · rintro j ys H2 hj ⟨ls, rfl, hz, _, rfl⟩
       rw [List.length_map, List.length_map]
       exact hz
     · rintro j ys H2 hj ⟨ls, rfl, hz, hv, rfl⟩
       have hb := at_int0 (ws := bs) (n := j) (by omega)
       rw [show ((j : Nat) : Int) = 0 + (j : Int) by omega] at hb
       generalize hbe : bs.getD j 0 = b at hb
       have m0 := Int.emod_nonneg (b + (0 + (i : Int)) * (if decide (V.int (0 + (j : Int)) = V.int (c % 999983 / 24 % (1 + c % 999983 / 3 % 8))) = true then 1 else 0)) (show (26 : Int) ≠ 0 by decide)
       have m1 := Int.emod_lt_of_pos (b + (0 + (i : Int)) * (if decide (V.int (0 + (j : Int)) = V.int (c % 999983 / 24 % (1 + c % 999983 / 3 % 8))) = true then 1 else 0)) (show (0 : Int) < 26 by decide)
       have mi : (if decide (V.int (0 + (j : Int)) = V.int (c % 999983 / 24 % (1 + c % 999983 / 3 % 8))) = true then (1 : Int) else 0) = 0 ∨ (if decide (V.int (0 + (j : Int)) = V.int (c % 999983 / 24 % (1 + c % 999983 / 3 % 8))) = true then (1 : Int) else 0) = 1 := by split <;> simp
       refine ⟨_, rfl, _, rfl, _, rfl, .inl ⟨bl, _, _, _, rfl, rfl, SqL.of hbb, hb, _, rfl, _, rfl, _, rfl, rfl, .inr ⟨_, rfl, _, _, rfl, rfl, mul_of (by omega) (by omega) (by omega) (by omega), _, _, rfl, rfl, _, _, rfl, rfl, (by show (0 : Int) < 26; decide), .inr (.inr ⟨L26, _, _, rfl, rfl, l26_len, l26_at m0 m1, ?_⟩)⟩⟩⟩
       refine ⟨ls ++ [97 + ((b + (0 + (i : Int)) * (if decide (V.int (0 + (j : Int)) = V.int (c % 999983 / 24 % (1 + c % 999983 / 3 % 8))) = true then 1 else 0)) % 26).toNat], by rw [List.map_append, List.map_append]; rfl, by rw [List.length_append, hz]; rfl, ⟨fun ha => ?_, fun u hu => (List.mem_append.mp hu).elim (hv.2 u) (fun w => by rw [List.mem_singleton.mp w]; omega)⟩, rfl⟩
       rcases Nat.lt_or_eq_of_le (Nat.le_of_lt_succ ha) with w | w
       · rw [List.getElem?_append_left (by omega)]
         exact hv.1 w
       · rw [List.getElem?_append_right (by omega), w, hz, Nat.sub_self]
         have an := Int.emod_nonneg (c % 999983 / 24) (show (1 + c % 999983 / 3 % 8) ≠ 0 by omega)
         have hj1 : (V.int (0 + (j : Int)) = V.int (c % 999983 / 24 % (1 + c % 999983 / 3 % 8))) := congrArg V.int (by rw [← w]; unfold atN; omega)
         rw [if_pos (decide_eq_true hj1), hbe]
         show some (97 + ((b + (0 + (i : Int)) * 1) % 26).toNat) = _
         rw [show b + (0 + (i : Int)) * 1 = b + (i : Int) by omega]
     · rintro ys H2 ⟨ls, rfl, hz, hv, rfl⟩ l3 hl3
       have e3 := same_upd (o := .lst ((ls.map sg).map V.str)) hl3
       refine ⟨"", l3, ls.map sg, rfl, rfl, SqL.of upd_same, join_ok (by rw [List.length_map]; omega) sg_len, ?_⟩
       refine ⟨l, _, _, rfl, rfl, e3 _ _ hll, (by rw [List.length_map]; omega), ?_⟩
       refine ⟨_, xs ++ [Txt.join "" (ls.map sg)], rfl, same_set (eH.trans e3) hlH, (by rw [upd_same, List.map_append]; rfl), by rw [List.length_append, hxl]; rfl, ?_, dn_app5 hdn ?_⟩
       · rw [upd_ne nbl]
         exact e3 _ _ hbb
       · unfold Dn5 Dn
         rw [if_neg h3, txt_cps, hxl]
         refine ⟨hv.1 (by omega), let_sg (by omega) (by omega) hv.2⟩
 · rintro σ H1 ⟨o, xs, rfl, eH, hll, hxl, hbb, hdn⟩
   have hxm : xs.length = m := by omega
   have hnd := dn_nodup (by omega) (fun j x h => (hdn j x h).1)
   have hlt : ∀ x ∈ xs, Let x := fun x hx => by
     obtain ⟨j, hj⟩ := List.mem_iff_getElem?.mp hx
     exact (hdn j x hj).2
   obtain ⟨t, ht⟩ : ∃ t : Nat, c % 999983 / 5 % (m : Int) = (t : Int) := Int.eq_ofNat_of_zero_le (Int.emod_nonneg _ (by omega))
   rw [ht]
   refine ⟨_, rfl, _, rfl, _, rfl, l, _, rfl, SqL.of hll, fun x1 hx1 => ?_⟩
   have s1 := same_upd (o := .lst (cutV (xs.map V.str) (some (t : Int)) none)) hx1
   refine ⟨_, rfl, _, rfl, _, rfl, l, _, rfl, SqL.of (s1 _ _ hll), fun x2 hx2 => ?_⟩
   have s2 := same_upd (o := .lst (cutV (xs.map V.str) none (some (t : Int)))) hx2
   obtain ⟨us, hu, lu, nu, mu⟩ := cut_nd xs t hnd
   have hlu := congrArg List.length hu
   rw [List.length_append, List.length_map] at hlu
   refine ⟨x1, x2, _, _, rfl, rfl, s2 _ _ upd_same, upd_same, by omega, fun x3 hx3 => ?_⟩
   rw [hu]
   exact q x3 us _ (((eH.trans s1).trans s2).trans (same_upd hx3)) upd_same (lu.trans hxm) (fun x hx => hlt x ((mu x).mp hx)) nu
theorem sc__law_amount : FnScope ["_law_cell"] ["_law_cell"] (defScope s__law_amount) := ⟨rfl, rfl, rfl, by decide +kernel, rfl, by decide +kernel, by decide +kernel⟩
theorem ok__law_amount (D : Def K mg "_law_amount" s__law_amount .none) : Cal P w K mg base CX0 cm 1 "_law_amount" ["_law_cell"] [] spAmt := by
 obtain ⟨f, fd, F, hm⟩ := D
 refine ⟨f, fd, _, F.ok sc__law_amount (fun vs H Q E h => ?_) (fun cdv A outer s H vs Q E hr h => ?_), hm, F.kp, (F.binds fun _ _ _ _ _ _ us hl => match us, hl with | [_], _ => rfl), .nil, F.binds fun _ _ _ _ _ _ us hl => match us, hl with | [_], _ => rfl⟩
 · obtain ⟨c, rfl, hb, q⟩ := h
   rfl
 obtain ⟨c, rfl, hb, q⟩ := h
 have nd := sc__law_amount.nd
 refine ⟨_, (pss_cons (ps_if (pt_cmpR op_eq (pe_op op_mod (pv 0) pe_int) pe_int (nomark _)) (pss_one (ps_ret (pe_op op_sub (pe_op op_mod (pe_op op_fdiv (pv 0) pe_int) pe_int) pe_int))) pss_nil)
   (pss_cons (ps_if (pt_cmpR op_eq (pe_op op_mod (pv 0) pe_int) pe_int (nomark _)) (pss_one (ps_ret (pe_op op_sub (pe_op op_mod (pe_op op_fdiv (pv 0) pe_int) pe_int) pe_int))) pss_nil)
   (pss_one (ps_ret (pe_op op_sub (pe_op op_mod (pe_op op_mulB (pe_op op_fdiv (pv 0) pe_int) (pe_op op_pow pe_int pe_int)) (pe_op op_add (pe_op op_mulB pe_int (pe_op op_pow pe_int pe_int)) pe_int)) (pe_op op_pow pe_int pe_int)))))), ?_⟩
 refine ⟨_, rfl, _, _, rfl, rfl, (by show (0 : Int) < 3; decide), rfl, _, rfl, ?_⟩
 refine dec2 (fun h => ⟨_, rfl, _, _, rfl, rfl, ⟨by decide, by decide⟩, _, _, rfl, rfl, (by show (0 : Int) < 7; decide), _, _, rfl, rfl, q _ (by omega)⟩) (fun h => ?_)
 refine ⟨_, rfl, _, _, rfl, rfl, (by show (0 : Int) < 3; decide), rfl, _, rfl, ?_⟩
 refine dec2 (fun h => ⟨_, rfl, _, _, rfl, rfl, ⟨by decide, by decide⟩, _, _, rfl, rfl, (by show (0 : Int) < 2000001; decide), _, _, rfl, rfl, q _ (by omega)⟩) (fun h => ?_)
 exact ⟨_, rfl, _, _, rfl, rfl, ⟨by decide, by decide⟩, _, _, rfl, rfl, ⟨by decide, by decide, by decide⟩, _, _, rfl, rfl, mul_ok7 hb, _, _, rfl, rfl, ⟨by decide, by decide, by decide⟩, _, _, rfl, rfl, .of_left (intBits_le_64 (by decide) (by decide)), _, _, rfl, rfl, _, _, rfl, rfl, (by show (0 : Int) < 2 * 10 ^ 38 + 1; decide), _, _, rfl, rfl, ⟨by decide, by decide, by decide⟩, _, _, rfl, rfl, q _ (m38 _)⟩
theorem sc__law_kept : FnScope ["_law_lines_here", "_law_sums", "_law_line", "_law_place", "_law_one"] ["_law_lines_here"] (defScope s__law_kept) := ⟨rfl, rfl, rfl, by decide +kernel, rfl, by decide +kernel, by decide +kernel⟩
theorem ok__law_kept (D : Def K mg "_law_kept" s__law_kept .none) (z_sorted : mg "sorted" = none) : Cal P w K mg base CX0 true 1 "_law_kept" ["_law_lines_here"] [] spKept := by
 obtain ⟨f, fd, F, hm⟩ := D
 refine ⟨f, fd, _, F.ok sc__law_kept (fun vs H Q E h => ?_) (fun cdv A outer s H vs Q E hr h => ?_), hm, F.kp, (F.binds fun _ _ _ _ _ _ us hl => match us, hl with | [_], _ => rfl), .nil, F.binds fun _ _ _ _ _ _ us hl => match us, hl with | [_], _ => rfl⟩
 · obtain ⟨l, L, rfl, hl, hL, hlen, hk64, q⟩ := h
   rfl
 obtain ⟨l, L, rfl, hl, hL, hlen, hk64, q⟩ := h
 have nd := sc__law_kept.nd
 refine ⟨_, (pss_cons (ps_set (i := 1) nd rfl (Or.inr rfl) pe_dnewT)
   (pss_cons (ps_for PassesOwn.never rfl (pi_list (pv 0)) (pg_name (i := 2) nd rfl (Or.inl rfl)) (pss_cons (ps_set (i := 3) nd rfl (Or.inl rfl) (pe_tup (pa_cons (pe_ix ix_seq (pv 2) pe_int (fun _ _ => rfl)) (pa_cons (pe_ix ix_seq (pv 2) pe_int (fun _ _ => rfl)) pa_nil))))
   (pss_cons (ps_set (i := 4) nd rfl (Or.inl rfl) (pe_dget2 (hu_of hr) (pv 1) (pv 3) (pe_tup (pa_cons pe_int (pa_cons pe_int pa_nil))) ⟨rfl, rfl, rfl, rfl⟩))
   (pss_one (ps_dput (hu_of hr) (pv 1) (pv 3) (pe_tup (pa_cons (pe_op op_add (pe_ix ix_seq (pv 4) pe_int (fun _ _ => rfl)) (pe_ix ix_seq (pv 2) pe_int (fun _ _ => rfl))) (pa_cons (pe_op op_add (pe_ix ix_seq (pv 4) pe_int (fun _ _ => rfl)) (pe_ix ix_seq (pv 2) pe_int (fun _ _ => rfl))) pa_nil))) rfl)))))
   (pss_one (ps_ret (pe_lcIf [1] rfl (LcOk.free ["_law_sums"] rfl rfl (List.forall_mem_cons.mpr ⟨rfl, (fun _ h => nomatch h)⟩) (by decide +kernel) rfl (by decide +kernel) rfl (by decide +kernel) (show (["_law_place", "_law_sums"] : List Str).Nodup from by decide +kernel) (List.forall_mem_cons.mpr ⟨⟨_, rfl, rfl, rfl, by decide +kernel⟩, (fun _ h => nomatch h)⟩)) (pi_list (pe_callB (call_sortedT rfl) rfl z_sorted bt_sorted (pa_cons (pv 1) pa_nil))) (fun C s2 H2 fp xe => (pt_cmpR (op_neIC hr) (pe_dget (hu_of hr) (pv 1) (pv 0) (fun _ _ => rfl)) (pe_tup (pa_cons pe_int (pa_cons pe_int pa_nil))) (nomark _))) (fun C s2 H2 fp xe => (pe_tup (pa_cons (pv 0) (pa_cons (pe_dget (hu_of hr) (pv 1) (pv 0) (fun _ _ => rfl)) pa_nil))))))))), ?_⟩
 have hline : 10 ^ 6 ≤ sizeLine := by decide
 refine fun d hd => ?_
 have e1 := same_upd (o := .dT []) hd
 refine ⟨_, rfl, l, rfl, ⟨_, SqL.of (e1 _ _ hl)⟩, ?_⟩
 refine for_list (xs := rf5 L) (fun i σ H' => ∃ (o2 o3 o4 : Option V) (A : Pl → Addr), σ = [some (.ref l), some (.ref d), o2, o3, o4] ∧ Same H H' ∧ Sums H' d ((L.take i).map (·.2.2)) A) ⟨_, _, _, fun _ => d, rfl, e1, upd_same, fun k hk => nomatch hk⟩ ?_ ?_ ?_
 · rintro i σ H1 hi ⟨o2, o3, o4, A, rfl, e, _⟩
   exact SqL.of (e _ _ hl)
 · rintro i x σ H1 hx ⟨o2, o3, o4, A, rfl, e, S⟩
   obtain ⟨z, hz, rfl⟩ := rf5_at hx
   have hzz := e _ _ (hL z (List.mem_of_getElem? hz))
   have hkl := kvT_len A ((L.take i).map (·.2.2))
   rw [List.length_map, List.length_take] at hkl
   have hlz : i < L.length := (List.getElem?_eq_some_iff.mp hz).1
   have hZ := SqT.of (K := K) hzz
   refine ⟨_, rfl, .inr (.inl ⟨z.1, _, 1, _, rfl, rfl, hZ, rfl, _, rfl, .inr (.inl ⟨z.1, _, 2, _, rfl, rfl, hZ, rfl, (by show 2 ≤ sizeLine; decide), fun kp hkp => ?_⟩)⟩)⟩
   have f1 := same_upd (o := .tup [.str z.2.2.1.1, .str z.2.2.1.2]) hkp
   refine ⟨_, rfl, d, rfl, .inr ⟨_, .inl (f1 _ _ S.1)⟩, _, rfl, (by show 2 ≤ sizeLine; decide), fun zp hzp => ?_⟩
   have f2 := same_upd (o := .tup [.int 0, .int 0]) hzp
   have S2 := S.same (f1.trans f2)
   obtain ⟨s, hs, hst⟩ := S2.get z.2.2.1 (z := zp) upd_same
   refine ⟨_, DGet.t (k := kk z.2.2.1) S2.1 (f2 _ _ upd_same), ?_⟩
   rw [hs]
   have hT := SqT.of (K := K) hst
   have hZ2 := SqT.of (K := K) (f2 _ _ (f1 _ _ hzz))
   refine ⟨_, rfl, .inr (.inl ⟨s, _, 0, _, rfl, rfl, hT, rfl, _, rfl, .inr (.inl ⟨z.1, _, 3, _, rfl, rfl, hZ2, rfl, _, _, rfl, rfl, _, rfl, .inr (.inl ⟨s, _, 1, _, rfl, rfl, hT, rfl, _, rfl, .inr (.inl ⟨z.1, _, 4, _, rfl, rfl, hZ2, rfl, _, _, rfl, rfl, (by show 2 ≤ sizeLine; decide), fun np hnp => ?_⟩)⟩)⟩)⟩)⟩
   have f3 := same_upd (o := .tup [.int (ta ((L.take i).map (·.2.2)) z.2.2.1 + z.2.2.2.1), .int (tw ((L.take i).map (·.2.2)) z.2.2.1 + z.2.2.2.2)]) hnp
   have S4 := S2.same f3
   refine ⟨_, rfl, _, rfl, d, _, rfl, DPut.t (k := kk z.2.2.1) S4.1 (f3 _ _ (f2 _ _ upd_same)) (by omega), ?_⟩
   refine ⟨_, _, _, fun k => if k = z.2.2.1 then np else A k, rfl, same_set (e.trans ((f1.trans f2).trans f3)) hd, ?_⟩
   rw [take_nx hz, List.map_append]
   exact S4.put (p := z.2.2) upd_same
 rintro σ H1 ⟨o2, o3, o4, A, rfl, e, S⟩
 rw [rf5_len, List.take_length] at S
 have hkn := kys_len (L.map (·.2.2))
 rw [List.length_map] at hkn
 generalize hP : L.map (·.2.2) = P at S hkn hk64 q
 refine ⟨_, rfl, d, _, kys P, rfl, S.1, kvT_keys A P, by omega, fun sl T hsl perm pw ht => ⟨sl, rfl, ⟨_, SqL.of upd_same⟩, ?_⟩⟩
 have g2 := same_upd (o := .lst (T.map fun z => V.ref z.1)) hsl
 have hTl := perm.length_eq
 rw [List.length_map] at hTl
 have hTn : (T.map fun z => V.ref z.1).length = T.length := List.length_map ..
 refine lc_listIf (xs := T.map fun z => V.ref z.1) (fun i ys H' => ∃ Z : List Kp, ys = rfk Z ∧ Same (upd H1 sl (.lst (T.map fun z => V.ref z.1))) H' ∧ RK H' Z ∧ Z.map (·.2.2.2) = fg P ((T.map (·.2)).take i)) ⟨[], rfl, (fun _ _ h => h), (fun z hz => nomatch hz), rfl⟩ (by omega) ?_ ?_ ?_
 · rintro i ys H2 hi ⟨Z, rfl, e2, _, hZg⟩
   refine ⟨SqL.of (e2 _ _ upd_same), ?_⟩
   have := congrArg List.length hZg
   rw [List.length_map] at this
   unfold fg at this
   rw [List.length_map] at this
   have b := List.length_filter_le (nz P) ((T.map (·.2)).take i)
   rw [List.length_take, List.length_map] at b
   rw [rfk_len]
   omega
 · rintro i x ys H2 hx ⟨Z, rfl, e2, hZ, hZg⟩
   obtain ⟨z, hz, rfl⟩ := ref_at hx
   have hzm := List.mem_of_getElem? hz
   have hzz := e2 _ _ (g2 _ _ (ht z hzm))
   have hkz : z.2 ∈ kys P := perm.mem_iff.mp (List.mem_map_of_mem hzm)
   have S1 := S.same (g2.trans e2)
   refine ⟨_, rfl, _, rfl, d, .ref (A z.2), rfl, kvT_val hkz ▸ DGet.t (k := kk z.2) S1.1 hzz, ?_⟩
   refine ⟨(by show 2 ≤ sizeLine; decide), fun zp hzp => ?_⟩
   have f2 := same_upd (o := .tup [.int 0, .int 0]) hzp
   have S2 := S1.same f2
   refine ⟨A z.2, zp, [ta P z.2, tw P z.2], [0, 0], rfl, rfl, SqT.of (S2.2 z.2 hkz), SqT.of upd_same, _, rfl, ?_⟩
   have nx := fg_nx (P := P) (ks := T.map (·.2)) (i := i) (k := z.2) (by rw [List.getElem?_map, hz]; rfl)
   refine ndec2 (fun h => ?_) (fun h => ?_)
   · have hnz : nz P z.2 = true := by
       unfold nz
       rw [decide_eq_false h]
       rfl
     rw [if_pos hnz] at nx
     refine ⟨_, rfl, _, rfl, _, rfl, d, .ref (A z.2), rfl, kvT_val hkz ▸ DGet.t (k := kk z.2) S2.1 (f2 _ _ hzz), (by show 2 ≤ sizeLine; decide), fun np hnp => ?_⟩
     have f3 := same_upd (o := .tup [.ref z.1, .ref (A z.2)]) hnp
     refine ⟨Z ++ [(np, z.1, A z.2, z.2, ta P z.2, tw P z.2)], by rw [rfk_app]; rfl, e2.trans (f2.trans f3), fun y hy => ?_, ?_⟩
     · rcases List.mem_append.mp hy with w | w
       · exact hZ.same (f2.trans f3) y w
       · rw [List.mem_singleton.mp w]
         exact ⟨upd_same, f3 _ _ (f2 _ _ hzz), f3 _ _ (S2.2 z.2 hkz)⟩
     · rw [nx, List.map_append, hZg]
       rfl
   · have hnz : ¬ nz P z.2 = true := by
       unfold nz
       rw [decide_eq_true h]
       decide
     rw [if_neg hnz] at nx
     exact ⟨Z, rfl, e2.trans f2, hZ.same f2, hZg.trans nx.symm⟩
 rintro ys H2 ⟨Z, rfl, e2, hZ, hZg⟩ rl hrl
 rw [hTn, ← List.map_take, List.take_length] at hZg
 have f := same_upd (o := .lst (rfk Z)) hrl
 exact q rl Z _ (((e.trans g2).trans e2).trans f) upd_same (hZ.same f) ⟨_, perm, pw, hZg⟩
theorem sc__law_due : FnScope ["_law_firm", "_law_lines_here", "_law_line", "_law_rest"] ["_law_firm", "_law_lines_here"] (defScope s__law_due) := ⟨rfl, rfl, rfl, by decide +kernel, rfl, by decide +kernel, by decide +kernel⟩
theorem ok__law_due (D : Def K mg "_law_due" s__law_due .none) (z_sum : mg "sum" = none) : Cal P w K mg base CX0 true 1 "_law_due" ["_law_firm", "_law_lines_here"] [] spDu7 := by
 obtain ⟨f, fd, F, hm⟩ := D
 refine ⟨f, fd, _, F.ok sc__law_due (fun vs H Q E h => ?_) (fun cdv A outer s H vs Q E hr h => ?_), hm, F.kp, (F.binds fun _ _ _ _ _ _ us hl => match us, hl with | [_, _], _ => rfl), .nil, F.binds fun _ _ _ _ _ _ us hl => match us, hl with | [_, _], _ => rfl⟩
 · obtain ⟨f, l, L, rfl, hl, hL, hlen, q1, q2⟩ := h
   rfl
 obtain ⟨f, l, L, rfl, hl, hL, hlen, q1, q2⟩ := h
 have nd := sc__law_due.nd
 refine ⟨_, (pss_cons (ps_for PassesOwn.never rfl (pi_list (pv 1)) (pg_name (i := 2) nd rfl (Or.inr rfl)) (pss_one (ps_if (pt_cmpR op_ne (pe_ix ix_seq (pv 2) pe_int (fun _ _ => rfl)) (pv 0) (nomark _)) (pss_one (ps_ret (pe_tup (pa_cons pe_str (pa_cons (pe_ix ix_seq (pv 2) pe_int (fun _ _ => rfl)) pa_nil))))) pss_nil)))
   (pss_cons (ps_for PassesOwn.never rfl (pi_list (pv 1)) (pg_name (i := 2) nd rfl (Or.inr rfl)) (pss_cons (ps_set (i := 3) nd rfl (Or.inl rfl) (pe_callB (call_sum hr) rfl z_sum bt_sum (pa_cons (pe_lcIf [2] rfl (LcOk.free ["_law_line"] rfl rfl (List.forall_mem_cons.mpr ⟨rfl, (fun _ h => nomatch h)⟩) (by decide +kernel) rfl (by decide +kernel) rfl (by decide +kernel) (show (["_law_other", "_law_line"] : List Str).Nodup from by decide +kernel) (List.forall_mem_cons.mpr ⟨⟨_, rfl, rfl, rfl, by decide +kernel⟩, (fun _ h => nomatch h)⟩)) (pi_list (pv 1)) (fun C s2 H2 fp xe => (pt_cmpR op_eq (pe_ix ix_seqC (pv 0) pe_int (fun _ _ => rfl)) (pe_ix ix_seqC (pv 1) pe_int (fun _ _ => rfl)) (nomark _))) (fun C s2 H2 fp xe => (pe_ix ix_seqC (pv 0) pe_int (fun _ _ => rfl)))) pa_nil)))
   (pss_one (ps_if (pt_cmpR op_ne (pv 3) pe_int (nomark _)) (pss_one (ps_ret (pe_tup (pa_cons pe_str (pa_cons (pv 0) (pa_cons (pe_ix ix_seq (pv 2) pe_int (fun _ _ => rfl)) (pa_cons (pv 3) pa_nil))))))) pss_nil))))
   (pss_cons (ps_set (i := 3) nd rfl (Or.inl rfl) (pe_callB (call_sum hr) rfl z_sum bt_sum (pa_cons (pe_lc [] rfl (LcOk.plain (by decide +kernel) (by decide +kernel) rfl (by decide +kernel) rfl) (pi_list (pv 1)) (fun C s2 H2 fp xe => (pe_ix ix_seqC (pv 0) pe_int (fun _ _ => rfl)))) pa_nil)))
   (pss_cons (ps_if (pt_cmpR op_ne (pv 3) pe_int (nomark _)) (pss_one (ps_ret (pe_tup (pa_cons pe_str (pa_cons (pv 0) (pa_cons pe_str (pa_cons (pv 3) pa_nil))))))) pss_nil)
   (pss_one (ps_ret pe_non)))))), ?_⟩
 have hline : 600 ≤ sizeLine := by decide
 have lm := rf5_len L
 refine ⟨_, rfl, l, rfl, ⟨_, SqL.of hl⟩, ?_⟩
 refine for_list (xs := rf5 L) (fun i σ H' => ∃ (o2 o3 : Option V), σ = [some (.str f), some (.ref l), o2, o3] ∧ H' = H ∧ ∀ y ∈ L.take i, y.2.1 = f) ⟨_, _, rfl, rfl, fun y hy => nomatch hy⟩ ?_ ?_ ?_
 · rintro i σ H1 hi ⟨o2, o3, rfl, rfl, _⟩
   exact SqL.of hl
 · rintro i x σ H1 hx ⟨o2, o3, rfl, rfl, hpre⟩
   obtain ⟨z, hz, rfl⟩ := rf5_at hx
   have hT := SqT.of (K := K) (hL z (List.mem_of_getElem? hz))
   refine ⟨_, rfl, .inr (.inl ⟨z.1, _, 0, _, rfl, rfl, hT, rfl, _, rfl, rfl, _, rfl, ?_⟩)⟩
   refine ndec2 (fun hne => ?_) (fun h0 => ⟨_, _, rfl, rfl, take_snoc hpre hz (V.str.inj h0)⟩)
   have hd : dueC f L = some (.inl z.2.1) := by
     unfold dueC
     rw [find_at (i := i) (fun y hy => by simp [hpre y hy]) hz (by simpa using fun e => hne (congrArg V.str e))]
   exact ⟨_, rfl, .inr (.inl ⟨z.1, _, 0, _, rfl, rfl, hT, rfl, (by show 2 ≤ sizeLine; decide), fun t ht => q2 _ hd t _ (same_upd ht) upd_same⟩)⟩
 rintro σ H1 ⟨o2, o3, rfl, rfl, hpre⟩
 rw [lm, List.take_length] at hpre
 have hno : L.find? (fun z => decide (z.2.1 ≠ f)) = none := firm_none hpre
 refine ⟨_, rfl, l, rfl, ⟨_, SqL.of hl⟩, ?_⟩
 refine for_list (xs := rf5 L) (fun i σ H' => ∃ (o2 o3 : Option V), σ = [some (.str f), some (.ref l), o2, o3] ∧ Same H1 H' ∧ ∀ y ∈ L.take i, N21.tot y.2.2.1.2 (prsL L) = 0) ⟨_, _, rfl, Same.refl _, fun y hy => nomatch hy⟩ ?_ ?_ ?_
 · rintro i σ H2 hi ⟨o2, o3, rfl, e, _⟩
   exact SqL.of (e _ _ hl)
 · rintro i x σ H2 hx ⟨o2, o3, rfl, e, hpre2⟩
   obtain ⟨z, hz, rfl⟩ := rf5_at hx
   have hL2 := hL.same e
   have hT := SqT.of (K := K) (hL2 z (List.mem_of_getElem? hz))
   refine ⟨_, rfl, l, rfl, ⟨_, SqL.of (e _ _ hl)⟩, ?_⟩
   refine lc_listIf (xs := rf5 L) (fun j ys H3 => ys = (((L.take j).filter fun y => decide (y.2.2.1.2 = z.2.2.1.2)).map fun y => y.2.2.2.1).map V.int ∧ H3 = H2) ⟨rfl, rfl⟩ (by omega) ?_ ?_ ?_
   · rintro j ys H3 hj ⟨rfl, rfl⟩
     refine ⟨SqL.of (e _ _ hl), ?_⟩
     rw [List.length_map, List.length_map]
     have h1 := List.length_filter_le (fun y : Ln => decide (y.2.2.1.2 = z.2.2.1.2)) (L.take j)
     rw [List.length_take] at h1
     omega
   · rintro j x ys H3 hx2 ⟨rfl, rfl⟩
     obtain ⟨y, hy, rfl⟩ := rf5_at hx2
     have hTy := SqT.of (K := K) (hL2 y (List.mem_of_getElem? hy))
     refine ⟨_, rfl, .inr (.inl ⟨y.1, _, 2, _, rfl, rfl, hTy, rfl, _, rfl, .inr (.inl ⟨z.1, _, 2, _, rfl, rfl, hT, rfl, rfl, _, rfl, ?_⟩)⟩)⟩
     refine dec2 (fun h => ?_) (fun h => ?_)
     · refine ⟨_, rfl, .inr (.inl ⟨y.1, _, 3, _, rfl, rfl, hTy, rfl, ?_, rfl⟩)⟩
       rw [take_nx hy, List.filter_append, List.filter_cons_of_pos (by simpa using V.str.inj h), List.map_append, List.map_append]
       rfl
     · refine ⟨?_, rfl⟩
       rw [take_nx hy, List.filter_append, List.filter_cons_of_neg (by simpa using fun w => h (congrArg V.str w))]
       simp
   rintro ys H3 ⟨rfl, rfl⟩ s1 hs1
   rw [lm, List.take_length]
   have g := same_upd (o := .lst (((L.filter fun y => decide (y.2.2.1.2 = z.2.2.1.2)).map fun y => y.2.2.2.1).map V.int)) hs1
   refine ⟨s1, _, rfl, SqL.of upd_same, ?_⟩
   have hsum : ((L.filter fun y => decide (y.2.2.1.2 = z.2.2.1.2)).map fun y => y.2.2.2.1).sum = N21.tot z.2.2.1.2 (prsL L) := by
     rw [← N21.tot_filter]
     unfold prsL
     rw [List.filter_map, List.map_map]
     rfl
   rw [hsum]
   refine ⟨_, rfl, rfl, _, rfl, ?_⟩
   refine ndec2 (fun hne => ?_) (fun h0 => ⟨_, _, rfl, e.trans g, take_snoc (P := fun y : Ln => N21.tot y.2.2.1.2 (prsL L) = 0) hpre2 hz (V.int.inj h0)⟩)
   have hd : dueC f L = some (.inr (z.2.2.1.2, N21.tot z.2.2.1.2 (prsL L))) := by
     unfold dueC
     rw [hno]
     have := find_rs (P := prsL L) (i := i) (c := z.2.2.1.2) (r := z.2.2.2.1) (fun y hy => by
       unfold prsL at hy
       rw [← List.map_take] at hy
       obtain ⟨y2, m2, rfl⟩ := List.mem_map.mp hy
       exact hpre2 y2 m2) (by unfold prsL; rw [List.getElem?_map, hz]; rfl) (fun e => hne (congrArg V.int e))
     rw [this]
   exact ⟨_, rfl, _, rfl, .inr (.inl ⟨z.1, _, 2, _, rfl, rfl, (SqT.of (K := K) (g _ _ (hL2 z (List.mem_of_getElem? hz)))), rfl, _, rfl, (by show 4 ≤ sizeLine; decide), fun t ht => q2 _ hd t _ ((e.trans g).trans (same_upd ht)) upd_same⟩)⟩
 rintro σ H2 ⟨o2, o3, rfl, e, hpre2⟩
 rw [lm, List.take_length] at hpre2
 have hno2 := find_rs0 (P := prsL L) (fun y hy => by
   unfold prsL at hy
   obtain ⟨y2, m2, rfl⟩ := List.mem_map.mp hy
   exact hpre2 y2 m2)
 have hL2 := hL.same e
 refine ⟨_, rfl, l, rfl, ⟨_, SqL.of (e _ _ hl)⟩, ?_⟩
 refine lc_list (xs := rf5 L) (fun j ys H3 => ys = ((L.take j).map fun y => y.2.2.2.2).map V.int ∧ H3 = H2) ⟨rfl, rfl⟩ (by omega) ?_ ?_ ?_
 · rintro j ys H3 hj ⟨rfl, rfl⟩
   exact ⟨SqL.of (e _ _ hl), by rw [List.length_map, List.length_map, List.length_take]; omega⟩
 · rintro j x ys H3 hx2 ⟨rfl, rfl⟩
   obtain ⟨y, hy, rfl⟩ := rf5_at hx2
   refine ⟨_, rfl, .inr (.inl ⟨y.1, _, 4, _, rfl, rfl, (SqT.of (K := K) (hL2 y (List.mem_of_getElem? hy))), rfl, ?_, rfl⟩)⟩
   rw [take_nx hy, List.map_append, List.map_append]
   rfl
 rintro ys H3 ⟨rfl, rfl⟩ s1 hs1
 rw [lm, List.take_length]
 have g := same_upd (o := .lst ((L.map fun y => y.2.2.2.2).map V.int)) hs1
 refine ⟨s1, _, rfl, SqL.of upd_same, ?_⟩
 have eg := e.trans g
 refine ⟨_, rfl, rfl, _, rfl, ?_⟩
 refine ndec2 (fun hne => ?_) (fun h0 => ?_)
 · have hd : dueC f L = some (.inr ("", (wrs L).sum)) := by
     unfold dueC
     rw [hno, hno2]
     exact if_neg fun e => hne (congrArg V.int e)
   exact ⟨_, rfl, _, rfl, (by show 4 ≤ sizeLine; decide), fun t ht => q2 _ hd t _ (eg.trans (same_upd ht)) upd_same⟩
 · have hd : dueC f L = none := by
     unfold dueC
     rw [hno, hno2]
     exact if_pos (V.int.inj h0)
   exact q1 hd _ eg
theorem join2 {α β : Type} {G : Prop} (F P : α → β → Prop) (hm : (∀ x y, F x y → P x y) → G) (hr : ∀ x y, F x y → P x y) : G := hm hr
theorem rf5_set (L : List Ln) (t : Nat) (w : Ln) : rf5 (L.set t w) = (rf5 L).set t (.ref w.1) := by
 unfold rf5
 rw [List.map_set]
theorem good_2 {f fi se co : Str} {t1 t2 : Addr} {x w : Int} : Good f [(t1, f, (fi, co), x, w), (t2, f, (se, co), -x, -w)] := by
 refine ⟨fun z hz => ?_, fun k => ?_, ?_, by show 2 ≤ 1000; decide⟩
 · simp only [List.mem_cons, List.not_mem_nil, or_false] at hz
   rcases hz with rfl | rfl <;> rfl
 · show (if co = k then x else 0) + ((if co = k then -x else 0) + 0) = 0
   by_cases h : co = k
   · rw [if_pos h, if_pos h]; omega
   · rw [if_neg h, if_neg h]; omega
 · show w + (-w + 0) = 0
   omega
theorem good_5 {f fi se co ot ro c0 : Str} {t1 t2 t3 t4 t5 : Addr} {x w : Int} : Good f [(t1, f, (fi, co), x, w), (t2, f, (se, co), -x, -w), (t3, f, (se, ot), w, x), (t4, f, (fi, ot), -w, 1 - x), (t5, f, (ro, c0), 0, -1)] := by
 refine ⟨fun z hz => ?_, fun k => ?_, ?_, by show 5 ≤ 1000; decide⟩
 · simp only [List.mem_cons, List.not_mem_nil, or_false] at hz
   rcases hz with rfl | rfl | rfl | rfl | rfl <;> rfl
 · show (if co = k then x else 0) + ((if co = k then -x else 0) + ((if ot = k then w else 0) + ((if ot = k then -w else 0) + ((if c0 = k then 0 else 0) + 0)))) = 0
   by_cases h : co = k <;> by_cases h2 : ot = k <;> by_cases h3 : c0 = k <;> simp only [h, h2, h3, if_true, if_false] <;> omega
 · show w + (-w + (x + (1 - x + (-1 + 0)))) = 0
   omega
def spSp7 : Sp := fun vs H Q _ => ∃ (l sl : Addr) (s0 s1 : Str) (c : Int) (L : List Ln), vs = [.ref l, .int c, .ref sl] ∧ H l = some (.lst (rf5 L)) ∧ R5 H L ∧ L.length ≤ 5 ∧ H sl = some (.lst [.str s0, .str s1]) ∧ ∀ (l' : Addr) (L' : List Ln) H', Same H H' → H l' = none → H' l' = some (.lst (rf5 L')) → R5 H' L' → L'.length ≤ 5 → Q (.ref l') H'
def LnA (H : Hp) (a : Addr) : Prop := ∃ r, H a = some (tup5 (a, r))
theorem sc__law_lines : FnScope ["_law_cells", "_law_firm", "_law_accounts", "_law_coins_here", "_law_pick", "_law_x", "_law_w", "_law_coin", "_law_first", "_law_second", "_law_lines_here", "_law_other"] ["_law_cells", "_law_firm", "_law_accounts", "_law_coins_here"] (defScope s__law_lines) := ⟨rfl, rfl, rfl, by decide +kernel, rfl, by decide +kernel, by decide +kernel⟩
theorem ok__law_lines (D : Def K mg "_law_lines" s__law_lines .none) (c__law_amount : Cal P w K mg base CX0 true 1 "_law_amount" ["_law_cell"] [] spAmt) (c__law_mix : Cal P w K mg base CX0 true 1 "_law_mix" ["_law_cell", "_law_by"] [] spMix) : Cal P w K mg base CX0 true 2 "_law_lines" ["_law_cells", "_law_firm", "_law_accounts", "_law_coins_here"] [] spLn7 := by
 obtain ⟨f, fd, F, hm⟩ := D
 obtain ⟨f__law_amount, fd__law_amount, d__law_amount, G__law_amount, m__law_amount, k__law_amount, b__law_amount, v__law_amount, b__law_amount1⟩ := c__law_amount
 obtain ⟨f__law_mix, fd__law_mix, d__law_mix, G__law_mix, m__law_mix, k__law_mix, b__law_mix, v__law_mix, b__law_mix1⟩ := c__law_mix
 refine ⟨f, fd, _, F.ok sc__law_lines (fun vs H Q E h => ?_) (fun cdv A outer s H vs Q E hr h => ?_), hm, F.kp, (F.binds fun _ _ _ _ _ _ us hl => match us, hl with | [_, _, _, _], _ => rfl), .nil, F.binds fun _ _ _ _ _ _ us hl => match us, hl with | [_, _, _, _], _ => rfl⟩
 · obtain ⟨cp, al, cl, f, us, as, cs, rfl, hcp, hus, hb, hal, has, hcl, hcs, q⟩ := h
   rfl
 obtain ⟨cp, al, cl, f, us, as, cs, rfl, hcp, hus, hb, hal, has, hcl, hcs, q⟩ := h
 have nd := sc__law_lines.nd
 refine ⟨_, (pss_cons (ps_set (i := 4) nd rfl (Or.inl rfl) (pe_ix ix_seq (pv 0) pe_int (fun _ _ => rfl)))
   (pss_cons (ps_if (pt_cmpR op_eq (pe_op op_mod (pv 4) pe_int) pe_int (nomark _)) (pss_one (ps_ret (pe_lst pa_nil))) pss_nil)
   (pss_cons (ps_set (i := 5) nd rfl (Or.inl rfl) (pe_call G__law_amount (hr.mono (by decide)) rfl m__law_amount k__law_amount b__law_amount Paired.nil pass0 (pa_cons (pe_ix ix_seq (pv 0) pe_int (fun _ _ => rfl)) pa_nil)))
   (pss_cons (ps_set (i := 6) nd rfl (Or.inl rfl) (pe_call G__law_amount (hr.mono (by decide)) rfl m__law_amount k__law_amount b__law_amount Paired.nil pass0 (pa_cons (pe_ix ix_seq (pv 0) pe_int (fun _ _ => rfl)) pa_nil)))
   (pss_cons (ps_set (i := 7) nd rfl (Or.inl rfl) (pe_ix ix_seq (pv 3) (pe_op op_mod (pe_call G__law_mix (hr.mono (by decide)) rfl m__law_mix k__law_mix b__law_mix Paired.nil pass0 (pa_cons (pv 4) (pa_cons pe_int pa_nil))) pe_int) (fun _ _ => rfl)))
   (pss_cons (ps_set (i := 8) nd rfl (Or.inl rfl) (pe_ix ix_seq (pv 2) (pe_op op_mod (pe_call G__law_mix (hr.mono (by decide)) rfl m__law_mix k__law_mix b__law_mix Paired.nil pass0 (pa_cons (pv 4) (pa_cons pe_int pa_nil))) pe_int) (fun _ _ => rfl)))
   (pss_cons (ps_set (i := 9) nd rfl (Or.inl rfl) (pe_ix ix_seq (pv 2) (pe_op op_mod (pe_call G__law_mix (hr.mono (by decide)) rfl m__law_mix k__law_mix b__law_mix Paired.nil pass0 (pa_cons (pv 4) (pa_cons pe_int pa_nil))) pe_int) (fun _ _ => rfl)))
   (pss_cons (ps_set (i := 10) nd rfl (Or.inl rfl) (pe_lst (pa_cons (pe_tup (pa_cons (pv 1) (pa_cons (pv 8) (pa_cons (pv 7) (pa_cons (pv 5) (pa_cons (pv 6) pa_nil)))))) (pa_cons (pe_tup (pa_cons (pv 1) (pa_cons (pv 9) (pa_cons (pv 7) (pa_cons (pe_un un_neg (pv 5)) (pa_cons (pe_un un_neg (pv 6)) pa_nil)))))) pa_nil))))
   (pss_cons (ps_if (pt_cmpR op_eq (pe_op op_mod (pv 4) pe_int) pe_int (nomark _)) (pss_cons (ps_set (i := 11) nd rfl (Or.inl rfl) (pe_ix ix_seq (pv 3) (pe_op op_mod (pe_call G__law_mix (hr.mono (by decide)) rfl m__law_mix k__law_mix b__law_mix Paired.nil pass0 (pa_cons (pv 4) (pa_cons pe_int pa_nil))) pe_int) (fun _ _ => rfl)))
   (pss_cons (ps_set (i := 10) nd rfl (Or.inl rfl) (pe_op op_cat (pv 10) (pe_lst (pa_cons (pe_tup (pa_cons (pv 1) (pa_cons (pv 9) (pa_cons (pv 11) (pa_cons (pv 6) (pa_cons (pv 5) pa_nil)))))) (pa_cons (pe_tup (pa_cons (pv 1) (pa_cons (pv 8) (pa_cons (pv 11) (pa_cons (pe_un un_neg (pv 6)) (pa_cons (pe_op op_sub pe_int (pv 5)) pa_nil)))))) pa_nil)))))
   (pss_one (ps_expr (pe_bm PySem.F.plainAttrs_list PySem.F.slot_list_append PySem.F.type_list_append mt_append (pv 10) (pa_cons (pe_tup (pa_cons (pv 1) (pa_cons pe_str (pa_cons (pe_ix ix_seq (pv 3) pe_int (fun _ _ => rfl)) (pa_cons pe_int (pa_cons (pe_un un_neg pe_int) pa_nil)))))) pa_nil)))))) pss_nil)
   (pss_one (ps_ret (pv 10)))))))))))), ?_⟩
 have hline : 600 ≤ sizeLine := by decide
 obtain ⟨pk, mpk, hpk⟩ := int_in (ws := us) (i := 0) (by decide) (by omega)
 obtain ⟨c1, mc1, hc1⟩ := int_in (ws := us) (i := 1) (by decide) (by omega)
 obtain ⟨c2, mc2, hc2⟩ := int_in (ws := us) (i := 2) (by decide) (by omega)
 have hcp' := SqL.of (K := K) hcp
 refine ⟨_, rfl, .inl ⟨cp, _, 0, _, rfl, rfl, hcp', hpk, ?_⟩⟩
 refine ⟨_, rfl, _, _, rfl, rfl, (by show (0 : Int) < 8; decide), rfl, _, rfl, ?_⟩
 refine dec2 (fun h => ?_) (fun _ => ?_)
 · exact ⟨(by show 0 ≤ sizeLine; decide), fun l hl => q l [] _ (same_upd hl) hl upd_same (fun z hz => nomatch hz) (Nat.zero_le _) rfl⟩
 refine ⟨_, rfl, .inl ⟨cp, _, 1, _, rfl, rfl, hcp', hc1, c1, rfl, hb c1 mc1, fun x hx => ?_⟩⟩
 refine ⟨_, rfl, .inl ⟨cp, _, 2, _, rfl, rfl, hcp', hc2, c2, rfl, hb c2 mc2, fun w hw => ?_⟩⟩
 refine ⟨_, rfl, _, rfl, pk, 40692, rfl, by decide, fun w1 w10 w11 => ⟨_, _, rfl, rfl, (by show (0 : Int) < 3; decide), ?_⟩⟩
 obtain ⟨co, _, hco⟩ := str_in (ws := cs) (i := w1 % 3) (by omega) (by omega)
 refine .inl ⟨cl, _, _, _, rfl, rfl, SqL.of hcl, hco, ?_⟩
 refine ⟨_, rfl, _, rfl, pk, 48271, rfl, by decide, fun w2 w20 w21 => ⟨_, _, rfl, rfl, (by show (0 : Int) < 5; decide), ?_⟩⟩
 obtain ⟨fi, _, hfi⟩ := str_in (ws := as) (i := w2 % 5) (by omega) (by omega)
 refine .inl ⟨al, _, _, _, rfl, rfl, SqL.of hal, hfi, ?_⟩
 refine ⟨_, rfl, _, rfl, pk, 69621, rfl, by decide, fun w3 w30 w31 => ⟨_, _, rfl, rfl, (by show (0 : Int) < 5; decide), ?_⟩⟩
 obtain ⟨se, _, hse⟩ := str_in (ws := as) (i := w3 % 5) (by omega) (by omega)
 refine .inl ⟨al, _, _, _, rfl, rfl, SqL.of hal, hse, ?_⟩
 refine ⟨_, rfl, _, rfl, _, rfl, _, rfl, _, rfl, (by show 5 ≤ sizeLine; decide), fun t1 ht1 => ?_⟩
 have g1 := same_upd (o := tup5 (t1, f, (fi, co), x, w)) ht1
 refine ⟨_, rfl, _, rfl, _, rfl, _, rfl, _, rfl, _, rfl, _, rfl, (by show 5 ≤ sizeLine; decide), fun t2 ht2 => ?_⟩
 have g2 := same_upd (o := tup5 (t2, f, (se, co), -x, -w)) ht2
 refine ⟨(by show 2 ≤ sizeLine; decide), fun l hl => ?_⟩
 have g3 := same_upd (o := .lst [.ref t1, .ref t2]) hl
 have k1 : upd H t1 (tup5 (t1, f, (fi, co), x, w)) t1 = some (tup5 (t1, f, (fi, co), x, w)) := upd_same
 have k2 := g3 _ _ (upd_same (H := upd H t1 (tup5 (t1, f, (fi, co), x, w))) (a := t2) (o := tup5 (t2, f, (se, co), -x, -w)))
 have k1 := g3 _ _ (g2 _ _ k1)
 have hl3 := upd_same (H := upd (upd H t1 (tup5 (t1, f, (fi, co), x, w))) t2 (tup5 (t2, f, (se, co), -x, -w))) (a := l) (o := .lst [.ref t1, .ref t2])
 have e3 := (g1.trans g2).trans g3
 have hl0 : H l = none := (g1.trans g2).free hl
 clear g1 g2 g3
 refine ⟨_, rfl, _, _, rfl, rfl, (by show (0 : Int) < 3; decide), rfl, _, rfl, ?_⟩
 refine dec2 (fun h => ?_) (fun _ => ?_)
 rotate_left
 · refine ⟨_, rfl, q l [(t1, f, (fi, co), x, w), (t2, f, (se, co), -x, -w)] _ e3 hl0 hl3 (fun z hz => ?_) (by show 2 ≤ 5; decide) (due_good good_2)⟩
   simp only [List.mem_cons, List.not_mem_nil, or_false] at hz
   rcases hz with rfl | rfl
   · exact k1
   · exact k2
 refine ⟨_, rfl, _, rfl, pk, 39373, rfl, by decide, fun w4 w40 w41 => ⟨_, _, rfl, rfl, (by show (0 : Int) < 3; decide), ?_⟩⟩
 obtain ⟨ot, _, hot⟩ := str_in (ws := cs) (i := w4 % 3) (by omega) (by omega)
 refine .inl ⟨cl, _, _, _, rfl, rfl, SqL.of (e3 _ _ hcl), hot, ?_⟩
 refine ⟨_, rfl, _, rfl, _, rfl, _, rfl, _, rfl, _, rfl, (by show 5 ≤ sizeLine; decide), fun t3 ht3 => ?_⟩
 have g4 := same_upd (o := tup5 (t3, f, (se, ot), w, x)) ht3
 refine ⟨_, rfl, _, rfl, _, rfl, _, rfl, _, rfl, _, rfl, _, _, rfl, rfl, (by show 5 ≤ sizeLine; decide), fun t4 ht4 => ?_⟩
 have g5 := same_upd (o := tup5 (t4, f, (fi, ot), -w, 1 - x)) ht4
 refine ⟨(by show 2 ≤ sizeLine; decide), fun l5 hl5 => ?_⟩
 have g6 := same_upd (o := .lst [.ref t3, .ref t4]) hl5
 have k3 := g6 _ _ (g5 _ _ (upd_same (H := (upd (upd (upd H t1 (tup5 (t1, f, (fi, co), x, w))) t2 (tup5 (t2, f, (se, co), -x, -w))) l (.lst [.ref t1, .ref t2]))) (a := t3) (o := tup5 (t3, f, (se, ot), w, x))))
 have k4 := g6 _ _ (upd_same (H := upd (upd (upd (upd H t1 (tup5 (t1, f, (fi, co), x, w))) t2 (tup5 (t2, f, (se, co), -x, -w))) l (.lst [.ref t1, .ref t2])) t3 (tup5 (t3, f, (se, ot), w, x))) (a := t4) (o := tup5 (t4, f, (fi, ot), -w, 1 - x)))
 have e6 := (g4.trans g5).trans g6
 refine ⟨l, l5, _, _, rfl, rfl, e6 _ _ hl3, upd_same, (by show 4 ≤ sizeLine; decide), fun l6 hl6 => ?_⟩
 have g7 := same_upd (o := .lst [.ref t1, .ref t2, .ref t3, .ref t4]) hl6
 have hl60 : H l6 = none := (e3.trans e6).free hl6
 have e7 := e6.trans g7
 have k3 := g7 _ _ k3
 have k4 := g7 _ _ k4
 have k1 := e7 _ _ k1
 have k2 := e7 _ _ k2
 have hl66 := upd_same (H := upd (upd (upd (upd (upd (upd H t1 (tup5 (t1, f, (fi, co), x, w))) t2 (tup5 (t2, f, (se, co), -x, -w))) l (.lst [.ref t1, .ref t2])) t3 (tup5 (t3, f, (se, ot), w, x))) t4 (tup5 (t4, f, (fi, ot), -w, 1 - x))) l5 (.lst [.ref t3, .ref t4])) (a := l6) (o := .lst [.ref t1, .ref t2, .ref t3, .ref t4])
 have hcl7 := e7 _ _ (e3 _ _ hcl)
 have e37 := e3.trans e7
 obtain ⟨c0, _, hc0⟩ := str_in (ws := cs) (i := 0) (by decide) (by omega)
 refine ⟨_, rfl, .inl ⟨rfl, _, SqL.of hl66⟩, _, rfl, _, rfl, .inl ⟨cl, _, 0, _, rfl, rfl, SqL.of hcl7, hc0, _, rfl, (by show 5 ≤ sizeLine; decide), fun t5 ht5 => ?_⟩⟩
 have g8 := same_upd (o := tup5 (t5, f, ("*rounding", c0), 0, -1)) ht5
 have e38 := e37.trans g8
 refine ⟨l6, _, _, rfl, rfl, g8 _ _ hl66, (by show 4 < _; decide), ?_⟩
 refine ⟨_, rfl, q l6 [(t1, f, (fi, co), x, w), (t2, f, (se, co), -x, -w), (t3, f, (se, ot), w, x), (t4, f, (fi, ot), -w, 1 - x), (t5, f, ("*rounding", c0), 0, -1)] _ (same_set e38 hl60) hl60 upd_same (fun z hz => ?_) (by show 5 ≤ 5; decide) (due_good good_5)⟩
 simp only [List.mem_cons, List.not_mem_nil, or_false] at hz
 rcases hz with rfl | rfl | rfl | rfl | rfl
 · exact tup_keepL (g8 _ _ k1) (g8 _ _ hl66)
 · exact tup_keepL (g8 _ _ k2) (g8 _ _ hl66)
 · exact tup_keepL (g8 _ _ k3) (g8 _ _ hl66)
 · exact tup_keepL (g8 _ _ k4) (g8 _ _ hl66)
 · exact tup_keepL upd_same (g8 _ _ hl66)
theorem sc__law_spoilt : FnScope ["_law_lines_here", "_law_cell", "_law_strange", "_law_made", "_law_at", "_law_line"] ["_law_lines_here", "_law_cell", "_law_strange"] (defScope s__law_spoilt) := ⟨rfl, rfl, rfl, by decide +kernel, rfl, by decide +kernel, by decide +kernel⟩
theorem ok__law_spoilt (D : Def K mg "_law_spoilt" s__law_spoilt .none) (c__law_mix : Cal P w K mg base CX0 true 1 "_law_mix" ["_law_cell", "_law_by"] [] spMix) (z_list : mg "list" = none) (z_len : mg "len" = none) : Cal P w K mg base CX0 true 2 "_law_spoilt" ["_law_lines_here", "_law_cell", "_law_strange"] [] spSp7 := by
 obtain ⟨f, fd, F, hm⟩ := D
 obtain ⟨f__law_mix, fd__law_mix, d__law_mix, G__law_mix, m__law_mix, k__law_mix, b__law_mix, v__law_mix, b__law_mix1⟩ := c__law_mix
 refine ⟨f, fd, _, F.ok sc__law_spoilt (fun vs H Q E h => ?_) (fun cdv A outer s H vs Q E hr h => ?_), hm, F.kp, (F.binds fun _ _ _ _ _ _ us hl => match us, hl with | [_, _, _], _ => rfl), .nil, F.binds fun _ _ _ _ _ _ us hl => match us, hl with | [_, _, _], _ => rfl⟩
 · obtain ⟨l, sl, s0, s1, c, L, rfl, hl, hL, hlen, hsl, q⟩ := h
   rfl
 obtain ⟨l, sl, s0, s1, c, L, rfl, hl, hL, hlen, hsl, q⟩ := h
 have nd := sc__law_spoilt.nd
 refine ⟨_, (pss_cons (ps_set (i := 3) nd rfl (Or.inl rfl) (pe_callTy call_list_of rfl z_list bt_list (pa_cons (pv 0) pa_nil)))
   (pss_cons (ps_if (pt_cmpR (op_eqLen hr) (pv 3) (pe_lst pa_nil) (nomark _)) (pss_one (ps_ret (pv 3))) pss_nil)
   (pss_cons (ps_set (i := 4) nd rfl (Or.inl rfl) (pe_op op_mod (pe_call G__law_mix (hr.mono (by decide)) rfl m__law_mix k__law_mix b__law_mix Paired.nil pass0 (pa_cons (pv 1) (pa_cons pe_int pa_nil))) (pe_callB call_len_seq rfl z_len bt_len (pa_cons (pv 3) pa_nil))))
   (pss_cons (ps_set (i := 5) nd rfl (Or.inl rfl) (pe_ix ix_seq (pv 3) (pv 4) (fun _ _ => rfl)))
   (pss_cons (ps_if (pt_cmpR op_eq (pe_op op_mod (pv 1) pe_int) pe_int (nomark _)) (pss_one (ps_set (i := 5) nd rfl (Or.inl rfl) (pe_op op_catT (pe_tup (pa_cons (pe_ix ix_seq (pv 2) pe_int (fun _ _ => rfl)) pa_nil)) (pe_slice sl_tup (pv 5) (po_some pe_int) po_none)))) pss_nil)
   (pss_cons (ps_if (pt_cmpR op_eq (pe_op op_mod (pe_op op_fdiv (pv 1) pe_int) pe_int) pe_int (nomark _)) (pss_one (ps_set (i := 5) nd rfl (Or.inl rfl) (pe_op op_catT (pe_slice sl_tup (pv 5) po_none (po_some pe_int)) (pe_tup (pa_cons (pe_op op_add (pe_op op_add (pe_ix ix_seq (pv 5) pe_int (fun _ _ => rfl)) pe_int) (pe_op op_mod (pe_call G__law_mix (hr.mono (by decide)) rfl m__law_mix k__law_mix b__law_mix Paired.nil pass0 (pa_cons (pv 1) (pa_cons pe_int pa_nil))) (pe_op op_pow pe_int pe_int))) (pa_cons (pe_ix ix_seq (pv 5) pe_int (fun _ _ => rfl)) pa_nil)))))) pss_nil)
   (pss_cons (ps_if (pt_cmpR op_eq (pe_op op_mod (pe_op op_fdiv (pv 1) pe_int) pe_int) pe_int (nomark _)) (pss_one (ps_set (i := 5) nd rfl (Or.inl rfl) (pe_op op_catT (pe_slice sl_tup (pv 5) po_none (po_some pe_int)) (pe_tup (pa_cons (pe_op op_sub (pe_op op_sub (pe_ix ix_seq (pv 5) pe_int (fun _ _ => rfl)) pe_int) (pe_op op_mod (pe_call G__law_mix (hr.mono (by decide)) rfl m__law_mix k__law_mix b__law_mix Paired.nil pass0 (pa_cons (pv 1) (pa_cons pe_int pa_nil))) (pe_op op_pow pe_int pe_int))) pa_nil))))) pss_nil)
   (pss_cons (ps_asg (pv 5) (pg_sub (pv 3) (pv 4) set_list))
   (pss_cons (ps_if (pt_cmpR op_eq (pe_op op_mod (pe_op op_fdiv (pv 1) pe_int) pe_int) pe_int (nomark _)) (pss_cons (ps_set (i := 4) nd rfl (Or.inl rfl) (pe_op op_mod (pe_call G__law_mix (hr.mono (by decide)) rfl m__law_mix k__law_mix b__law_mix Paired.nil pass0 (pa_cons (pv 1) (pa_cons pe_int pa_nil))) (pe_callB call_len_seq rfl z_len bt_len (pa_cons (pv 3) pa_nil))))
   (pss_one (ps_asg (pe_op op_catT (pe_tup (pa_cons (pe_ix ix_seq (pv 2) pe_int (fun _ _ => rfl)) pa_nil)) (pe_slice sl_tup (pe_ix ix_seq (pv 3) (pv 4) (fun _ _ => rfl)) (po_some pe_int) po_none)) (pg_sub (pv 3) (pv 4) set_list)))) pss_nil)
   (pss_one (ps_ret (pv 3)))))))))))), ?_⟩
 rw [show ∀ x0 x1 x2 : V, L2.start ["_law_lines_here", "_law_cell", "_law_strange", "_law_made", "_law_at", "_law_line"] [x0, x1, x2] = [some x0, some x1, some x2, none, none, none] from fun _ _ _ => rfl]
 have hline : 600 ≤ sizeLine := by decide
 refine ⟨_, rfl, l, _, rfl, .inl (SqL.of hl), fun m hm => ?_⟩
 have g1 := same_upd (o := .lst (rf5 L)) hm
 have hmm : upd H m (.lst (rf5 L)) m = some (.lst (rf5 L)) := upd_same
 generalize upd H m (.lst (rf5 L)) = H1 at g1 hmm ⊢
 have rl := rf5_len L
 refine ⟨_, rfl, (by show 0 ≤ sizeLine; decide), fun n hn => ?_⟩
 have g2 := same_upd (o := .lst []) hn
 have hm2 := g2 _ _ hmm
 have e2 := g1.trans g2
 refine ⟨m, n, _, _, rfl, rfl, SqL.of hm2, SqL.of upd_same, ?_⟩
 by_cases hL0 : L.length = 0
 · have z := List.length_eq_zero_iff.mp hL0
   rw [z] at hm2 ⊢
   refine .inr ⟨⟨rfl, fun j x y w => by unfold rf5 at w; simp at w⟩, true, rfl, iteT ?_⟩
   exact ⟨_, rfl, q m [] _ e2 hm hm2 (fun z hz => nomatch hz) (Nat.zero_le _)⟩
 refine .inl ⟨by rw [rl]; exact hL0, false, rfl, iteF ?_⟩
 generalize upd H1 n (.lst []) = H2 at g2 hm2 e2 ⊢
 have hL2 := hL.same e2
 refine ⟨_, rfl, c, 30269, rfl, by decide, fun w1 w10 w11 => ⟨_, rfl, m, _, rfl, .inl (SqL.of hm2), _, _, rfl, rfl, (by show (0 : Int) < ((rf5 L).length : Int); omega), ?_⟩⟩
 obtain ⟨t, ht⟩ : ∃ t : Nat, w1 % ((rf5 L).length : Int) = (t : Int) := Int.eq_ofNat_of_zero_le (Int.emod_nonneg _ (by omega))
 have htl := Int.emod_lt_of_pos w1 (show (0 : Int) < ((rf5 L).length : Int) by omega)
 dsimp only
 rw [ht] at htl ⊢
 obtain ⟨v, hv⟩ : ∃ v, L[t]? = some v := ⟨_, List.getElem?_eq_getElem (by omega)⟩
 have hat : atI (rf5 L) ((t : Nat) : Int) = some (.ref v.1) := atI_nat (by unfold rf5; rw [List.getElem?_map, hv]; rfl)
 have hvv : H2 v.1 = some (.tup [.str v.2.1, .str v.2.2.1.1, .str v.2.2.1.2, .int v.2.2.2.1, .int v.2.2.2.2]) := hL2 v (List.mem_of_getElem? hv)
 have hix : ixN (rf5 L).length ((t : Nat) : Int) = some t := by
   unfold ixN
   rw [if_pos (by omega), if_pos (by omega)]
   simp
 refine ⟨_, rfl, _, rfl, .inl ⟨m, _, _, _, rfl, rfl, SqL.of hm2, hat, ?_⟩⟩
 simp only [List.set_cons_zero, List.set_cons_succ]
 apply join2 (fun (a : Addr) (H3 : Hp) => LnA H3 a ∧ Same H2 H3)
 · intro kk
   refine ⟨_, rfl, _, _, rfl, rfl, (by show (0 : Int) < 4; decide), rfl, _, rfl, ?_⟩
   refine dec2 (fun h => ?a) (fun h => ?b)
   case b =>
     obtain ⟨a1, ea⟩ : ∃ x, x = v.1 := ⟨_, rfl⟩
     obtain ⟨H4, eH⟩ : ∃ x, x = H2 := ⟨_, rfl⟩
     rw [← ea, ← eH]
     exact kk a1 H4 ⟨by rw [ea, eH]; exact ⟨v.2, hvv⟩, by rw [eH]; exact Same.refl _⟩
   case a =>
     refine ⟨_, rfl, .inl ⟨sl, _, 0, _, rfl, rfl, SqL.of (e2 _ _ hsl), rfl, (by show 1 ≤ sizeLine; decide), fun t0 ht0 => ?_⟩⟩
     have b0 := same_upd (o := .tup [.str s0]) ht0
     refine ⟨_, rfl, _, rfl, v.1, _, rfl, SqT.of (b0 _ _ hvv), (fun h => absurd h.1 (by show ¬ (HT.sIx 5 0 (some 1) = 0); decide)), fun t1 ht1 => ?_⟩
     rw [show cutV [.str v.2.1, .str v.2.2.1.1, .str v.2.2.1.2, .int v.2.2.2.1, .int v.2.2.2.2] (some 1) none = [.str v.2.2.1.1, .str v.2.2.1.2, .int v.2.2.2.1, .int v.2.2.2.2] from rfl]
     have b1 := same_upd (o := .tup [.str v.2.2.1.1, .str v.2.2.1.2, .int v.2.2.2.1, .int v.2.2.2.2]) ht1
     refine ⟨t0, t1, _, _, rfl, rfl, SqT.of (b1 _ _ upd_same), SqT.of upd_same, (fun h => nomatch h), (by show 5 ≤ sizeLine; decide), (fun h => nomatch h), fun _ t2 ht2 => ?_⟩
     have b2 := same_upd (o := .tup [.str s0, .str v.2.2.1.1, .str v.2.2.1.2, .int v.2.2.2.1, .int v.2.2.2.2]) ht2
     have bb := (b0.trans b1).trans b2
     exact kk t2 _ ⟨⟨(s0, v.2.2), upd_same⟩, bb⟩
 rintro a H3 ⟨⟨r, hr⟩, e3⟩
 have hr : H3 a = some (.tup [.str r.1, .str r.2.1.1, .str r.2.1.2, .int r.2.2.1, .int r.2.2.2]) := hr
 have e23 := e2.trans e3
 simp only [List.set_cons_zero, List.set_cons_succ]
 apply join2 (fun (a : Addr) (H4 : Hp) => LnA H4 a ∧ Same H3 H4)
 · intro kk
   refine ⟨_, rfl, _, _, rfl, rfl, ⟨by decide, by decide⟩, _, _, rfl, rfl, (by show (0 : Int) < 4; decide), rfl, _, rfl, ?_⟩
   refine dec2 (fun h => ?a) (fun h => ?b)
   case b =>
     obtain ⟨a1, ea⟩ : ∃ x, x = a := ⟨_, rfl⟩
     obtain ⟨H4, eH⟩ : ∃ x, x = H3 := ⟨_, rfl⟩
     rw [← ea, ← eH]
     exact kk a1 H4 ⟨by rw [ea, eH]; exact ⟨r, hr⟩, by rw [eH]; exact Same.refl _⟩
   case a =>
     refine ⟨_, rfl, _, rfl, a, _, rfl, SqT.of hr, (fun h => absurd h.2 (by show ¬ (HT.sIx 5 5 (some 3) = 5); decide)), fun t0 ht0 => ?_⟩
     rw [show cutV [.str r.1, .str r.2.1.1, .str r.2.1.2, .int r.2.2.1, .int r.2.2.2] none (some 3) = [.str r.1, .str r.2.1.1, .str r.2.1.2] from rfl]
     have b0 := same_upd (o := .tup [.str r.1, .str r.2.1.1, .str r.2.1.2]) ht0
     have hr0 := SqT.of (K := K) (b0 _ _ hr)
     refine ⟨_, rfl, .inr (.inl ⟨a, _, 3, _, rfl, rfl, hr0, rfl, _, _, rfl, rfl, _, rfl, c, 39373, rfl, by decide, fun w2 w20 w21 => ⟨_, _, rfl, rfl, ⟨by decide, by decide, by decide⟩, _, _, rfl, rfl, (by show (0 : Int) < 10 ^ 6; decide), _, _, rfl, rfl, _, rfl, .inr (.inl ⟨a, _, 4, _, rfl, rfl, hr0, rfl, (by show 2 ≤ sizeLine; decide), fun t1 ht1 => ?_⟩)⟩⟩)⟩
     have b1 := same_upd (o := .tup [.int (r.2.2.1 + 1 + w2 % (10 : Int) ^ (6 : Int).toNat), .int r.2.2.2]) ht1
     refine ⟨t0, t1, _, _, rfl, rfl, SqT.of (b1 _ _ upd_same), SqT.of upd_same, (fun h => nomatch h), (by show 5 ≤ sizeLine; decide), (fun h => nomatch h), fun _ t2 ht2 => ?_⟩
     have b2 := same_upd (o := .tup [.str r.1, .str r.2.1.1, .str r.2.1.2, .int (r.2.2.1 + 1 + w2 % (10 : Int) ^ (6 : Int).toNat), .int r.2.2.2]) ht2
     exact kk t2 _ ⟨⟨(r.1, r.2.1, r.2.2.1 + 1 + w2 % (10 : Int) ^ (6 : Int).toNat, r.2.2.2), upd_same⟩, (b0.trans b1).trans b2⟩
 rintro a4 H4 ⟨⟨r, hr⟩, e4⟩
 have hr : H4 a4 = some (.tup [.str r.1, .str r.2.1.1, .str r.2.1.2, .int r.2.2.1, .int r.2.2.2]) := hr
 have e24 := e23.trans e4
 simp only [List.set_cons_zero, List.set_cons_succ]
 apply join2 (fun (a : Addr) (H5 : Hp) => LnA H5 a ∧ Same H4 H5)
 · intro kk
   refine ⟨_, rfl, _, _, rfl, rfl, ⟨by decide, by decide⟩, _, _, rfl, rfl, (by show (0 : Int) < 4; decide), rfl, _, rfl, ?_⟩
   refine dec2 (fun h => ?a) (fun h => ?b)
   case b =>
     obtain ⟨a1, ea⟩ : ∃ x, x = a4 := ⟨_, rfl⟩
     obtain ⟨H5, eH⟩ : ∃ x, x = H4 := ⟨_, rfl⟩
     rw [← ea, ← eH]
     exact kk a1 H5 ⟨by rw [ea, eH]; exact ⟨r, hr⟩, by rw [eH]; exact Same.refl _⟩
   case a =>
     refine ⟨_, rfl, _, rfl, a4, _, rfl, SqT.of hr, (fun h => absurd h.2 (by show ¬ (HT.sIx 5 5 (some 4) = 5); decide)), fun t0 ht0 => ?_⟩
     rw [show cutV [.str r.1, .str r.2.1.1, .str r.2.1.2, .int r.2.2.1, .int r.2.2.2] none (some 4) = [.str r.1, .str r.2.1.1, .str r.2.1.2, .int r.2.2.1] from rfl]
     have b0 := same_upd (o := .tup [.str r.1, .str r.2.1.1, .str r.2.1.2, .int r.2.2.1]) ht0
     have hr0 := SqT.of (K := K) (b0 _ _ hr)
     refine ⟨_, rfl, .inr (.inl ⟨a4, _, 4, _, rfl, rfl, hr0, rfl, _, _, rfl, rfl, _, rfl, c, 40014, rfl, by decide, fun w2 w20 w21 => ⟨_, _, rfl, rfl, ⟨by decide, by decide, by decide⟩, _, _, rfl, rfl, (by show (0 : Int) < 10 ^ 6; decide), _, _, rfl, rfl, (by show 1 ≤ sizeLine; decide), fun t1 ht1 => ?_⟩⟩)⟩
     have b1 := same_upd (o := .tup [.int (r.2.2.2 - 1 - w2 % (10 : Int) ^ (6 : Int).toNat)]) ht1
     refine ⟨t0, t1, _, _, rfl, rfl, SqT.of (b1 _ _ upd_same), SqT.of upd_same, (fun h => nomatch h), (by show 5 ≤ sizeLine; decide), (fun h => nomatch h), fun _ t2 ht2 => ?_⟩
     have b2 := same_upd (o := .tup [.str r.1, .str r.2.1.1, .str r.2.1.2, .int r.2.2.1, .int (r.2.2.2 - 1 - w2 % (10 : Int) ^ (6 : Int).toNat)]) ht2
     exact kk t2 _ ⟨⟨(r.1, r.2.1, r.2.2.1, r.2.2.2 - 1 - w2 % (10 : Int) ^ (6 : Int).toNat), upd_same⟩, (b0.trans b1).trans b2⟩
 rintro a5 H5 ⟨⟨r, hr⟩, e5⟩
 have e25 := e24.trans e5
 have hm5 := e5 _ _ (e4 _ _ (e3 _ _ hm2))
 refine ⟨_, rfl, _, rfl, _, rfl, m, _, _, _, rfl, rfl, hm5, hix, ?_⟩
 have eF : Same H (upd H5 m (.lst ((rf5 L).set t (.ref a5)))) := same_set e25 hm
 have hmF : upd H5 m (.lst ((rf5 L).set t (.ref a5))) m = some (.lst (rf5 (L.set t (a5, r)))) := by
   rw [upd_same, rf5_set]
 have hLF : R5 (upd H5 m (.lst ((rf5 L).set t (.ref a5)))) (L.set t (a5, r)) := fun y hy => by
   rcases List.mem_or_eq_of_mem_set hy with w | w
   · exact tup_keepL (e25 _ _ (hL y w)) hm5
   · rw [w]
     exact tup_keepL hr hm5
 have hlF : (L.set t (a5, r)).length = L.length := List.length_set ..
 generalize upd H5 m (.lst ((rf5 L).set t (.ref a5))) = H6 at eF hmF hLF ⊢
 generalize L.set t (a5, r) = M at hmF hLF hlF
 clear hr hm5 e25 e5 e24 e4 e23 e3 hvv hat hv hL2
 simp only [List.set_cons_zero, List.set_cons_succ]
 refine ⟨_, rfl, _, _, rfl, rfl, ⟨by decide, by decide⟩, _, _, rfl, rfl, (by show (0 : Int) < 4; decide), rfl, _, rfl, ?_⟩
 refine dec2 (fun h => ?_) (fun h => ⟨_, rfl, q m M H6 eF hm hmF hLF (by omega)⟩)
 have rM := rf5_len M
 refine ⟨_, rfl, c, 16807, rfl, by decide, fun w2 w20 w21 => ⟨_, rfl, m, _, rfl, .inl (SqL.of hmF), _, _, rfl, rfl, (by show (0 : Int) < ((rf5 M).length : Int); omega), ?_⟩⟩
 obtain ⟨t', ht'⟩ : ∃ t : Nat, w2 % ((rf5 M).length : Int) = (t : Int) := Int.eq_ofNat_of_zero_le (Int.emod_nonneg _ (by omega))
 have htl' := Int.emod_lt_of_pos w2 (show (0 : Int) < ((rf5 M).length : Int) by omega)
 dsimp only
 rw [ht'] at htl' ⊢
 obtain ⟨v', hv'⟩ : ∃ v, M[t']? = some v := ⟨_, List.getElem?_eq_getElem (by omega)⟩
 have hat' : atI (rf5 M) ((t' : Nat) : Int) = some (.ref v'.1) := atI_nat (by unfold rf5; rw [List.getElem?_map, hv']; rfl)
 have hvv' : H6 v'.1 = some (.tup [.str v'.2.1, .str v'.2.2.1.1, .str v'.2.2.1.2, .int v'.2.2.2.1, .int v'.2.2.2.2]) := hLF v' (List.mem_of_getElem? hv')
 have hix' : ixN (rf5 M).length ((t' : Nat) : Int) = some t' := by
   unfold ixN
   rw [if_pos (by omega), if_pos (by omega)]
   simp
 refine ⟨_, rfl, .inl ⟨sl, _, 1, _, rfl, rfl, SqL.of (eF _ _ hsl), rfl, (by show 1 ≤ sizeLine; decide), fun t0 ht0 => ?_⟩⟩
 have b0 := same_upd (o := .tup [.str s1]) ht0
 refine ⟨_, rfl, _, rfl, .inl ⟨m, _, _, _, rfl, rfl, SqL.of (b0 _ _ hmF), hat', _, rfl, v'.1, _, rfl, SqT.of (b0 _ _ hvv'), (fun h => absurd h.1 (by show ¬ (HT.sIx 5 0 (some 1) = 0); decide)), fun t1 ht1 => ?_⟩⟩
 rw [show cutV [.str v'.2.1, .str v'.2.2.1.1, .str v'.2.2.1.2, .int v'.2.2.2.1, .int v'.2.2.2.2] (some 1) none = [.str v'.2.2.1.1, .str v'.2.2.1.2, .int v'.2.2.2.1, .int v'.2.2.2.2] from rfl]
 have b1 := same_upd (o := .tup [.str v'.2.2.1.1, .str v'.2.2.1.2, .int v'.2.2.2.1, .int v'.2.2.2.2]) ht1
 refine ⟨t0, t1, _, _, rfl, rfl, SqT.of (b1 _ _ upd_same), SqT.of upd_same, (fun h => nomatch h), (by show 5 ≤ sizeLine; decide), (fun h => nomatch h), fun _ t2 ht2 => ?_⟩
 have b2 := same_upd (o := .tup [.str s1, .str v'.2.2.1.1, .str v'.2.2.1.2, .int v'.2.2.2.1, .int v'.2.2.2.2]) ht2
 have bb := (b0.trans b1).trans b2
 have hmB := bb _ _ hmF
 refine ⟨_, rfl, _, rfl, m, _, _, _, rfl, rfl, hmB, hix', ?_⟩
 refine ⟨_, rfl, q m (M.set t' (t2, s1, v'.2.2)) _ (same_set (eF.trans bb) hm) hm (by rw [upd_same, rf5_set]) (fun y hy => ?_) (by rw [List.length_set]; omega)⟩
 rcases List.mem_or_eq_of_mem_set hy with w | w
 · exact tup_keepL (bb _ _ (hLF y w)) hmB
 · rw [w]
   exact tup_keepL upd_same hmB
theorem pe_fldXS {X : Cx} {x : Addr} {e : Expr} {f : Str} {pos : Pos} {ta : TE} (he : PE (sup X x) e ta) (hb : attributeBase e f (sup X x).env (eval e (sup X x).env) = eval e (sup X x).env) : PE (sup X x) (.Attribute e f pos) (tFldX X.K ta f) := pe_fldX (X := sup X x) he hb
def spRf7 (C : Addr) : Sp := fun vs H Q _ => ∃ (p kl : Addr) (f : Str) (es : List V) (d : Int) (l : Addr) (L : List Ln) (dd : Str ⊕ (Str × Int)), vs = [.ref p, .int d, .ref l] ∧ KB0 C H p kl f ∧ H kl = some (.lst es) ∧ es.length ≤ 100 ∧ H l = some (.lst (rf5 L)) ∧ R5 H L ∧ L.length ≤ 5 ∧ dueC f L = some dd ∧ ∀ t H', Same H H' → H' t = some (.tup (dT f dd)) → Q (.ref t) H'
def spBb7 (C : Addr) : Sp := fun vs H Q _ => ∃ (p kl : Addr) (f : Str) (es : List V) (d : Int) (l t : Addr) (L : List Ln) (dd : Str ⊕ (Str × Int)), vs = [.ref p, .int d, .ref l, .ref t] ∧ KB0 C H p kl f ∧ H kl = some (.lst es) ∧ es.length ≤ 100 ∧ H l = some (.lst (rf5 L)) ∧ R5 H L ∧ L.length ≤ 5 ∧ dueC f L = some dd ∧ H t = some (.tup (dT f dd)) ∧ ∀ H', Same H H' → Q (.bl true) H'
theorem sc__law_refused : FnScope ["_law_book", "_law_day", "_law_lines_here", "_law_told", "e"] ["_law_book", "_law_day", "_law_lines_here"] (defScope s__law_refused) := ⟨rfl, rfl, rfl, by decide +kernel, rfl, by decide +kernel, by decide +kernel⟩
theorem ok__law_refused (D : Def K mg "_law_refused" s__law_refused .none) {C_Book C_NoFirm C_Unbalanced : Addr} (c_Book_post : CalM P w K mg base (CX1 P w) true 4 C_Book "post" ["self", "day", "about", "lines"] [] (spPostE C_Book C_NoFirm C_Unbalanced)) (m_NoFirm : mg "NoFirm" = some (.ref C_NoFirm)) (m_Unbalanced : mg "Unbalanced" = some (.ref C_Unbalanced)) (q_nn : PySem.W.exmOne K (.ref C_NoFirm) (.ref C_NoFirm) = some true) (q_un : PySem.W.exmOne K (.ref C_Unbalanced) (.ref C_NoFirm) = some false) (q_uu : PySem.W.exmOne K (.ref C_Unbalanced) (.ref C_Unbalanced) = some true) (X_NoFirm : XCls K C_NoFirm) (X_Unbalanced : XCls K C_Unbalanced) (n_NoFirmname : NoAttr K C_NoFirm "name") (n_Unbalancedbook : NoAttr K C_Unbalanced "book") (n_Unbalancedcoin : NoAttr K C_Unbalanced "coin") (n_Unbalancedrest : NoAttr K C_Unbalanced "rest") (cl_Book : Cls K C_Book) : Cal P w K mg base CX0 true 5 "_law_refused" ["_law_book", "_law_day", "_law_lines_here"] [] (spRf7 C_Book) := by
 obtain ⟨f, fd, F, hm⟩ := D
 obtain ⟨f_Book_post, fd_Book_post, d_Book_post, G_Book_post, m_Book_post, b_Book_post, v_Book_post, b_Book_post1⟩ := c_Book_post
 refine ⟨f, fd, _, F.ok sc__law_refused (fun vs H Q E h => ?_) (fun cdv A outer s H vs Q E hr h => ?_), hm, F.kp, (F.binds fun _ _ _ _ _ _ us hl => match us, hl with | [_, _, _], _ => rfl), .nil, F.binds fun _ _ _ _ _ _ us hl => match us, hl with | [_, _, _], _ => rfl⟩
 · obtain ⟨p, kl, f, es, d, l, L, dd, rfl, R, hk, hes, hl, hL, hlen, hdd, q⟩ := h
   rfl
 obtain ⟨p, kl, f, es, d, l, L, dd, rfl, R, hk, hes, hl, hL, hlen, hdd, q⟩ := h
 have nd := sc__law_refused.nd
 refine ⟨_, (pss_cons (ps_set (i := 3) nd rfl (Or.inl rfl) pe_non)
   (pss_cons (ps_tryH rfl rfl (fun pn E' R Ek hpo hxe => (pss_one (ps_expr (pe_methR (pv 0) cl_Book m_Book_post G_Book_post (hr.mono (by decide)) b_Book_post Paired.nil hxe (pa_cons (pv 1) (pa_cons pe_int (pa_cons (pv 2) pa_nil))))))) (ph_as (i := 4) nd rfl rfl rfl m_NoFirm (fun _ => (pss_one (ps_set (i := 3) nd rfl (Or.inl rfl) (pe_tup (pa_cons pe_str (pa_cons (pe_fldXS (pv 4) rfl) pa_nil)))))) (ph_as (i := 4) nd rfl rfl rfl m_Unbalanced (fun _ => (pss_one (ps_set (i := 3) nd rfl (Or.inl rfl) (pe_tup (pa_cons pe_str (pa_cons (pe_fldXS (pv 4) rfl) (pa_cons (pe_fldXS (pv 4) rfl) (pa_cons (pe_fldXS (pv 4) rfl) pa_nil)))))))) ph_nil)))
   (pss_one (ps_ret (pv 3))))), ?_⟩
 obtain ⟨dx, fs, hp, hbk, hke, hno⟩ := R.ob
 refine ⟨_, rfl, p, dx, fs, rfl, hp, hno "post" (by decide +kernel), _, rfl, _, rfl, rfl, p, kl, f, es, d, 1, l, L, rfl, R, hk, hes, hl, hL, hlen, (fun n hd e H1 e1 he => .inl ⟨q_nn, fun x hx => ?_⟩), (fun c r hd e H1 e1 he => .inr ⟨q_un, .inl ⟨q_uu, fun x hx => ?_⟩⟩), fun hd => by rw [hdd] at hd; cases hd⟩
 · have nx : e ≠ x := ne_of_none he hx
   obtain rfl : dd = .inl n := Option.some.inj (hdd.symm.trans hd)
   refine ⟨_, rfl, x, C_NoFirm, e, _, _, rfl, upd_same, (by rw [upd_ne nx]; exact he), X_NoFirm, n_NoFirmname, xf1_name _, (by show 2 ≤ sizeLine; decide), fun t ht => ?_⟩
   exact ⟨_, rfl, q t _ ((e1.trans (same_upd hx)).trans (same_upd ht)) upd_same⟩
 · have nx : e ≠ x := ne_of_none he hx
   obtain rfl : dd = .inr (c, r) := Option.some.inj (hdd.symm.trans hd)
   refine ⟨_, rfl, x, C_Unbalanced, e, _, _, rfl, upd_same, (by rw [upd_ne nx]; exact he), X_Unbalanced, n_Unbalancedbook, xf3_book _ _ _, _, rfl, x, C_Unbalanced, e, _, _, rfl, upd_same, (by rw [upd_ne nx]; exact he), X_Unbalanced, n_Unbalancedcoin, xf3_coin _ _ _, _, rfl, x, C_Unbalanced, e, _, _, rfl, upd_same, (by rw [upd_ne nx]; exact he), X_Unbalanced, n_Unbalancedrest, xf3_rest _ _ _, (by show 4 ≤ sizeLine; decide), fun t ht => ?_⟩
   exact ⟨_, rfl, q t _ ((e1.trans (same_upd hx)).trans (same_upd ht)) upd_same⟩
theorem sc__law_by_base : FnScope ["_law_book", "_law_day", "_law_lines_here", "_law_due_here", "_law_good", "e"] ["_law_book", "_law_day", "_law_lines_here", "_law_due_here"] (defScope s__law_by_base) := ⟨rfl, rfl, rfl, by decide +kernel, rfl, by decide +kernel, by decide +kernel⟩
theorem ok__law_by_base (D : Def K mg "_law_by_base" s__law_by_base .none) {C_Book C_BooksError C_Closed C_NoFirm C_Unbalanced : Addr} (c_Book_post : CalM P w K mg base (CX1 P w) true 4 C_Book "post" ["self", "day", "about", "lines"] [] (spPostE C_Book C_NoFirm C_Unbalanced)) (z_isinstance : mg "isinstance" = none) (z_ValueError : mg "ValueError" = none) (m_BooksError : mg "BooksError" = some (.ref C_BooksError)) (m_Closed : mg "Closed" = some (.ref C_Closed)) (m_NoFirm : mg "NoFirm" = some (.ref C_NoFirm)) (m_Unbalanced : mg "Unbalanced" = some (.ref C_Unbalanced)) (q_mNoFirm : PySem.W.exmOne K (.ref C_NoFirm) (.ref C_BooksError) = some true) (q_mUnbalanced : PySem.W.exmOne K (.ref C_Unbalanced) (.ref C_BooksError) = some true) (q_vNoFirm : PySem.W.kitOne K (.ref C_NoFirm) (.type "ValueError") = some true) (q_kNoFirmClosed : PySem.W.kitOne K (.ref C_NoFirm) (.ref C_Closed) = some false) (q_kNoFirmNoFirm : PySem.W.kitOne K (.ref C_NoFirm) (.ref C_NoFirm) = some true) (q_kNoFirmUnbalanced : PySem.W.kitOne K (.ref C_NoFirm) (.ref C_Unbalanced) = some false) (q_vUnbalanced : PySem.W.kitOne K (.ref C_Unbalanced) (.type "ValueError") = some true) (q_kUnbalancedClosed : PySem.W.kitOne K (.ref C_Unbalanced) (.ref C_Closed) = some false) (q_kUnbalancedNoFirm : PySem.W.kitOne K (.ref C_Unbalanced) (.ref C_NoFirm) = some false) (q_kUnbalancedUnbalanced : PySem.W.kitOne K (.ref C_Unbalanced) (.ref C_Unbalanced) = some true) (X_NoFirm : XCls K C_NoFirm) (X_Unbalanced : XCls K C_Unbalanced) (cl_Book : Cls K C_Book) : Cal P w K mg base CX0 true 5 "_law_by_base" ["_law_book", "_law_day", "_law_lines_here", "_law_due_here"] [] (spBb7 C_Book) := by
 obtain ⟨f, fd, F, hm⟩ := D
 obtain ⟨f_Book_post, fd_Book_post, d_Book_post, G_Book_post, m_Book_post, b_Book_post, v_Book_post, b_Book_post1⟩ := c_Book_post
 refine ⟨f, fd, _, F.ok sc__law_by_base (fun vs H Q E h => ?_) (fun cdv A outer s H vs Q E hr h => ?_), hm, F.kp, (F.binds fun _ _ _ _ _ _ us hl => match us, hl with | [_, _, _, _], _ => rfl), .nil, F.binds fun _ _ _ _ _ _ us hl => match us, hl with | [_, _, _, _], _ => rfl⟩
 · obtain ⟨p, kl, f, es, d, l, t, L, dd, rfl, R, hk, hes, hl, hL, hlen, hdd, ht, q⟩ := h
   rfl
 obtain ⟨p, kl, f, es, d, l, t, L, dd, rfl, R, hk, hes, hl, hL, hlen, hdd, ht, q⟩ := h
 have nd := sc__law_by_base.nd
 refine ⟨_, (pss_cons (ps_set (i := 4) nd rfl (Or.inl rfl) pe_bl)
   (pss_cons (ps_try (i := 5) nd rfl rfl rfl rfl rfl m_BooksError (fun pn E' R Ek hpo hxe => (pss_one (ps_expr (pe_methR (pv 0) cl_Book m_Book_post G_Book_post (hr.mono (by decide)) b_Book_post Paired.nil hxe (pa_cons (pv 1) (pa_cons pe_int (pa_cons (pv 2) pa_nil))))))) (fun _ => (pss_cons (ps_set (i := 4) nd rfl (Or.inl rfl) (pe_and (pe_callB call_isS rfl z_isinstance bt_isinstance (pa_cons (pv 5) (pa_cons (pe_bltn (v := .ty "ValueError") rfl z_ValueError bt_ValueError rfl) pa_nil))) (pe_one (pe_not (pe_callB call_isS rfl z_isinstance bt_isinstance (pa_cons (pv 5) (pa_cons (pe_glob (v := .ref C_Closed) rfl m_Closed rfl) pa_nil)))))))
   (pss_cons (ps_set (i := 4) nd rfl (Or.inl rfl) (pe_and (pv 4) (pe_one (pe_cmpR op_eq (pe_callB call_isS rfl z_isinstance bt_isinstance (pa_cons (pv 5) (pa_cons (pe_glob (v := .ref C_NoFirm) rfl m_NoFirm rfl) pa_nil))) (pe_cmpR op_eq (pe_ix ix_seqS (pv 3) pe_int (fun _ _ => rfl)) pe_str (nomark _)) (nomark _)))))
   (pss_one (ps_set (i := 4) nd rfl (Or.inl rfl) (pe_and (pv 4) (pe_one (pe_cmpR op_eq (pe_callB call_isS rfl z_isinstance bt_isinstance (pa_cons (pv 5) (pa_cons (pe_glob (v := .ref C_Unbalanced) rfl m_Unbalanced rfl) pa_nil))) (pe_cmpR op_eq (pe_ix ix_seqS (pv 3) pe_int (fun _ _ => rfl)) pe_str (nomark _)) (nomark _))))))))))
   (pss_one (ps_ret (pv 4))))), ?_⟩
 obtain ⟨dx, fs, hp, hbk, hke, hno⟩ := R.ob
 refine ⟨_, rfl, p, dx, fs, rfl, hp, hno "post" (by decide +kernel), _, rfl, _, rfl, rfl, p, kl, f, es, d, 1, l, L, rfl, R, hk, hes, hl, hL, hlen, (fun n hd e H1 e1 he => ⟨q_mNoFirm, fun x hx => ?_⟩), (fun c r hd e H1 e1 he => ⟨q_mUnbalanced, fun x hx => ?_⟩), fun hd => by rw [hdd] at hd; cases hd⟩
 · obtain rfl : dd = .inl n := Option.some.inj (hdd.symm.trans hd)
   have ht : H t = some (.tup [.str "NoFirm", .str n]) := ht
   have ef := e1.trans (same_upd (o := excO x (.ref C_NoFirm) (some e)) hx)
   refine ⟨_, rfl, _, _, _, _, _, rfl, .exc upd_same X_NoFirm, rfl, q_vNoFirm, true, rfl, iteT ⟨_, rfl, _, _, _, _, _, rfl, .exc upd_same X_NoFirm, rfl, q_kNoFirmClosed, false, rfl, ?_⟩⟩
   refine ⟨_, rfl, true, rfl, iteT ⟨_, rfl, _, _, _, _, _, rfl, .exc upd_same X_NoFirm, rfl, q_kNoFirmNoFirm, _, rfl, .inr (.inl ⟨t, _, 0, _, rfl, rfl, SqT.of (ef _ _ ht), rfl, rfl, rfl, ?_⟩)⟩⟩
   refine ⟨_, rfl, true, rfl, iteT ⟨_, rfl, _, _, _, _, _, rfl, .exc upd_same X_NoFirm, rfl, q_kNoFirmUnbalanced, _, rfl, .inr (.inl ⟨t, _, 0, _, rfl, rfl, SqT.of (ef _ _ ht), rfl, rfl, rfl, ?_⟩)⟩⟩
   exact ⟨_, rfl, q _ ef⟩
 · obtain rfl : dd = .inr (c, r) := Option.some.inj (hdd.symm.trans hd)
   have ht : H t = some (.tup [.str "Unbalanced", .str f, .str c, .int r]) := ht
   have ef := e1.trans (same_upd (o := excO x (.ref C_Unbalanced) (some e)) hx)
   refine ⟨_, rfl, _, _, _, _, _, rfl, .exc upd_same X_Unbalanced, rfl, q_vUnbalanced, true, rfl, iteT ⟨_, rfl, _, _, _, _, _, rfl, .exc upd_same X_Unbalanced, rfl, q_kUnbalancedClosed, false, rfl, ?_⟩⟩
   refine ⟨_, rfl, true, rfl, iteT ⟨_, rfl, _, _, _, _, _, rfl, .exc upd_same X_Unbalanced, rfl, q_kUnbalancedNoFirm, _, rfl, .inr (.inl ⟨t, _, 0, _, rfl, rfl, SqT.of (ef _ _ ht), rfl, rfl, rfl, ?_⟩)⟩⟩
   refine ⟨_, rfl, true, rfl, iteT ⟨_, rfl, _, _, _, _, _, rfl, .exc upd_same X_Unbalanced, rfl, q_kUnbalancedUnbalanced, _, rfl, .inr (.inl ⟨t, _, 0, _, rfl, rfl, SqT.of (ef _ _ ht), rfl, rfl, rfl, ?_⟩)⟩⟩
   exact ⟨_, rfl, q _ ef⟩
theorem join3 {α β γ : Type} {G : Prop} (F P : α → β → γ → Prop) (hm : (∀ x y z, F x y z → P x y z) → G) (hr : ∀ x y z, F x y z → P x y z) : G := hm hr
theorem de_len {A B : List En} (h : de A = de B) : A.length = B.length := by
 have := congrArg List.length h
 unfold de at this
 rw [List.length_map, List.length_map] at this
 exact this
theorem de_app (A : List En) (z : En) : de (A ++ [z]) = de A ++ [(z.2.1, z.2.2.1, z.2.2.2.2)] := List.map_append ..
theorem dT_pl (f : Str) (d : Str ⊕ (Str × Int)) : ∀ z ∈ dT f d, eqPl z = true := fun z hz => by
 rcases d with n | ⟨c, r⟩
 · have hz : z ∈ [V.str "NoFirm", V.str n] := hz
   simp only [List.mem_cons, List.not_mem_nil, or_false] at hz
   rcases hz with rfl | rfl <;> rfl
 · have hz : z ∈ [V.str "Unbalanced", V.str f, V.str c, V.int r] := hz
   simp only [List.mem_cons, List.not_mem_nil, or_false] at hz
   rcases hz with rfl | rfl | rfl | rfl <;> rfl
structure Bk (C : Addr) (H : Hp) (p kl rl : Addr) (f : Str) (E T : List En) (n : Nat) : Prop where
 kb : KB0 C H p kl f
 kc : H kl = some (.lst (rfE E))
 en : EnL H E
 rc : H rl = some (.lst (rfE T))
 te : TeL H T
 de : de T = de E
 ne : kl ≠ rl
 nt : ∀ e ∈ T, e.2.2.2.1 ≠ kl ∧ e.2.2.2.1 ≠ rl
 ln : E.length ≤ n
theorem Bk.same {C : Addr} {H H' : Hp} {p kl rl : Addr} {f : Str} {E T : List En} {n : Nat} (b : Bk C H p kl rl f E T n) (e : Same H H') : Bk C H' p kl rl f E T n := ⟨b.kb.same e, e _ _ b.kc, b.en.same e, e _ _ b.rc, b.te.same e, b.de, b.ne, b.nt, b.ln⟩
def Kb (kl rl : Addr) (H H' : Hp) : Prop := ∀ b o, H b = some o → b ≠ kl → b ≠ rl → H' b = some o
def spEn7 (C : Addr) : Sp := fun vs H Q _ => ∃ (p kl rl : Addr) (f : Str) (E T : List En) (n : Nat) (day ab : Int) (l sl : Addr) (L S : List Ln), vs = [.ref p, .str f, .ref rl, .int day, .int ab, .ref l, .ref sl] ∧ Bk C H p kl rl f E T n ∧ n ≤ 11 ∧ H l = some (.lst (rf5 L)) ∧ R5 H L ∧ L.length ≤ 5 ∧ dueC f L = none ∧ H sl = some (.lst (rf5 S)) ∧ R5 H S ∧ S.length ≤ 5 ∧ l ≠ kl ∧ l ≠ rl ∧
 ∀ E' T' H', Kb kl rl H H' → Bk C H' p kl rl f E' T' (n + 1) → (∀ e ∈ T', e ∈ T ∨ H e.2.2.2.1 = none) → (∀ e ∈ E', e ∈ E ∨ e.2.2.2.2.length ≤ 5) → Q (.bl true) H'
theorem sc__law_entered : FnScope ["_law_book", "_law_firm", "_law_rows", "_law_day", "_law_about", "_law_lines_here", "_law_spoilt_here", "_law_due_here", "_law_handed", "_law_number", "_law_good"] ["_law_book", "_law_firm", "_law_rows", "_law_day", "_law_about", "_law_lines_here", "_law_spoilt_here"] (defScope s__law_entered) := ⟨rfl, rfl, rfl, by decide +kernel, rfl, by decide +kernel, by decide +kernel⟩
theorem ok__law_entered (D : Def K mg "_law_entered" s__law_entered .none) {C_Book : Addr} (c__law_due : Cal P w K mg base CX0 true 1 "_law_due" ["_law_firm", "_law_lines_here"] [] spDu7) (c__law_refused : Cal P w K mg base CX0 true 5 "_law_refused" ["_law_book", "_law_day", "_law_lines_here"] [] (spRf7 C_Book)) (c__law_by_base : Cal P w K mg base CX0 true 5 "_law_by_base" ["_law_book", "_law_day", "_law_lines_here", "_law_due_here"] [] (spBb7 C_Book)) (c_Book_post : CalM P w K mg base (CX1 P w) true 4 C_Book "post" ["self", "day", "about", "lines"] [] (spPostE C_Book C_NoFirm C_Unbalanced)) (c__law_whole : Cal P w K mg base CX0 true 1 "_law_whole" ["_law_found"] [] spWhole) (z_list : mg "list" = none) (z_len : mg "len" = none) (cl_Book : Cls K C_Book) : Cal P w K mg base CX0 true 6 "_law_entered" ["_law_book", "_law_firm", "_law_rows", "_law_day", "_law_about", "_law_lines_here", "_law_spoilt_here"] [] (spEn7 C_Book) := by
 obtain ⟨f, fd, F, hm⟩ := D
 obtain ⟨f__law_due, fd__law_due, d__law_due, G__law_due, m__law_due, k__law_due, b__law_due, v__law_due, b__law_due1⟩ := c__law_due
 obtain ⟨f__law_refused, fd__law_refused, d__law_refused, G__law_refused, m__law_refused, k__law_refused, b__law_refused, v__law_refused, b__law_refused1⟩ := c__law_refused
 obtain ⟨f__law_by_base, fd__law_by_base, d__law_by_base, G__law_by_base, m__law_by_base, k__law_by_base, b__law_by_base, v__law_by_base, b__law_by_base1⟩ := c__law_by_base
 obtain ⟨f_Book_post, fd_Book_post, d_Book_post, G_Book_post, m_Book_post, b_Book_post, v_Book_post, b_Book_post1⟩ := c_Book_post
 obtain ⟨f__law_whole, fd__law_whole, d__law_whole, G__law_whole, m__law_whole, k__law_whole, b__law_whole, v__law_whole, b__law_whole1⟩ := c__law_whole
 refine ⟨f, fd, _, F.ok sc__law_entered (fun vs H Q E h => ?_) (fun cdv A outer s H vs Q E hr h => ?_), hm, F.kp, (F.binds fun _ _ _ _ _ _ us hl => match us, hl with | [_, _, _, _, _, _, _], _ => rfl), .nil, F.binds fun _ _ _ _ _ _ us hl => match us, hl with | [_, _, _, _, _, _, _], _ => rfl⟩
 · obtain ⟨p, kl, rl, f, E, T, n, day, ab, l, sl, L, S, rfl, B, hn11, hl, hL, hLl, hdu, hsl, hS, hSl, nlk, nlr, q⟩ := h
   rfl
 obtain ⟨p, kl, rl, f, E, T, n, day, ab, l, sl, L, S, rfl, B, hn11, hl, hL, hLl, hdu, hsl, hS, hSl, nlk, nlr, q⟩ := h
 have nd := sc__law_entered.nd
 refine ⟨_, (pss_cons (ps_set (i := 7) nd rfl (Or.inl rfl) (pe_call G__law_due (hr.mono (by decide)) rfl m__law_due k__law_due b__law_due Paired.nil pass0 (pa_cons (pv 1) (pa_cons (pv 6) pa_nil))))
   (pss_cons (ps_set (i := 8) nd rfl (Or.inl rfl) (pe_callTy call_list_of rfl z_list bt_list (pa_cons (pv 6) pa_nil)))
   (pss_cons (ps_if (pt_cmpR op_notN (pv 7) pe_non (nomark _)) (pss_one (ps_if (PW.pt (pw_or (pt_cmpR (op_neU hr) (pe_call G__law_refused (hr.mono (by decide)) rfl m__law_refused k__law_refused b__law_refused Paired.nil pass0 (pa_cons (pv 0) (pa_cons (pv 3) (pa_cons (pv 8) pa_nil)))) (pv 7) (nomark _)) (pw_or (pt_not (pt_val (pe_call G__law_by_base (hr.mono (by decide)) rfl m__law_by_base k__law_by_base b__law_by_base Paired.nil pass0 (pa_cons (pv 0) (pa_cons (pv 3) (pa_cons (pv 8) (pa_cons (pv 7) pa_nil))))))) (pw_or1 (pt_cmpR (op_neD hr) (pv 8) (pv 6) (nomark _)))))) (pss_one (ps_ret pe_bl)) pss_nil)) pss_nil)
   (pss_cons (ps_set (i := 8) nd rfl (Or.inl rfl) (pe_callTy call_list_of rfl z_list bt_list (pa_cons (pv 5) pa_nil)))
   (pss_cons (ps_set (i := 9) nd rfl (Or.inl rfl) (pe_methR (pv 0) cl_Book m_Book_post G_Book_post (hr.mono (by decide)) b_Book_post Paired.nil xe_off (pa_cons (pv 3) (pa_cons (pv 4) (pa_cons (pv 8) pa_nil)))))
   (pss_cons (ps_set (i := 10) nd rfl (Or.inl rfl) (pe_and (pe_call G__law_whole (hr.mono (by decide)) rfl m__law_whole k__law_whole b__law_whole Paired.nil pass0 (pa_cons (pv 9) pa_nil)) (pe_and (pe_cmpR op_eq (pv 9) (pe_callB call_len_seq rfl z_len bt_len (pa_cons (pv 2) pa_nil)) (nomark _)) (pe_one (pe_cmpR (op_eqD hr) (pv 8) (pv 5) (nomark _))))))
   (pss_cons (ps_expr (pe_bm0 PySem.F.plainAttrs_list PySem.F.slot_list_clear PySem.F.type_list_clear mt_clear (pv 8)))
   (pss_cons (ps_expr (pe_bm PySem.F.plainAttrs_list PySem.F.slot_list_append PySem.F.type_list_append mt_append (pv 2) (pa_cons (pe_tup (pa_cons (pv 3) (pa_cons (pv 4) (pa_cons (pe_callTy call_list_of rfl z_list bt_list (pa_cons (pv 5) pa_nil)) pa_nil)))) pa_nil)))
   (pss_one (ps_ret (pv 10))))))))))), ?_⟩
 rw [show ∀ x0 x1 x2 x3 x4 x5 x6 : V, L2.start ["_law_book", "_law_firm", "_law_rows", "_law_day", "_law_about", "_law_lines_here", "_law_spoilt_here", "_law_due_here", "_law_handed", "_law_number", "_law_good"] [x0, x1, x2, x3, x4, x5, x6] = [some x0, some x1, some x2, some x3, some x4, some x5, some x6, none, none, none, none] from fun _ _ _ _ _ _ _ => rfl]
 have hline : 10 ^ 6 ≤ sizeLine := by decide
 have hEl := B.ln
 have hTE := de_len B.de
 have rE := rfE_len E
 have rT := rfE_len T
 obtain ⟨dx, fs, hp, hbk, hke, hno⟩ := B.kb.ob
 apply join3 (fun (dv hv : V) (H3 : Hp) => Same H H3)
 · intro kk
   rcases hds : dueC f S with _ | dd
   rotate_left
   · refine ⟨_, rfl, _, rfl, f, sl, S, rfl, hsl, hS, hSl, (fun hn => by rw [hds] at hn; cases hn), fun d hd t H1 e1 ht => ?_⟩
     obtain rfl : d = dd := Option.some.inj (hd.symm.trans hds)
     refine ⟨_, rfl, sl, _, rfl, .inl (SqL.of (e1 _ _ hsl)), fun h2 hh2 => ?_⟩
     have g2 := same_upd (o := .lst (rf5 S)) hh2
     have hh : upd H1 h2 (.lst (rf5 S)) h2 = some (.lst (rf5 S)) := upd_same
     have e2 := e1.trans g2
     have ht2 := g2 _ _ ht
     generalize upd H1 h2 (.lst (rf5 S)) = H2 at e2 hh ht2 ⊢
     have B2 := B.same e2
     refine ⟨_, rfl, rfl, _, rfl, ?_⟩
     refine ndec2 (fun _ => ?_) (fun h => by cases h)
     refine ⟨_, rfl, _, rfl, _, rfl, p, kl, f, rfE E, day, h2, S, d, rfl, B2.kb, B2.kc, by omega, hh, hS.same e2, hSl, hds, fun t3 H3 e3 ht3 => ?_⟩
     refine ⟨_, rfl, t3, t, _, _, rfl, rfl, SqT.of ht3, SqT.of (e3 _ _ ht2), rfl, (fun j x y w1 w2 => .inl (.inl ⟨Option.some.inj (w1.symm.trans w2), dT_pl f d x (List.mem_of_getElem? w1)⟩)), _, rfl, iteF ?_⟩
     have B3 := B2.same e3
     refine ⟨_, rfl, _, rfl, _, rfl, _, rfl, p, kl, f, rfE E, day, h2, t, S, d, rfl, B3.kb, B3.kc, by omega, e3 _ _ hh, (hS.same e2).same e3, hSl, hds, e3 _ _ ht2, fun H4 e4 => ⟨true, rfl, iteF ?_⟩⟩
     have e24 := (e2.trans e3).trans e4
     refine ⟨_, rfl, _, rfl, h2, sl, _, _, rfl, rfl, SqL.of (e4 _ _ (e3 _ _ hh)), SqL.of (e24 _ _ hsl), EqLs.refl (rf5_pl _), _, rfl, iteF ?_⟩
     obtain ⟨dv, edv⟩ : ∃ x, x = V.ref t := ⟨_, rfl⟩
     obtain ⟨hv, ehv⟩ : ∃ x, x = V.ref h2 := ⟨_, rfl⟩
     rw [← edv, ← ehv]
     exact kk dv hv H4 e24
   · refine ⟨_, rfl, _, rfl, f, sl, S, rfl, hsl, hS, hSl, (fun _ H1 e1 => ?_), fun d hd => by rw [hds] at hd; cases hd⟩
     refine ⟨_, rfl, sl, _, rfl, .inl (SqL.of (e1 _ _ hsl)), fun h2 hh2 => ?_⟩
     have g2 := same_upd (o := .lst (rf5 S)) hh2
     exact ⟨_, rfl, rfl, _, rfl, ndecF rfl (kk .non (.ref h2) _ (e1.trans g2))⟩
 rintro dv hv H3 e3
 refine ⟨_, rfl, l, _, rfl, .inl (SqL.of (e3 _ _ hl)), fun h4 hh4 => ?_⟩
 have g4 := same_upd (o := .lst (rf5 L)) hh4
 have hh : upd H3 h4 (.lst (rf5 L)) h4 = some (.lst (rf5 L)) := upd_same
 have e4 := e3.trans g4
 have h40 : H h4 = none := e3.free hh4
 generalize upd H3 h4 (.lst (rf5 L)) = H4 at e4 hh ⊢
 have B4 := B.same e4
 have n4k : h4 ≠ kl := fun z => by rw [z, B.kc] at h40; cases h40
 have n4r : h4 ≠ rl := fun z => by rw [z, B.rc] at h40; cases h40
 refine ⟨_, rfl, p, dx, fs, rfl, e4 _ _ hp, hno "post" (by decide +kernel), _, rfl, _, rfl, _, rfl, True.intro, p, kl, f, rfE E, day, ab, h4, L, rfl, B4.kb, B4.kc, by omega, hh, hL.same e4, hLl, (fun n hd => by rw [hdu] at hd; cases hd), (fun c r hd => by rw [hdu] at hd; cases hd), fun _ e t H5 k5 hk5 he ht => ?_⟩
 have hrl5 : H5 rl = some (.lst (rfE T)) := k5 _ _ B4.rc (Ne.symm B.ne)
 have hh5 := k5 _ _ hh n4k
 have hl5 : H5 l = some (.lst (rf5 L)) := k5 _ _ (e4 _ _ hl) nlk
 refine ⟨_, rfl, _, rfl, true, rfl, iteT ⟨_, rfl, _, rfl, rl, _, rfl, .inl (SqL.of hrl5), rfl, ?_⟩⟩
 have hdec : decide (V.int ((rfE E).length : Int) = V.int ((rfE T).length : Int)) = true := decide_eq_true (by rw [rE, rT, hTE])
 rw [hdec]
 refine ⟨true, rfl, iteT ⟨_, rfl, _, rfl, h4, l, _, _, rfl, rfl, SqL.of hh5, SqL.of hl5, EqLs.refl (rf5_pl _), ?_⟩⟩
 refine ⟨_, rfl, .inl ⟨rfl, _, SqL.of hh5⟩, h4, _, rfl, rfl, hh5, ?_⟩
 have c6 : ∀ b o, H5 b = some o → b ≠ h4 → upd H5 h4 (.lst []) b = some o := fun b o hb nb => by rw [upd_ne nb]; exact hb
 have k6 : ∀ b o, H b = some o → b ≠ kl → upd H5 h4 (.lst []) b = some o := fun b o hb nb => c6 _ _ (k5 _ _ (e4 _ _ hb) nb) (fun z => by rw [z, h40] at hb; cases hb)
 have hrl6 := c6 _ _ hrl5 (Ne.symm n4r)
 have hl6 := k6 _ _ hl nlk
 have hk6 := c6 _ _ hk5 (Ne.symm n4k)
 have he6 := c6 _ _ he (ne_of he hh5 (by intro w; cases w))
 have ht6 := c6 _ _ ht (ne_of ht hh5 (by intro w; cases w))
 generalize upd H5 h4 (.lst []) = H6 at k6 hrl6 hl6 hk6 he6 ht6 ⊢
 refine ⟨_, rfl, .inl ⟨rfl, _, SqL.of hrl6⟩, _, rfl, _, rfl, _, rfl, l, _, rfl, .inl (SqL.of hl6), fun l7 hl7 => ?_⟩
 have g7 := same_upd (o := .lst (rf5 L)) hl7
 refine ⟨(by show 3 ≤ sizeLine; decide), fun e7 he7 => ?_⟩
 have g8 := same_upd (o := .tup [.int day, .int ab, .ref l7]) he7
 have g := g7.trans g8
 refine ⟨rl, _, _, rfl, rfl, g _ _ hrl6, by omega, ?_⟩
 have kF : Kb kl rl H (upd (upd (upd H6 l7 (.lst (rf5 L))) e7 (.tup [.int day, .int ab, .ref l7])) rl (.lst (rfE T ++ [.ref e7]))) := fun b o hb n1 n2 => by
   rw [upd_ne n2]
   exact g _ _ (k6 b o hb n1)
 have l70 : ∀ b o, H b = some o → b ≠ l7 := fun b o hb z => by
   by_cases nk : b = kl
   · rw [← z, nk, hk6] at hl7
     cases hl7
   · rw [← z, k6 b o hb nk] at hl7
     cases hl7
 have l7n : H l7 = none := by
   cases w : H l7 with
   | none => rfl
   | some o => exact absurd rfl (l70 l7 o w)
 have tupF : ∀ {b : Addr} {xs : List V}, H6 b = some (.tup xs) → upd (upd (upd H6 l7 (.lst (rf5 L))) e7 (.tup [.int day, .int ab, .ref l7])) rl (.lst (rfE T ++ [.ref e7])) b = some (.tup xs) := fun hb => tup_keepL (g _ _ hb) (g _ _ hrl6)
 have l7k : l7 ≠ kl := fun z => by rw [z, hk6] at hl7; cases hl7
 have l7r : l7 ≠ rl := fun z => by rw [z, hrl6] at hl7; cases hl7
 have e7F : upd (upd (upd H6 l7 (.lst (rf5 L))) e7 (.tup [.int day, .int ab, .ref l7])) rl (.lst (rfE T ++ [.ref e7])) e7 = some (.tup [.int day, .int ab, .ref l7]) := tup_keepL upd_same (g _ _ hrl6)
 have l7F : upd (upd (upd H6 l7 (.lst (rf5 L))) e7 (.tup [.int day, .int ab, .ref l7])) rl (.lst (rfE T ++ [.ref e7])) l7 = some (.lst (rf5 L)) := by
   rw [upd_ne l7r]
   exact g8 _ _ upd_same
 have kcF : upd (upd (upd H6 l7 (.lst (rf5 L))) e7 (.tup [.int day, .int ab, .ref l7])) rl (.lst (rfE T ++ [.ref e7])) kl = some (.lst (rfE E ++ [.ref e])) := by
   rw [upd_ne B.ne]
   exact g _ _ hk6
 have rcF : upd (upd (upd H6 l7 (.lst (rf5 L))) e7 (.tup [.int day, .int ab, .ref l7])) rl (.lst (rfE T ++ [.ref e7])) rl = some (.lst (rfE T ++ [.ref e7])) := upd_same
 have eF := tupF he6
 have tF := tupF ht6
 generalize upd (upd (upd H6 l7 (.lst (rf5 L))) e7 (.tup [.int day, .int ab, .ref l7])) rl (.lst (rfE T ++ [.ref e7])) = HF at kF e7F l7F kcF rcF eF tF ⊢
 have tk : ∀ {b : Addr} {xs : List V}, H b = some (.tup xs) → HF b = some (.tup xs) := fun hb => kF _ _ hb (ne_of hb B.kc (by intro w; cases w)) (ne_of hb B.rc (by intro w; cases w))
 refine ⟨_, rfl, q (E ++ [(e, day, ab, t, L)]) (T ++ [(e7, day, ab, l7, L)]) HF kF ⟨⟨dx, fs, kF _ _ hp (ne_of hp B.kc (by intro w; cases w)) (ne_of hp B.rc (by intro w; cases w)), hbk, hke, hno⟩, by rw [kcF, rfE_app]; rfl, fun z hz => ?_, by rw [rcF, rfE_app]; rfl, fun z hz => ?_, by rw [de_app, de_app, B.de], B.ne, fun z hz => ?_, by rw [List.length_append]; show E.length + 1 ≤ _; omega⟩ (fun z hz => ?_) (fun z hz => (List.mem_append.mp hz).imp id fun w => by rw [List.mem_singleton.mp w]; exact hLl)⟩
 · rcases List.mem_append.mp hz with w | w
   · obtain ⟨a1, a2, a3, a4⟩ := B.en z w
     exact ⟨tk a1, tk a2, fun y hy => tk (a3 y hy), a4⟩
   · rw [List.mem_singleton.mp w]
     exact ⟨eF, tF, fun y hy => tk (hL y hy), by show L.length ≤ 1000; omega⟩
 · rcases List.mem_append.mp hz with w | w
   · obtain ⟨a1, a2⟩ := B.te z w
     exact ⟨tk a1, kF _ _ a2 (B.nt z w).1 (B.nt z w).2⟩
   · rw [List.mem_singleton.mp w]
     exact ⟨e7F, l7F⟩
 · rcases List.mem_append.mp hz with w | w
   · exact B.nt z w
   · rw [List.mem_singleton.mp w]
     exact ⟨l7k, l7r⟩
 · rcases List.mem_append.mp hz with w | w
   · exact .inl w
   · rw [List.mem_singleton.mp w]
     exact .inr l7n
theorem at_rfE {T : List En} {i : Nat} {z : En} (h : T[i]? = some z) : (rfE T)[i]? = some (.ref z.1) := by
 unfold rfE
 rw [List.getElem?_map, h]
 rfl
theorem at_rf5 {L : List Ln} {i : Nat} {z : Ln} (h : L[i]? = some z) : (rf5 L)[i]? = some (.ref z.1) := by
 unfold rf5
 rw [List.getElem?_map, h]
 rfl
def spSo7 : Sp := fun vs H Q _ => ∃ (rl : Addr) (f : Str) (m : Option Int) (T : List En), vs = [.str f, .ref rl, mV m] ∧ H rl = some (.lst (rfE T)) ∧ TeL H T ∧ T.length ≤ 12 ∧ (∀ e ∈ T, e.2.2.2.2.length ≤ 1000) ∧
 ∀ (r : Addr) (Z : List Tp) H', Same H H' → H r = none → H' r = some (.lst (rfT Z)) → TpL H' f Z → Z.map (·.2) = spD (dl T) m → Q (.ref r) H'
theorem sc__law_spots : FnScope ["_law_firm", "_law_rows", "_law_upto", "_law_spots_here", "_law_k", "_law_j"] ["_law_firm", "_law_rows", "_law_upto"] (defScope s__law_spots) := ⟨rfl, rfl, rfl, by decide +kernel, rfl, by decide +kernel, by decide +kernel⟩
theorem ok__law_spots (D : Def K mg "_law_spots" s__law_spots .none) (z_range : mg "range" = none) (z_len : mg "len" = none) : Cal P w K mg base CX0 true 1 "_law_spots" ["_law_firm", "_law_rows", "_law_upto"] [] spSo7 := by
 obtain ⟨f, fd, F, hm⟩ := D
 refine ⟨f, fd, _, F.ok sc__law_spots (fun vs H Q E h => ?_) (fun cdv A outer s H vs Q E hr h => ?_), hm, F.kp, (F.binds fun _ _ _ _ _ _ us hl => match us, hl with | [_, _, _], _ => rfl), .nil, F.binds fun _ _ _ _ _ _ us hl => match us, hl with | [_, _, _], _ => rfl⟩
 · obtain ⟨rl, f, m, T, rfl, hrl, hTe, hTn, hTl, q⟩ := h
   rfl
 obtain ⟨rl, f, m, T, rfl, hrl, hTe, hTn, hTl, q⟩ := h
 have nd := sc__law_spots.nd
 refine ⟨_, (pss_cons (ps_set (i := 3) nd rfl (Or.inl rfl) (pe_lst pa_nil))
   (pss_cons (ps_for PassesOwn.never rfl (pi_range1 rfl z_range (pa_cons (pe_callB call_len_seq rfl z_len bt_len (pa_cons (pv 1) pa_nil)) pa_nil)) (pg_name (i := 4) nd rfl (Or.inl rfl)) (pss_one (ps_if (PW.pt (pw_or (pt_cmpR op_isN (pv 2) pe_non (nomark _)) (pw_or1 (pt_cmpR op_le (pe_op op_fdiv (pe_ix ix_seq (pe_ix ix_seq (pv 1) (pv 4) (fun _ _ => rfl)) pe_int (fun _ _ => rfl)) pe_int) (pv 2) (nomark _))))) (pss_one (ps_for PassesOwn.never rfl (pi_range1 rfl z_range (pa_cons (pe_callB call_len_seq rfl z_len bt_len (pa_cons (pe_ix ix_seq (pe_ix ix_seq (pv 1) (pv 4) (fun _ _ => rfl)) pe_int (fun _ _ => rfl)) pa_nil)) pa_nil)) (pg_name (i := 5) nd rfl (Or.inl rfl)) (pss_one (ps_expr (pe_bm PySem.F.plainAttrs_list PySem.F.slot_list_append PySem.F.type_list_append mt_append (pv 3) (pa_cons (pe_tup (pa_cons (pe_tup (pa_cons (pv 0) (pa_cons (pv 4) (pa_cons (pv 5) pa_nil)))) (pa_cons (pe_ix ix_seq (pe_ix ix_seq (pe_ix ix_seq (pv 1) (pv 4) (fun _ _ => rfl)) pe_int (fun _ _ => rfl)) (pv 5) (fun _ _ => rfl)) pa_nil))) pa_nil)))))) pss_nil)))
   (pss_one (ps_ret (pv 3))))), ?_⟩
 have hline : 10 ^ 6 ≤ sizeLine := by decide
 have rT := rfE_len T
 refine ⟨(by show 0 ≤ sizeLine; decide), fun r hr0 => ?_⟩
 have e1 := same_upd (o := .lst []) hr0
 have dT_ : (dl T).length = T.length := List.length_map ..
 have hD : ∀ i, (upto ((dl T).take i) m).length ≤ 12000 := fun i => by
   have h := upto_len (D := (dl T).take i) (m := m) (fun d hd => by
     obtain ⟨e, he, rfl⟩ := List.mem_map.mp (List.mem_of_mem_take hd)
     exact hTl e he)
   rw [List.length_take] at h
   omega
 refine ⟨_, rfl, rl, _, rfl, .inl (SqL.of (e1 _ _ hrl)), _, rfl, by omega, by omega, ?_⟩
 refine for_range (fun i σ H' => ∃ (o4 o5 : Option V) (Z : List Tp), σ = [some (.str f), some (.ref rl), some (mV m), some (.ref r), o4, o5] ∧ Same H H' ∧ H' r = some (.lst (rfT Z)) ∧ TpL H' f Z ∧ Z.map (·.2) = spD ((dl T).take i) m) ⟨_, _, [], rfl, e1, upd_same, (fun z hz => nomatch hz), rfl⟩ ?_ ?_
 · rintro i σ H1 hi ⟨o4, o5, Z, rfl, e, hr, hZ, hZv⟩
   have hiT : i < T.length := by omega
   obtain ⟨z, hz⟩ : ∃ z, T[i]? = some z := ⟨_, List.getElem?_eq_getElem hiT⟩
   have hzm := List.mem_of_getElem? hz
   obtain ⟨z1, z2⟩ := hTe z hzm
   have hzl := hTl z hzm
   have hat : atI (rfE T) (0 + (i : Int)) = some (.ref z.1) := by
     rw [Int.zero_add]
     exact atI_nat (at_rfE hz)
   have nx := spD_nx (m := m) (show (dl T)[i]? = some (z.2.1, z.2.2.2.2) by unfold dl; rw [List.getElem?_map, hz]; rfl)
   have hzT := SqT.of (K := K) (e _ _ z1)
   by_cases hok : okM m z.2.1 = true
   rotate_left
   · rw [if_neg hok, List.append_nil] at nx
     rcases m with _ | m0
     · exact absurd rfl hok
     · refine ⟨_, rfl, rfl, _, rfl, decF (fun h => by cases h) ?_⟩
       refine ⟨_, rfl, _, rfl, .inl ⟨rl, _, _, _, rfl, rfl, SqL.of (e _ _ hrl), hat, .inr (.inl ⟨z.1, _, 0, _, rfl, rfl, hzT, rfl, _, _, rfl, rfl, ⟨by decide, by decide⟩, _, rfl, _, _, rfl, rfl, _, rfl, decF (fun h => hok (decide_eq_true h)) ?_⟩)⟩⟩
       exact ⟨_, _, Z, rfl, e, hr, hZ, by rw [nx]; exact hZv⟩
   rw [if_pos hok] at nx
   apply join1 (fun (_ : Unit) => True)
   · intro kk
     obtain ⟨u, _⟩ : ∃ u : Unit, u = () := ⟨(), rfl⟩
     refine ⟨_, rfl, rfl, _, rfl, ?_⟩
     refine dec2 (fun _ => iteT (kk u trivial)) (fun h => ?_)
     obtain ⟨m0, hm0⟩ : ∃ m0, m = some m0 := Option.ne_none_iff_exists'.mp fun w => h (by rw [w]; rfl)
     have hmv : mV m = .int m0 := by rw [hm0]; rfl
     have hle : z.2.1 / 30 ≤ m0 := by
       have w := hok
       rw [hm0] at w
       exact of_decide_eq_true w
     exact ⟨_, rfl, _, rfl, .inl ⟨rl, _, _, _, rfl, rfl, SqL.of (e _ _ hrl), hat, .inr (.inl ⟨z.1, _, 0, _, rfl, rfl, hzT, rfl, _, _, rfl, rfl, ⟨by decide, by decide⟩, _, rfl, _, m0, rfl, hmv, _, rfl, decT hle (kk u trivial)⟩)⟩⟩
   rintro _ _
   have lz := rf5_len z.2.2.2.2
   refine ⟨_, rfl, _, rfl, .inl ⟨rl, _, _, _, rfl, rfl, SqL.of (e _ _ hrl), hat, .inr (.inl ⟨z.1, _, 2, _, rfl, rfl, hzT, rfl, z.2.2.2.1, _, rfl, .inl (SqL.of (e _ _ z2)), _, rfl, by omega, by omega, ?_⟩)⟩⟩
   refine for_range (fun j σ H' => ∃ (o5 : Option V) (Z' : List Tp), σ = [some (.str f), some (.ref rl), some (mV m), some (.ref r), some (.int (0 + (i : Int))), o5] ∧ Same H H' ∧ H' r = some (.lst (rfT Z')) ∧ TpL H' f Z' ∧ Z'.map (·.2) = spD ((dl T).take i) m ++ numL i 0 (z.2.2.2.2.take j)) ⟨_, Z, rfl, e, hr, hZ, by rw [hZv]; simp [numL]⟩ ?_ ?_
   · rintro j σ H2 hj ⟨o5, Z', rfl, e2, hr2, hZ2, hZv2⟩
     have hjL : j < z.2.2.2.2.length := by omega
     obtain ⟨y, hy⟩ : ∃ y, z.2.2.2.2[j]? = some y := ⟨_, List.getElem?_eq_getElem hjL⟩
     have hay : atI (rf5 z.2.2.2.2) (0 + (j : Int)) = some (.ref y.1) := by
       rw [Int.zero_add]
       exact atI_nat (at_rf5 hy)
     have hZl : Z'.length ≤ 14000 := by
       have a := congrArg List.length hZv2
       have nl2 := congrArg List.length (numL_map (i : Int) (z.2.2.2.2.take j) 0)
       rw [List.length_map, List.length_take] at nl2
       rw [List.length_map, List.length_append, spD_len] at a
       have b := hD i
       omega
     refine ⟨_, rfl, .inl ⟨rfl, _, SqL.of hr2⟩, _, rfl, _, rfl, _, rfl, (by show 3 ≤ sizeLine; decide), fun s hs => ?_⟩
     have f3 := same_upd (o := .tup [.str f, .int (0 + (i : Int)), .int (0 + (j : Int))]) hs
     have e3 := e2.trans f3
     refine ⟨_, rfl, _, rfl, .inl ⟨rl, _, _, _, rfl, rfl, SqL.of (e3 _ _ hrl), hat, .inr (.inl ⟨z.1, _, 2, _, rfl, rfl, SqT.of (e3 _ _ z1), rfl, _, rfl, .inl ⟨z.2.2.2.1, _, _, _, rfl, rfl, SqL.of (e3 _ _ z2), hay, (by show 2 ≤ sizeLine; decide), fun u hu => ?_⟩⟩)⟩⟩
     have f4 := same_upd (o := .tup [.ref s, .ref y.1]) hu
     have f34 := f3.trans f4
     refine ⟨r, _, _, rfl, rfl, f34 _ _ hr2, by rw [rfT_len]; omega, ?_⟩
     refine ⟨_, Z' ++ [(u, ((i : Int), (j : Int)), y)], rfl, same_set (e2.trans f34) hr0, by rw [upd_same, rfT_app]; rfl, fun v hv => ?_, ?_⟩
     · rcases List.mem_append.mp hv with w | w
       · obtain ⟨s2, hs2, hs3⟩ := hZ2 v w
         exact ⟨s2, tup_keepL (f34 _ _ hs2) (f34 _ _ hr2), tup_keepL (f34 _ _ hs3) (f34 _ _ hr2)⟩
       · rw [List.mem_singleton.mp w]
         refine ⟨s, tup_keepL upd_same (f34 _ _ hr2), ?_⟩
         have h1 : upd H2 s (.tup [.str f, .int (0 + (i : Int)), .int (0 + (j : Int))]) s = some (.tup [.str f, .int (i : Int), .int (j : Int)]) := by
           rw [upd_same, Int.zero_add, Int.zero_add]
         exact tup_keepL (f4 _ _ h1) (f34 _ _ hr2)
     · rw [List.map_append, hZv2, numL_nx hy, List.append_assoc]
       rfl
   · rintro σ H2 ⟨o5, Z', rfl, e2, hr2, hZ2, hZv2⟩
     refine ⟨_, _, Z', rfl, e2, hr2, hZ2, ?_⟩
     rw [nx, hZv2]
     have hn : ((rf5 z.2.2.2.2).length : Int).toNat = z.2.2.2.2.length := by omega
     first
       | (rw [hn, List.take_length])
       | (simp only [Int.sub_zero]; rw [hn, List.take_length])
       | (rw [lz, List.take_length])
 rintro σ H1 ⟨o4, o5, Z, rfl, e, hr, hZ, hZv⟩
 refine ⟨_, rfl, q r Z _ e hr0 hr hZ ?_⟩
 rw [hZv]
 have hn : ((rfE T).length : Int).toNat = (dl T).length := by omega
 first
   | (rw [hn, List.take_length])
   | (simp only [Int.sub_zero]; rw [hn, List.take_length])
   | (rw [rT, ← dT_, List.take_length])
def Ali (H : Hp) (LL : List Addr) (x y : V) : Prop := ∃ a b us ws, x = .ref a ∧ y = .ref b ∧ H a = some (.tup us) ∧ H b = some (.tup ws) ∧ us.length = ws.length ∧ ∀ (j : Nat) u w, us[j]? = some u → ws[j]? = some w → (u = w ∧ eqPl u = true) ∨ (∃ a2 b2 vs, u = .ref a2 ∧ w = .ref b2 ∧ H a2 = some (.tup vs) ∧ H b2 = some (.tup vs) ∧ ∀ z ∈ vs, eqPl z = true) ∨ ∃ c d zs, u = .ref c ∧ w = .ref d ∧ c ∈ LL ∧ d ∈ LL ∧ H c = some (.lst zs) ∧ H d = some (.lst zs) ∧ ∀ z ∈ zs, eqPl z = true
theorem Ali.keep {H H' : Hp} {LL : List Addr} {x y : V} (h : Ali H LL x y) (kT : ∀ c xs, H c = some (.tup xs) → H' c = some (.tup xs)) (kL : ∀ c xs, H c = some (.lst xs) → c ∈ LL → H' c = some (.lst xs)) : Ali H' LL x y := by
 obtain ⟨a, b, us, ws, e1, e2, h1, h2, hl, h3⟩ := h
 refine ⟨a, b, us, ws, e1, e2, kT _ _ h1, kT _ _ h2, hl, fun j u w g1 g2 => ?_⟩
 rcases h3 j u w g1 g2 with k | ⟨a2, b2, vs, k1, k2, k3, k4, k5⟩ | ⟨c, d, zs, k1, k2, m1, m2, k3, k4, k5⟩
 · exact .inl k
 · exact .inr (.inl ⟨a2, b2, vs, k1, k2, kT _ _ k3, kT _ _ k4, k5⟩)
 · exact .inr (.inr ⟨c, d, zs, k1, k2, m1, m2, kL _ _ k3 m1, kL _ _ k4 m2, k5⟩)
theorem Ali.tu {K : PySem.W.Frag} {H : Hp} {LL : List Addr} {x y : V} (h : Ali H LL x y) : eqTu K H x y := by
 obtain ⟨a, b, us, ws, e1, e2, h1, h2, hl, h3⟩ := h
 refine ⟨a, b, us, ws, e1, e2, SqT.of h1, SqT.of h2, hl, fun j u w g1 g2 => ?_⟩
 rcases h3 j u w g1 g2 with k | ⟨a2, b2, vs, k1, k2, k3, k4, k5⟩ | ⟨c, d, zs, k1, k2, m1, m2, k3, k4, k5⟩
 · exact .inl (.inl k)
 · exact .inl (.inr ⟨a2, b2, vs, k1, k2, SqT.of k3, SqT.of k4, k5⟩)
 · exact .inr ⟨c, d, zs, zs, k1, k2, SqL.of k3, SqL.of k4, EqLs.refl k5⟩
theorem Ali.fst {H : Hp} {LL : List Addr} {x y : V} (h : Ali H LL x y) : ∃ a us, x = .ref a ∧ H a = some (.tup us) := by
 obtain ⟨a, b, us, ws, e1, e2, h1, _⟩ := h
 exact ⟨a, us, e1, h1⟩
structure Hq where
 tp : Addr
 r : Addr
 r2 : Addr
 xs : List V
 ys : List V
 LL : List Addr
structure HQ (H : Hp) (x : Hq) : Prop where
 tp : H x.tp = some (.tup [.ref x.r, .ref x.r2])
 l1 : H x.r = some (.lst x.xs)
 l2 : H x.r2 = some (.lst x.ys)
 ln : x.xs.length = x.ys.length
 al : ∀ (j : Nat) u w, x.xs[j]? = some u → x.ys[j]? = some w → Ali H x.LL u w
def Ans (H0 H : Hp) (r r2 : Addr) : Prop := H0 r = none ∧ H0 r2 = none ∧ ∃ xs ys LL, H r = some (.lst xs) ∧ H r2 = some (.lst ys) ∧ xs.length = ys.length ∧ xs.length ≤ 20000 ∧ (∀ c ∈ LL, H0 c = none) ∧ ∀ (j : Nat) u w, xs[j]? = some u → ys[j]? = some w → Ali H LL u w
theorem ans_ent {H0 H : Hp} {r r2 : Addr} {A B : List En} (h1 : H0 r = none) (h2 : H0 r2 = none) (hr : H r = some (.lst (rfE A))) (hr2 : H r2 = some (.lst (rfE B))) (hA : TeL H A) (hB : TeL H B) (fA : ∀ t ∈ A, H0 t.2.2.2.1 = none) (fB : ∀ t ∈ B, H0 t.2.2.2.1 = none) (h : de A = de B) (hn : A.length ≤ 20000) : Ans H0 H r r2 := by
 refine ⟨h1, h2, _, _, A.map (·.2.2.2.1) ++ B.map (·.2.2.2.1), hr, hr2, by rw [rfE_len, rfE_len]; exact de_len h, by rw [rfE_len]; exact hn, fun c hc => ?_, fun j x y w1 w2 => ?_⟩
 · rcases List.mem_append.mp hc with w | w
   · obtain ⟨t, ht, rfl⟩ := List.mem_map.mp w
     exact fA t ht
   · obtain ⟨t, ht, rfl⟩ := List.mem_map.mp w
     exact fB t ht
 obtain ⟨a, ha, rfl⟩ := rfE_at w1
 obtain ⟨b, hb, rfl⟩ := rfE_at w2
 have hab : (a.2.1, a.2.2.1, a.2.2.2.2) = (b.2.1, b.2.2.1, b.2.2.2.2) := by
   have := congrArg (fun l => l[j]?) h
   unfold de at this
   simp only [List.getElem?_map, ha, hb] at this
   exact Option.some.inj this
 obtain ⟨e1, e2, e3⟩ : a.2.1 = b.2.1 ∧ a.2.2.1 = b.2.2.1 ∧ a.2.2.2.2 = b.2.2.2.2 := by
   simpa using hab
 have am := List.mem_of_getElem? ha
 have bm := List.mem_of_getElem? hb
 obtain ⟨a1, a2⟩ := hA a am
 obtain ⟨b1, b2⟩ := hB b bm
 refine ⟨a.1, b.1, _, _, rfl, rfl, a1, b1, rfl, fun k u w g1 g2 => ?_⟩
 rcases k with _ | _ | _ | k
 · cases g1; cases g2
   exact .inl ⟨congrArg V.int e1, rfl⟩
 · cases g1; cases g2
   exact .inl ⟨congrArg V.int e2, rfl⟩
 · cases g1; cases g2
   refine .inr (.inr ⟨a.2.2.2.1, b.2.2.2.1, _, rfl, rfl, List.mem_append_left _ (List.mem_map.mpr ⟨a, am, rfl⟩), List.mem_append_right _ (List.mem_map.mpr ⟨b, bm, rfl⟩), a2, by rw [e3]; exact b2, rf5_pl _⟩)
 · cases g1
theorem ans_spo {H0 H : Hp} {r r2 : Addr} {f : Str} {A B : List Tp} (h1 : H0 r = none) (h2 : H0 r2 = none) (hr : H r = some (.lst (rfT A))) (hr2 : H r2 = some (.lst (rfT B))) (hA : TpL H f A) (hB : TpL H f B) (h : A.map (·.2) = B.map (·.2)) (hn : A.length ≤ 20000) : Ans H0 H r r2 := by
 have hl : A.length = B.length := by
   have := congrArg List.length h
   rw [List.length_map, List.length_map] at this
   exact this
 refine ⟨h1, h2, _, _, [], hr, hr2, by rw [rfT_len, rfT_len]; exact hl, by rw [rfT_len]; exact hn, (fun c hc => nomatch hc), fun j x y w1 w2 => ?_⟩
 obtain ⟨a, ha, rfl⟩ := rfT_at w1
 obtain ⟨b, hb, rfl⟩ := rfT_at w2
 have hab : a.2 = b.2 := by
   have := congrArg (fun l => l[j]?) h
   simp only [List.getElem?_map, ha, hb] at this
   exact Option.some.inj this
 obtain ⟨s, a1, a2⟩ := hA a (List.mem_of_getElem? ha)
 obtain ⟨s', b1, b2⟩ := hB b (List.mem_of_getElem? hb)
 rw [← hab] at b1 b2
 refine ⟨a.1, b.1, _, _, rfl, rfl, a1, b1, rfl, fun k u w g1 g2 => ?_⟩
 rcases k with _ | _ | k
 · cases g1; cases g2
   refine .inr (.inl ⟨s, s', _, rfl, rfl, a2, b2, fun z hz => ?_⟩)
   simp only [List.mem_cons, List.not_mem_nil, or_false] at hz
   rcases hz with rfl | rfl | rfl <;> rfl
 · cases g1; cases g2
   exact .inl ⟨rfl, rfl⟩
 · cases g1
theorem ans_lin {H0 H : Hp} {r r2 : Addr} {L : List Ln} (h1 : H0 r = none) (h2 : H0 r2 = none) (hr : H r = some (.lst (rf5 L))) (hr2 : H r2 = some (.lst (rf5 L))) (hL : R5 H L) (hn : L.length ≤ 20000) : Ans H0 H r r2 := by
 refine ⟨h1, h2, _, _, [], hr, hr2, rfl, by rw [rf5_len]; exact hn, (fun c hc => nomatch hc), fun j x y w1 w2 => ?_⟩
 obtain ⟨a, ha, rfl⟩ := rf5_at w1
 obtain ⟨b, hb, rfl⟩ := rf5_at w2
 obtain rfl : a = b := Option.some.inj (ha.symm.trans hb)
 have t := hL a (List.mem_of_getElem? ha)
 unfold tup5 at t
 refine ⟨a.1, a.1, _, _, rfl, rfl, t, t, rfl, fun k u w g1 g2 => .inl ⟨Option.some.inj (g1.symm.trans g2), ?_⟩⟩
 have m := List.mem_of_getElem? g1
 simp only [List.mem_cons, List.not_mem_nil, or_false] at m
 rcases m with rfl | rfl | rfl | rfl | rfl <;> rfl
theorem ans_fig {H0 H : Hp} {r r2 : Addr} {A B : List Rw4} (h1 : H0 r = none) (h2 : H0 r2 = none) (hr : H r = some (.lst (rf4 A))) (hr2 : H r2 = some (.lst (rf4 B))) (hA : R4 H A) (hB : R4 H B) (h : A.map (·.2) = B.map (·.2)) (hn : A.length ≤ 20000) : Ans H0 H r r2 := by
 have hl : A.length = B.length := by
   have := congrArg List.length h
   rw [List.length_map, List.length_map] at this
   exact this
 refine ⟨h1, h2, _, _, [], hr, hr2, by rw [rf4_len, rf4_len]; exact hl, by rw [rf4_len]; exact hn, (fun c hc => nomatch hc), fun j x y w1 w2 => ?_⟩
 obtain ⟨a, ha, rfl⟩ := rf4_at w1
 obtain ⟨b, hb, rfl⟩ := rf4_at w2
 have hab : a.2 = b.2 := by
   have := congrArg (fun l => l[j]?) h
   simp only [List.getElem?_map, ha, hb] at this
   exact Option.some.inj this
 have t1 := hA a (List.mem_of_getElem? ha)
 have t2 := hB b (List.mem_of_getElem? hb)
 unfold tup4 at t1 t2
 rw [← hab] at t2
 refine ⟨a.1, b.1, _, _, rfl, rfl, t1, t2, rfl, fun k u w g1 g2 => .inl ⟨Option.some.inj (g1.symm.trans g2), ?_⟩⟩
 have m := List.mem_of_getElem? g1
 simp only [List.mem_cons, List.not_mem_nil, or_false] at m
 rcases m with rfl | rfl | rfl | rfl <;> rfl
def spAk7 (C : Addr) : Sp := fun vs H Q _ => ∃ (p kl rl : Addr) (f : Str) (E T : List En) (n : Nat) (what : Int) (m : Option Int) (hl : Addr) (hs : List V), vs = [.ref p, .str f, .ref rl, .int what, mV m, .ref hl] ∧ Bk C H p kl rl f E T n ∧ n ≤ 12 ∧ (∀ e ∈ E, e.2.2.2.2.length ≤ 5) ∧ H hl = some (.lst hs) ∧ hs.length ≤ 1000 ∧
 ∀ (x : Hq) H', (∀ b o, H b = some o → b ≠ hl → H' b = some o) → H' hl = some (.lst (hs ++ [.ref x.tp])) → HQ H' x → H x.r = none → H x.r2 = none → (∀ c ∈ x.LL, H c = none) → Q (.bl true) H'
theorem op_catTC {X : Cx} {scope : Scope} {cl : List (Str × Addr)} {C : Addr} {s2 : Shared} {H2 : Hp} {fp : List Addr} {N' : List Str} {xe : Value → Shared → Prop} : OpR (X.inC scope cl C s2 H2 fp N' xe) (binaryOp .Add) (rCatT X.K) := op_catT (X := X.inC scope cl C s2 H2 fp N' xe)
theorem upto5 {D : Dl} {m : Option Int} (h : ∀ d ∈ D, d.2.length ≤ 5) : (upto D m).length ≤ 5 * D.length := by
 induction D with
 | nil => exact Nat.le_refl _
 | cons d r ih =>
   have a := ih fun z hz => h z (List.mem_cons_of_mem _ hz)
   have b := h d List.mem_cons_self
   unfold upto at a ⊢
   rw [List.flatMap_cons, List.length_append, List.length_cons]
   split
   · omega
   · show 0 + _ ≤ _
     omega
theorem de_dl {A B : List En} (h : de A = de B) : dl A = dl B := by
 have := congrArg (List.map fun w : Int × Int × List Ln => (w.1, w.2.2)) h
 unfold de at this
 rw [List.map_map, List.map_map] at this
 exact this
theorem upto_r5 {H : Hp} {E : List En} {m : Option Int} (hE : EnL H E) : R5 H (upto (dl E) m) := fun z hz => by
 unfold upto at hz
 obtain ⟨d, hd, hz⟩ := List.mem_flatMap.mp hz
 obtain ⟨e, he, rfl⟩ := List.mem_map.mp hd
 split at hz
 · exact (hE e he).2.2.1 z hz
 · cases hz
theorem sc__law_asked : FnScope ["_law_book", "_law_firm", "_law_rows", "_law_what", "_law_upto", "_law_held", "_law_spots_here", "_law_thing", "_law_found", "_law_due_here"] ["_law_book", "_law_firm", "_law_rows", "_law_what", "_law_upto", "_law_held"] (defScope s__law_asked) := ⟨rfl, rfl, rfl, by decide +kernel, rfl, by decide +kernel, by decide +kernel⟩
theorem ok__law_asked (D : Def K mg "_law_asked" s__law_asked .none) {C_Book : Addr} (c__law_spots : Cal P w K mg base CX0 true 1 "_law_spots" ["_law_firm", "_law_rows", "_law_upto"] [] spSo7) (c_Book_entries : CalM P w K mg base CX0 true 2 C_Book "entries" ["self"] [] (spEnt C_Book)) (c_Book_spots : CalM P w K mg base CX0 true 2 C_Book "spots" ["self", "upto"] [.non] (spSpots0 C_Book)) (c_Book_lines_upto : CalM P w K mg base CX0 true 3 C_Book "lines_upto" ["self", "upto"] [.non] (spUpto0 C_Book)) (c_Book_figures : CalM P w K mg base CX0 true 4 C_Book "figures" ["self", "upto"] [.non] (spFigures0 C_Book)) (c__law_kept : Cal P w K mg base CX0 true 1 "_law_kept" ["_law_lines_here"] [] spKept) (z_list : mg "list" = none) (z_isinstance : mg "isinstance" = none) (z_tuple : mg "tuple" = none) (cl_Book : Cls K C_Book) : Cal P w K mg base CX0 true 6 "_law_asked" ["_law_book", "_law_firm", "_law_rows", "_law_what", "_law_upto", "_law_held"] [] (spAk7 C_Book) := by
 obtain ⟨f, fd, F, hm⟩ := D
 obtain ⟨f__law_spots, fd__law_spots, d__law_spots, G__law_spots, m__law_spots, k__law_spots, b__law_spots, v__law_spots, b__law_spots1⟩ := c__law_spots
 obtain ⟨f_Book_entries, fd_Book_entries, d_Book_entries, G_Book_entries, m_Book_entries, b_Book_entries, v_Book_entries, b_Book_entries1⟩ := c_Book_entries
 obtain ⟨f_Book_spots, fd_Book_spots, d_Book_spots, G_Book_spots, m_Book_spots, b_Book_spots, v_Book_spots, b_Book_spots1⟩ := c_Book_spots
 obtain ⟨f_Book_lines_upto, fd_Book_lines_upto, d_Book_lines_upto, G_Book_lines_upto, m_Book_lines_upto, b_Book_lines_upto, v_Book_lines_upto, b_Book_lines_upto1⟩ := c_Book_lines_upto
 obtain ⟨f_Book_figures, fd_Book_figures, d_Book_figures, G_Book_figures, m_Book_figures, b_Book_figures, v_Book_figures, b_Book_figures1⟩ := c_Book_figures
 obtain ⟨f__law_kept, fd__law_kept, d__law_kept, G__law_kept, m__law_kept, k__law_kept, b__law_kept, v__law_kept, b__law_kept1⟩ := c__law_kept
 refine ⟨f, fd, _, F.ok sc__law_asked (fun vs H Q E h => ?_) (fun cdv A outer s H vs Q E hr h => ?_), hm, F.kp, (F.binds fun _ _ _ _ _ _ us hl => match us, hl with | [_, _, _, _, _, _], _ => rfl), .nil, F.binds fun _ _ _ _ _ _ us hl => match us, hl with | [_, _, _, _, _, _], _ => rfl⟩
 · obtain ⟨p, kl, rl, f, E, T, n, what, m, hl, hs, rfl, B, hn12, hE5, hhl, hhn, q⟩ := h
   rfl
 obtain ⟨p, kl, rl, f, E, T, n, what, m, hl, hs, rfl, B, hn12, hE5, hhl, hhn, q⟩ := h
 have nd := sc__law_asked.nd
 refine ⟨_, (pss_cons (ps_set (i := 6) nd rfl (Or.inl rfl) (pe_call G__law_spots (hr.mono (by decide)) rfl m__law_spots k__law_spots b__law_spots Paired.nil pass0 (pa_cons (pv 1) (pa_cons (pv 2) (pa_cons (pv 4) pa_nil)))))
   (pss_cons (ps_if (pt_cmpR op_eq (pv 3) pe_int (nomark _)) (pss_cons (ps_set (i := 8) nd rfl (Or.inl rfl) (pe_meth0 (pv 0) cl_Book m_Book_entries G_Book_entries (hr.mono (by decide)) b_Book_entries Paired.nil pass0))
   (pss_one (ps_setLCT (xs := ["_law_day", "_law_about", "_law_lines_here"]) [] (i := 9) nd rfl (Or.inl rfl) rfl (LcOkT.plain (xs := ["_law_day", "_law_about", "_law_lines_here"]) (by decide +kernel) (by decide +kernel) rfl (by decide +kernel) (by decide +kernel) (by decide +kernel)) (pi_list (pv 2)) (pg_tup3T rfl (LcOkT.plain (xs := ["_law_day", "_law_about", "_law_lines_here"]) (by decide +kernel) (by decide +kernel) rfl (by decide +kernel) (by decide +kernel) (by decide +kernel))) (fun C s2 H2 fp xe => (pe_tup (pa_cons (pv 0) (pa_cons (pv 1) (pa_cons (pe_callTy call_list_ofC rfl z_list bt_list (pa_cons (pv 2) pa_nil)) pa_nil)))))))) (pss_one (ps_if (pt_cmpR op_eq (pv 3) pe_int (nomark _)) (pss_cons (ps_set (i := 8) nd rfl (Or.inl rfl) (pe_ifExp (pt_cmpR op_isN (pv 4) pe_non (nomark _)) (pe_meth0 (pv 0) cl_Book m_Book_spots G_Book_spots (hr.mono (by decide)) b_Book_spots1 v_Book_spots pass0) (pe_meth (pv 0) cl_Book m_Book_spots G_Book_spots (hr.mono (by decide)) b_Book_spots Paired.nil pass0 (pa_cons (pv 4) pa_nil))))
   (pss_one (ps_set (i := 9) nd rfl (Or.inl rfl) (pv 6)))) (pss_one (ps_if (pt_cmpR op_eq (pv 3) pe_int (nomark _)) (pss_cons (ps_set (i := 8) nd rfl (Or.inl rfl) (pe_ifExp (pt_cmpR op_isN (pv 4) pe_non (nomark _)) (pe_meth0 (pv 0) cl_Book m_Book_lines_upto G_Book_lines_upto (hr.mono (by decide)) b_Book_lines_upto1 v_Book_lines_upto pass0) (pe_meth (pv 0) cl_Book m_Book_lines_upto G_Book_lines_upto (hr.mono (by decide)) b_Book_lines_upto Paired.nil pass0 (pa_cons (pv 4) pa_nil))))
   (pss_one (ps_setLCT (xs := ["_law_spot", "_law_line"]) [] (i := 9) nd rfl (Or.inl rfl) rfl (LcOkT.plain (xs := ["_law_spot", "_law_line"]) (by decide +kernel) (by decide +kernel) rfl (by decide +kernel) (by decide +kernel) (by decide +kernel)) (pi_list (pv 6)) (pg_tup2T rfl (LcOkT.plain (xs := ["_law_spot", "_law_line"]) (by decide +kernel) (by decide +kernel) rfl (by decide +kernel) (by decide +kernel) (by decide +kernel))) (fun C s2 H2 fp xe => (pv 1))))) (pss_cons (ps_set (i := 8) nd rfl (Or.inl rfl) (pe_ifExp (pt_cmpR op_isN (pv 4) pe_non (nomark _)) (pe_meth0 (pv 0) cl_Book m_Book_figures G_Book_figures (hr.mono (by decide)) b_Book_figures1 v_Book_figures pass0) (pe_meth (pv 0) cl_Book m_Book_figures G_Book_figures (hr.mono (by decide)) b_Book_figures Paired.nil pass0 (pa_cons (pv 4) pa_nil))))
   (pss_one (ps_setLCT (xs := ["_law_place", "_law_sums"]) [] (i := 9) nd rfl (Or.inl rfl) rfl (LcOkT.plain (xs := ["_law_place", "_law_sums"]) (by decide +kernel) (by decide +kernel) rfl (by decide +kernel) (by decide +kernel) (by decide +kernel)) (pi_list (pe_call G__law_kept (hr.mono (by decide)) rfl m__law_kept k__law_kept b__law_kept Paired.nil pass0 (pa_cons (pe_lcT (xs := ["_law_spot", "_law_line"]) [] rfl (LcOkT.plain (xs := ["_law_spot", "_law_line"]) (by decide +kernel) (by decide +kernel) rfl (by decide +kernel) (by decide +kernel) (by decide +kernel)) (pi_list (pv 6)) (pg_tup2T rfl (LcOkT.plain (xs := ["_law_spot", "_law_line"]) (by decide +kernel) (by decide +kernel) rfl (by decide +kernel) (by decide +kernel) (by decide +kernel))) (fun C s2 H2 fp xe => (pv 1))) pa_nil))) (pg_tup2T rfl (LcOkT.plain (xs := ["_law_place", "_law_sums"]) (by decide +kernel) (by decide +kernel) rfl (by decide +kernel) (by decide +kernel) (by decide +kernel))) (fun C s2 H2 fp xe => (pe_op op_catTC (pv 0) (pv 1)))))))))))
   (pss_cons (ps_if (PW.pt (pw_or (pt_not (pt_val (pe_callB call_is rfl z_isinstance bt_isinstance (pa_cons (pv 8) (pa_cons (pe_bltn (v := .ty "list") rfl z_list bt_list rfl) pa_nil))))) (pw_or1 (pt_cmpR (op_neV hr) (pv 8) (pv 9) (nomark _))))) (pss_one (ps_ret pe_bl)) pss_nil)
   (pss_cons (ps_for PassesOwn.never rfl (pi_list (pv 8)) (pg_name (i := 7) nd rfl (Or.inl rfl)) (pss_one (ps_if (pt_not (pt_val (pe_callB call_is rfl z_isinstance bt_isinstance (pa_cons (pv 7) (pa_cons (pe_bltn (v := .ty "tuple") rfl z_tuple bt_tuple rfl) pa_nil))))) (pss_one (ps_ret pe_bl)) pss_nil)))
   (pss_cons (ps_expr (pe_bm PySem.F.plainAttrs_list PySem.F.slot_list_append PySem.F.type_list_append mt_append (pv 5) (pa_cons (pe_tup (pa_cons (pv 8) (pa_cons (pv 9) pa_nil))) pa_nil)))
   (pss_one (ps_ret pe_bl))))))), ?_⟩
 rcases m with _ | m0
 · rw [show ∀ x0 x1 x2 x3 x4 x5 : V, L2.start ["_law_book", "_law_firm", "_law_rows", "_law_what", "_law_upto", "_law_held", "_law_spots_here", "_law_thing", "_law_found", "_law_due_here"] [x0, x1, x2, x3, x4, x5] = [some x0, some x1, some x2, some x3, some x4, some x5, none, none, none, none] from fun _ _ _ _ _ _ => rfl]
   have hline : 10 ^ 6 ≤ sizeLine := by decide
   have hEn := B.ln
   have hTE := de_len B.de
   have rT := rfE_len T
   have hdl := de_dl B.de
   have dE : (dl E).length = E.length := List.length_map ..
   obtain ⟨dx, fs, hp, hbk, hke, hno⟩ := B.kb.ob
   have h60 : (upto (dl E) none).length ≤ 60 := by
     have h := upto5 (D := dl E) (m := none) (fun d hd => by
       obtain ⟨e, he, rfl⟩ := List.mem_map.mp hd
       exact hE5 e he)
     omega
   have hTl : ∀ e ∈ T, e.2.2.2.2.length ≤ 1000 := fun e he => by
     have hm : (e.2.1, e.2.2.2.2) ∈ dl E := by
       rw [← hdl]
       exact List.mem_map.mpr ⟨e, he, rfl⟩
     obtain ⟨e', he', w⟩ := List.mem_map.mp hm
     have h5 := hE5 e' he'
     have w2 : e'.2.2.2.2 = e.2.2.2.2 := congrArg (·.2) w
     rw [← w2]
     omega
   refine ⟨_, rfl, _, rfl, _, rfl, rl, f, none, T, rfl, B.rc, B.te, by omega, hTl, fun r0 Z H1 e1 hr00 hr0 hZ hZv => ?_⟩
   rw [hdl] at hZv
   have hZn : Z.length ≤ 60 := by
     have a := congrArg List.length hZv
     rw [List.length_map, spD_len] at a
     omega
   have em : Z.map (fun z => V.ref z.2.2.1) = rf5 (upto (dl E) none) := by
     rw [← spD_map, ← hZv]
     unfold rf5
     rw [List.map_map, List.map_map]
     rfl
   have B1 := B.same e1
   simp only [List.set_cons_zero, List.set_cons_succ]
   apply join3 (fun (r r2 : Addr) (H3 : Hp) => Same H H3 ∧ Ans H H3 r r2)
   · intro kk
     refine ⟨_, rfl, rfl, _, rfl, ?_⟩
     refine dec2 (fun h => ?_) (fun h => ?_)
     · refine ⟨_, rfl, p, dx, fs, rfl, e1 _ _ hp, hno "entries" (by decide +kernel), p, kl, f, E, rfl, B1.kb, B1.kc, B1.en, by omega, fun r T2 H2 e2 hr20 hr2 hT2 hT2f hde => ?_⟩
       have B2 := B1.same e2
       refine ⟨_, rfl, rl, rfl, ⟨_, SqL.of B2.rc⟩, ?_⟩
       refine lc_list (xs := rfE T) (fun j ys H3 => ∃ D : List En, ys = rfE D ∧ de D = de (T.take j) ∧ TeL H3 D ∧ (∀ t ∈ D, H2 t.2.2.2.1 = none) ∧ Same H2 H3) ⟨[], rfl, rfl, (fun z hz => nomatch hz), (fun z hz => nomatch hz), Same.refl _⟩ (by omega) ?_ ?_ ?_
       · rintro j ys H3 hj ⟨D, rfl, hD, _, _, e3⟩
         have w := de_len hD
         rw [List.length_take] at w
         exact ⟨SqL.of (e3 _ _ B2.rc), by rw [rfE_len]; omega⟩
       · rintro j x ys H3 hx ⟨D, rfl, hD, hDt, hDf, e3⟩ σ0 h0
         obtain ⟨z, hz, rfl⟩ := rfE_at hx
         obtain ⟨u, v, w, rfl⟩ : ∃ u v w, σ0 = [u, v, w] := by
           rcases σ0 with _ | ⟨u, _ | ⟨v, _ | ⟨w, _ | ⟨y, r⟩⟩⟩⟩ <;> simp at h0
           exact ⟨u, v, w, rfl⟩
         obtain ⟨z1, z2⟩ := (B2.te.same e3) z (List.mem_of_getElem? hz)
         refine ⟨z.1, _, rfl, SqT.of z1, rfl, _, _, rfl, _, _, rfl, _, _, rfl, rfl, [_, _, _], rfl, rfl, ?_⟩
         refine ⟨_, rfl, _, rfl, _, rfl, z.2.2.2.1, _, rfl, .inl (SqL.of z2), fun l4 hl4 => ⟨(by show 3 ≤ sizeLine; decide), fun t4 ht4 => ?_⟩⟩
         have g1 := same_upd (o := .lst (rf5 z.2.2.2.2)) hl4
         have g2 := same_upd (o := .tup [.int z.2.1, .int z.2.2.1, .ref l4]) ht4
         have g := g1.trans g2
         refine ⟨D ++ [(t4, z.2.1, z.2.2.1, l4, z.2.2.2.2)], by rw [rfE_app]; rfl, ?_, fun y hy => ?_, fun y hy => ?_, e3.trans g⟩
         · rw [de_app, hD, take_nx hz, de_app]
         · rcases List.mem_append.mp hy with w | w
           · exact hDt.same g y w
           · rw [List.mem_singleton.mp w]
             exact ⟨upd_same, g2 _ _ upd_same⟩
         · rcases List.mem_append.mp hy with w | w
           · exact hDf y w
           · rw [List.mem_singleton.mp w]
             exact e3.free hl4
       rintro ys H3 ⟨D, rfl, hD, hDt, hDf, e3⟩ d2 hd2
       rw [rT, List.take_length] at hD
       have g := same_upd (o := .lst (rfE D)) hd2
       have hd22 : upd H3 d2 (.lst (rfE D)) d2 = some (.lst (rfE D)) := upd_same
       have e24 := e3.trans g
       have hDt4 := hDt.same g
       generalize upd H3 d2 (.lst (rfE D)) = H4 at e24 hd22 hDt4 ⊢
       have hT2n := de_len hde
       exact kk r d2 H4 ⟨(e1.trans e2).trans e24, ans_ent (e1.free hr20) ((e1.trans e2).free (e3.free hd2)) (e24 _ _ hr2) hd22 (hT2.same e24) hDt4 (fun t ht => e1.free (hT2f t ht)) (fun t ht => (e1.trans e2).free (hDf t ht)) (by rw [hde, hD, B.de]) (by omega)⟩
     refine ⟨_, rfl, rfl, _, rfl, ?_⟩
     refine dec2 (fun h => ?_) (fun h => ?_)
     · refine ⟨_, rfl, rfl, _, rfl, decT rfl ?_⟩
       refine ⟨_, rfl, p, dx, fs, rfl, e1 _ _ hp, hno "spots" (by decide +kernel), p, kl, f, none, E, rfl, B1.kb, B1.kc, B1.en, by omega, fun r T2 H2 e2 hr20 hr2 hT2 hT2v => ?_⟩
       have hT2n : T2.length ≤ 60 := by
         have a := congrArg List.length hT2v
         rw [List.length_map, spD_len] at a
         omega
       exact ⟨_, rfl, kk r r0 H2 ⟨e1.trans e2, ans_spo (e1.free hr20) hr00 hr2 (e2 _ _ hr0) hT2 (hZ.same e2) (hT2v.trans hZv.symm) (by omega)⟩⟩
     refine ⟨_, rfl, rfl, _, rfl, ?_⟩
     refine dec2 (fun h => ?_) (fun h => ?_)
     · refine ⟨_, rfl, rfl, _, rfl, decT rfl ?_⟩
       refine ⟨_, rfl, p, dx, fs, rfl, e1 _ _ hp, hno "lines_upto" (by decide +kernel), p, kl, f, none, E, rfl, B1.kb, B1.kc, B1.en, by omega, fun r H2 e2 hr20 hr2 => ?_⟩
       have hr02 := e2 _ _ hr0
       have hZ2 := hZ.same e2
       refine ⟨_, rfl, r0, rfl, ⟨_, SqL.of hr02⟩, ?_⟩
       refine lc_list (xs := rfT Z) (fun j ys H5 => ys = (Z.take j).map (fun z => V.ref z.2.2.1) ∧ H5 = H2) ⟨rfl, rfl⟩ (by rw [rfT_len]; omega) ?_ ?_ ?_
       · rintro j ys H5 hj ⟨rfl, rfl⟩
         rw [rfT_len] at hj
         exact ⟨SqL.of hr02, by rw [List.length_map, List.length_take]; omega⟩
       · rintro j x ys H5 hx ⟨rfl, rfl⟩ σ0 h0
         obtain ⟨y, hy, rfl⟩ := rfT_at hx
         obtain ⟨u, v, rfl⟩ : ∃ u v, σ0 = [u, v] := by
           rcases σ0 with _ | ⟨u, _ | ⟨v, _ | ⟨w, r⟩⟩⟩ <;> simp at h0
           exact ⟨u, v, rfl⟩
         obtain ⟨s, hs, _⟩ := hZ2 y (List.mem_of_getElem? hy)
         refine ⟨y.1, _, rfl, SqT.of hs, rfl, _, _, rfl, _, _, rfl, rfl, [_, _], rfl, rfl, _, rfl, ?_, rfl⟩
         rw [take_nx hy, List.map_append]
         rfl
       rintro ys H5 ⟨rfl, rfl⟩ l3 hl3
       rw [rfT_len, List.take_length, em]
       have g := same_upd (o := .lst (rf5 (upto (dl E) none))) hl3
       have hl33 : upd H5 l3 (.lst (rf5 (upto (dl E) none))) l3 = some (.lst (rf5 (upto (dl E) none))) := upd_same
       exact kk r l3 _ ⟨(e1.trans e2).trans g, ans_lin (e1.free hr20) ((e1.trans e2).free hl3) (g _ _ hr2) hl33 (((upto_r5 B1.en).same e2).same g) (by omega)⟩
     have hk64 : (kys ((upto (dl E) none).map (·.2.2))).length < 64 := by
       have w : (kys ((upto (dl E) none).map (·.2.2))).length ≤ (upto (dl E) none).length := by
         unfold kys
         refine Nat.le_trans (N21.len_firsts _) ?_
         rw [List.length_map, List.length_map]
         exact Nat.le_refl _
       omega
     refine ⟨_, rfl, rfl, _, rfl, decT rfl ?_⟩
     refine ⟨_, rfl, p, dx, fs, rfl, e1 _ _ hp, hno "figures" (by decide +kernel), p, kl, f, none, E, rfl, B1.kb, B1.kc, B1.en, by omega, hk64, fun r F H2 e2 hr20 hr2 hF hFg => ?_⟩
     have hr02 := e2 _ _ hr0
     have hZ2 := hZ.same e2
     refine ⟨_, rfl, r0, rfl, ⟨_, SqL.of hr02⟩, ?_⟩
     refine lc_list (xs := rfT Z) (fun j ys H5 => ys = (Z.take j).map (fun z => V.ref z.2.2.1) ∧ H5 = H2) ⟨rfl, rfl⟩ (by rw [rfT_len]; omega) ?_ ?_ ?_
     · rintro j ys H5 hj ⟨rfl, rfl⟩
       rw [rfT_len] at hj
       exact ⟨SqL.of hr02, by rw [List.length_map, List.length_take]; omega⟩
     · rintro j x ys H5 hx ⟨rfl, rfl⟩ σ0 h0
       obtain ⟨y, hy, rfl⟩ := rfT_at hx
       obtain ⟨u, v, rfl⟩ : ∃ u v, σ0 = [u, v] := by
         rcases σ0 with _ | ⟨u, _ | ⟨v, _ | ⟨w, r⟩⟩⟩ <;> simp at h0
         exact ⟨u, v, rfl⟩
       obtain ⟨s, hs, _⟩ := hZ2 y (List.mem_of_getElem? hy)
       refine ⟨y.1, _, rfl, SqT.of hs, rfl, _, _, rfl, _, _, rfl, rfl, [_, _], rfl, rfl, _, rfl, ?_, rfl⟩
       rw [take_nx hy, List.map_append]
       rfl
     rintro ys H5 ⟨rfl, rfl⟩ l3 hl3
     rw [rfT_len, List.take_length, em]
     have g := same_upd (o := .lst (rf5 (upto (dl E) none))) hl3
     refine ⟨l3, upto (dl E) none, rfl, upd_same, ((upto_r5 B1.en).same e2).same g, by omega, hk64, fun kp Z3 H6 e6 hk hZ3 hG => ⟨kp, rfl, ⟨_, SqL.of hk⟩, ?_⟩⟩
     have hZl := fig_len hG
     rw [List.length_map, List.length_map] at hZl
     refine lc_list (xs := rfk Z3) (fun j ys H7 => ∃ D : List Rw4, ys = rf4 D ∧ D.map (·.2) = (Z3.take j).map (·.2.2.2) ∧ R4 H7 D ∧ Same H6 H7) ⟨[], rfl, rfl, (fun z hz => nomatch hz), fun _ _ h => h⟩ (by rw [rfk_len]; omega) ?_ ?_ ?_
     · rintro j ys H7 hj ⟨D, rfl, hD, _, e7⟩
       have := congrArg List.length hD
       rw [List.length_map, List.length_map, List.length_take] at this
       rw [rfk_len] at hj
       exact ⟨SqL.of (e7 _ _ hk), by rw [rf4_len]; omega⟩
     · rintro j x ys H7 hx ⟨D, rfl, hD, hDt, e7⟩ σ0 h0
       obtain ⟨z, hz, rfl⟩ := rfk_at hx
       obtain ⟨u, v, rfl⟩ : ∃ u v, σ0 = [u, v] := by
         rcases σ0 with _ | ⟨u, _ | ⟨v, _ | ⟨w, r⟩⟩⟩ <;> simp at h0
         exact ⟨u, v, rfl⟩
       obtain ⟨z1, z2, z3⟩ := hZ3.same e7 z (List.mem_of_getElem? hz)
       refine ⟨z.1, _, rfl, SqT.of z1, rfl, _, _, rfl, _, _, rfl, rfl, [_, _], rfl, rfl, ?_⟩
       refine ⟨_, rfl, _, rfl, z.2.1, z.2.2.1, _, _, rfl, rfl, SqT.of z2, SqT.of z3, (fun h => nomatch h), (by show 4 ≤ sizeLine; decide), (fun h => nomatch h), fun _ p4 hp4 => ?_⟩
       have f := same_upd (o := tup4 (p4, z.2.2.2)) hp4
       refine ⟨D ++ [(p4, z.2.2.2)], by rw [rf4_app]; rfl, ?_, fun y hy => ?_, e7.trans f⟩
       · rw [take_nx hz, List.map_append, List.map_append, hD]
         rfl
       · rcases List.mem_append.mp hy with w | w
         · exact f _ _ (hDt y w)
         · rw [List.mem_singleton.mp w]
           exact upd_same
     rintro ys H7 ⟨D, rfl, hD, hDt, e7⟩ d8 hd8
     have eDF : F.map (·.2) = D.map (·.2) := by
       rw [hD, rfk_len, List.take_length]
       exact fig_one hFg hG
     have g8 := same_upd (o := .lst (rf4 D)) hd8
     have hd88 : upd H7 d8 (.lst (rf4 D)) d8 = some (.lst (rf4 D)) := upd_same
     have e28 := (g.trans e6).trans (e7.trans g8)
     have hDt8 := hDt.same g8
     have hFn : F.length ≤ 60 := by
       have w := fig_len hFg
       rw [List.length_map, List.length_map] at w
       omega
     exact kk r d8 _ ⟨(e1.trans e2).trans e28, ans_fig (e1.free hr20) ((e1.trans e2).free (g.free (e6.free (e7.free hd8)))) (e28 _ _ hr2) hd88 (hF.same e28) hDt8 eDF (by omega)⟩
   rintro r r2 H3 ⟨e3, f1, f2, xs, ys, LL, hr, hr2, hl2, hn2, fL, hal⟩
   refine ⟨_, rfl, _, _, _, _, _, rfl, .of (.lst hr), rfl, rfl, true, rfl, iteF ?_⟩
   refine ⟨_, rfl, _, rfl, r, r2, xs, ys, rfl, rfl, SqL.of hr, SqL.of hr2, hl2, (fun j x y a b => (hal j x y a b).tu), _, rfl, iteF ?_⟩
   refine ⟨_, rfl, r, rfl, ⟨_, SqL.of hr⟩, ?_⟩
   refine for_list (xs := xs) (fun i σ H' => ∃ (o : Option V), σ = [some (.ref p), some (.str f), some (.ref rl), some (.int what), some (mV none), some (.ref hl), some (.ref r0), o, some (.ref r), some (.ref r2)] ∧ H' = H3) ⟨_, rfl, rfl⟩ ?_ ?_ ?_
   · rintro i σ H' hi ⟨o, rfl, rfl⟩
     exact SqL.of hr
   · rintro i x σ H' hx ⟨o, rfl, rfl⟩
     have hi : i < xs.length := (List.getElem?_eq_some_iff.mp hx).1
     obtain ⟨y, hy⟩ : ∃ y, ys[i]? = some y := ⟨_, List.getElem?_eq_getElem (by omega)⟩
     obtain ⟨a, us, rfl, hus⟩ := (hal i x y hx hy).fst
     exact ⟨_, rfl, _, _, _, _, _, rfl, .of (.tup hus), rfl, rfl, true, rfl, iteF ⟨_, rfl, rfl⟩⟩
   rintro σ H' ⟨o, rfl, rfl⟩
   have hh3 := e3 _ _ hhl
   refine ⟨_, rfl, .inl ⟨rfl, _, SqL.of hh3⟩, _, rfl, _, rfl, (by show 2 ≤ sizeLine; decide), fun tp htp => ?_⟩
   have g := same_upd (o := .tup [.ref r, .ref r2]) htp
   refine ⟨hl, _, _, rfl, rfl, g _ _ hh3, by omega, ?_⟩
   have kp : ∀ b o, upd H' tp (.tup [.ref r, .ref r2]) b = some o → b ≠ hl → upd (upd H' tp (.tup [.ref r, .ref r2])) hl (.lst (hs ++ [.ref tp])) b = some o := fun b o hb nb => by rw [upd_ne nb]; exact hb
   have nf : ∀ c, H c = none → c ≠ hl := fun c hc z => by rw [z, hhl] at hc; cases hc
   refine q ⟨tp, r, r2, xs, ys, LL⟩ _ (fun b o hb nb => kp _ _ (g _ _ (e3 _ _ hb)) nb) upd_same ⟨tup_keepL upd_same (g _ _ hh3), kp _ _ (g _ _ hr) (nf _ f1), kp _ _ (g _ _ hr2) (nf _ f2), hl2, fun j u w a b => (hal j u w a b).keep (fun c zs hc => tup_keepL (g _ _ hc) (g _ _ hh3)) (fun c zs hc mc => kp _ _ (g _ _ hc) (nf _ (fL c mc)))⟩ f1 f2 fL
 · rw [show ∀ x0 x1 x2 x3 x4 x5 : V, L2.start ["_law_book", "_law_firm", "_law_rows", "_law_what", "_law_upto", "_law_held", "_law_spots_here", "_law_thing", "_law_found", "_law_due_here"] [x0, x1, x2, x3, x4, x5] = [some x0, some x1, some x2, some x3, some x4, some x5, none, none, none, none] from fun _ _ _ _ _ _ => rfl]
   have hline : 10 ^ 6 ≤ sizeLine := by decide
   have hEn := B.ln
   have hTE := de_len B.de
   have rT := rfE_len T
   have hdl := de_dl B.de
   have dE : (dl E).length = E.length := List.length_map ..
   obtain ⟨dx, fs, hp, hbk, hke, hno⟩ := B.kb.ob
   have h60 : (upto (dl E) (some m0)).length ≤ 60 := by
     have h := upto5 (D := dl E) (m := (some m0)) (fun d hd => by
       obtain ⟨e, he, rfl⟩ := List.mem_map.mp hd
       exact hE5 e he)
     omega
   have hTl : ∀ e ∈ T, e.2.2.2.2.length ≤ 1000 := fun e he => by
     have hm : (e.2.1, e.2.2.2.2) ∈ dl E := by
       rw [← hdl]
       exact List.mem_map.mpr ⟨e, he, rfl⟩
     obtain ⟨e', he', w⟩ := List.mem_map.mp hm
     have h5 := hE5 e' he'
     have w2 : e'.2.2.2.2 = e.2.2.2.2 := congrArg (·.2) w
     rw [← w2]
     omega
   refine ⟨_, rfl, _, rfl, _, rfl, rl, f, (some m0), T, rfl, B.rc, B.te, by omega, hTl, fun r0 Z H1 e1 hr00 hr0 hZ hZv => ?_⟩
   rw [hdl] at hZv
   have hZn : Z.length ≤ 60 := by
     have a := congrArg List.length hZv
     rw [List.length_map, spD_len] at a
     omega
   have em : Z.map (fun z => V.ref z.2.2.1) = rf5 (upto (dl E) (some m0)) := by
     rw [← spD_map, ← hZv]
     unfold rf5
     rw [List.map_map, List.map_map]
     rfl
   have B1 := B.same e1
   simp only [List.set_cons_zero, List.set_cons_succ]
   apply join3 (fun (r r2 : Addr) (H3 : Hp) => Same H H3 ∧ Ans H H3 r r2)
   · intro kk
     refine ⟨_, rfl, rfl, _, rfl, ?_⟩
     refine dec2 (fun h => ?_) (fun h => ?_)
     · refine ⟨_, rfl, p, dx, fs, rfl, e1 _ _ hp, hno "entries" (by decide +kernel), p, kl, f, E, rfl, B1.kb, B1.kc, B1.en, by omega, fun r T2 H2 e2 hr20 hr2 hT2 hT2f hde => ?_⟩
       have B2 := B1.same e2
       refine ⟨_, rfl, rl, rfl, ⟨_, SqL.of B2.rc⟩, ?_⟩
       refine lc_list (xs := rfE T) (fun j ys H3 => ∃ D : List En, ys = rfE D ∧ de D = de (T.take j) ∧ TeL H3 D ∧ (∀ t ∈ D, H2 t.2.2.2.1 = none) ∧ Same H2 H3) ⟨[], rfl, rfl, (fun z hz => nomatch hz), (fun z hz => nomatch hz), Same.refl _⟩ (by omega) ?_ ?_ ?_
       · rintro j ys H3 hj ⟨D, rfl, hD, _, _, e3⟩
         have w := de_len hD
         rw [List.length_take] at w
         exact ⟨SqL.of (e3 _ _ B2.rc), by rw [rfE_len]; omega⟩
       · rintro j x ys H3 hx ⟨D, rfl, hD, hDt, hDf, e3⟩ σ0 h0
         obtain ⟨z, hz, rfl⟩ := rfE_at hx
         obtain ⟨u, v, w, rfl⟩ : ∃ u v w, σ0 = [u, v, w] := by
           rcases σ0 with _ | ⟨u, _ | ⟨v, _ | ⟨w, _ | ⟨y, r⟩⟩⟩⟩ <;> simp at h0
           exact ⟨u, v, w, rfl⟩
         obtain ⟨z1, z2⟩ := (B2.te.same e3) z (List.mem_of_getElem? hz)
         refine ⟨z.1, _, rfl, SqT.of z1, rfl, _, _, rfl, _, _, rfl, _, _, rfl, rfl, [_, _, _], rfl, rfl, ?_⟩
         refine ⟨_, rfl, _, rfl, _, rfl, z.2.2.2.1, _, rfl, .inl (SqL.of z2), fun l4 hl4 => ⟨(by show 3 ≤ sizeLine; decide), fun t4 ht4 => ?_⟩⟩
         have g1 := same_upd (o := .lst (rf5 z.2.2.2.2)) hl4
         have g2 := same_upd (o := .tup [.int z.2.1, .int z.2.2.1, .ref l4]) ht4
         have g := g1.trans g2
         refine ⟨D ++ [(t4, z.2.1, z.2.2.1, l4, z.2.2.2.2)], by rw [rfE_app]; rfl, ?_, fun y hy => ?_, fun y hy => ?_, e3.trans g⟩
         · rw [de_app, hD, take_nx hz, de_app]
         · rcases List.mem_append.mp hy with w | w
           · exact hDt.same g y w
           · rw [List.mem_singleton.mp w]
             exact ⟨upd_same, g2 _ _ upd_same⟩
         · rcases List.mem_append.mp hy with w | w
           · exact hDf y w
           · rw [List.mem_singleton.mp w]
             exact e3.free hl4
       rintro ys H3 ⟨D, rfl, hD, hDt, hDf, e3⟩ d2 hd2
       rw [rT, List.take_length] at hD
       have g := same_upd (o := .lst (rfE D)) hd2
       have hd22 : upd H3 d2 (.lst (rfE D)) d2 = some (.lst (rfE D)) := upd_same
       have e24 := e3.trans g
       have hDt4 := hDt.same g
       generalize upd H3 d2 (.lst (rfE D)) = H4 at e24 hd22 hDt4 ⊢
       have hT2n := de_len hde
       exact kk r d2 H4 ⟨(e1.trans e2).trans e24, ans_ent (e1.free hr20) ((e1.trans e2).free (e3.free hd2)) (e24 _ _ hr2) hd22 (hT2.same e24) hDt4 (fun t ht => e1.free (hT2f t ht)) (fun t ht => (e1.trans e2).free (hDf t ht)) (by rw [hde, hD, B.de]) (by omega)⟩
     refine ⟨_, rfl, rfl, _, rfl, ?_⟩
     refine dec2 (fun h => ?_) (fun h => ?_)
     · refine ⟨_, rfl, rfl, _, rfl, decF (fun h => by cases h) ?_⟩
       refine ⟨_, rfl, p, dx, fs, rfl, e1 _ _ hp, hno "spots" (by decide +kernel), _, rfl, p, kl, f, (some m0), E, rfl, B1.kb, B1.kc, B1.en, by omega, fun r T2 H2 e2 hr20 hr2 hT2 hT2v => ?_⟩
       have hT2n : T2.length ≤ 60 := by
         have a := congrArg List.length hT2v
         rw [List.length_map, spD_len] at a
         omega
       exact ⟨_, rfl, kk r r0 H2 ⟨e1.trans e2, ans_spo (e1.free hr20) hr00 hr2 (e2 _ _ hr0) hT2 (hZ.same e2) (hT2v.trans hZv.symm) (by omega)⟩⟩
     refine ⟨_, rfl, rfl, _, rfl, ?_⟩
     refine dec2 (fun h => ?_) (fun h => ?_)
     · refine ⟨_, rfl, rfl, _, rfl, decF (fun h => by cases h) ?_⟩
       refine ⟨_, rfl, p, dx, fs, rfl, e1 _ _ hp, hno "lines_upto" (by decide +kernel), _, rfl, p, kl, f, (some m0), E, rfl, B1.kb, B1.kc, B1.en, by omega, fun r H2 e2 hr20 hr2 => ?_⟩
       have hr02 := e2 _ _ hr0
       have hZ2 := hZ.same e2
       refine ⟨_, rfl, r0, rfl, ⟨_, SqL.of hr02⟩, ?_⟩
       refine lc_list (xs := rfT Z) (fun j ys H5 => ys = (Z.take j).map (fun z => V.ref z.2.2.1) ∧ H5 = H2) ⟨rfl, rfl⟩ (by rw [rfT_len]; omega) ?_ ?_ ?_
       · rintro j ys H5 hj ⟨rfl, rfl⟩
         rw [rfT_len] at hj
         exact ⟨SqL.of hr02, by rw [List.length_map, List.length_take]; omega⟩
       · rintro j x ys H5 hx ⟨rfl, rfl⟩ σ0 h0
         obtain ⟨y, hy, rfl⟩ := rfT_at hx
         obtain ⟨u, v, rfl⟩ : ∃ u v, σ0 = [u, v] := by
           rcases σ0 with _ | ⟨u, _ | ⟨v, _ | ⟨w, r⟩⟩⟩ <;> simp at h0
           exact ⟨u, v, rfl⟩
         obtain ⟨s, hs, _⟩ := hZ2 y (List.mem_of_getElem? hy)
         refine ⟨y.1, _, rfl, SqT.of hs, rfl, _, _, rfl, _, _, rfl, rfl, [_, _], rfl, rfl, _, rfl, ?_, rfl⟩
         rw [take_nx hy, List.map_append]
         rfl
       rintro ys H5 ⟨rfl, rfl⟩ l3 hl3
       rw [rfT_len, List.take_length, em]
       have g := same_upd (o := .lst (rf5 (upto (dl E) (some m0)))) hl3
       have hl33 : upd H5 l3 (.lst (rf5 (upto (dl E) (some m0)))) l3 = some (.lst (rf5 (upto (dl E) (some m0)))) := upd_same
       exact kk r l3 _ ⟨(e1.trans e2).trans g, ans_lin (e1.free hr20) ((e1.trans e2).free hl3) (g _ _ hr2) hl33 (((upto_r5 B1.en).same e2).same g) (by omega)⟩
     have hk64 : (kys ((upto (dl E) (some m0)).map (·.2.2))).length < 64 := by
       have w : (kys ((upto (dl E) (some m0)).map (·.2.2))).length ≤ (upto (dl E) (some m0)).length := by
         unfold kys
         refine Nat.le_trans (N21.len_firsts _) ?_
         rw [List.length_map, List.length_map]
         exact Nat.le_refl _
       omega
     refine ⟨_, rfl, rfl, _, rfl, decF (fun h => by cases h) ?_⟩
     refine ⟨_, rfl, p, dx, fs, rfl, e1 _ _ hp, hno "figures" (by decide +kernel), _, rfl, p, kl, f, (some m0), E, rfl, B1.kb, B1.kc, B1.en, by omega, hk64, fun r F H2 e2 hr20 hr2 hF hFg => ?_⟩
     have hr02 := e2 _ _ hr0
     have hZ2 := hZ.same e2
     refine ⟨_, rfl, r0, rfl, ⟨_, SqL.of hr02⟩, ?_⟩
     refine lc_list (xs := rfT Z) (fun j ys H5 => ys = (Z.take j).map (fun z => V.ref z.2.2.1) ∧ H5 = H2) ⟨rfl, rfl⟩ (by rw [rfT_len]; omega) ?_ ?_ ?_
     · rintro j ys H5 hj ⟨rfl, rfl⟩
       rw [rfT_len] at hj
       exact ⟨SqL.of hr02, by rw [List.length_map, List.length_take]; omega⟩
     · rintro j x ys H5 hx ⟨rfl, rfl⟩ σ0 h0
       obtain ⟨y, hy, rfl⟩ := rfT_at hx
       obtain ⟨u, v, rfl⟩ : ∃ u v, σ0 = [u, v] := by
         rcases σ0 with _ | ⟨u, _ | ⟨v, _ | ⟨w, r⟩⟩⟩ <;> simp at h0
         exact ⟨u, v, rfl⟩
       obtain ⟨s, hs, _⟩ := hZ2 y (List.mem_of_getElem? hy)
       refine ⟨y.1, _, rfl, SqT.of hs, rfl, _, _, rfl, _, _, rfl, rfl, [_, _], rfl, rfl, _, rfl, ?_, rfl⟩
       rw [take_nx hy, List.map_append]
       rfl
     rintro ys H5 ⟨rfl, rfl⟩ l3 hl3
     rw [rfT_len, List.take_length, em]
     have g := same_upd (o := .lst (rf5 (upto (dl E) (some m0)))) hl3
     refine ⟨l3, upto (dl E) (some m0), rfl, upd_same, ((upto_r5 B1.en).same e2).same g, by omega, hk64, fun kp Z3 H6 e6 hk hZ3 hG => ⟨kp, rfl, ⟨_, SqL.of hk⟩, ?_⟩⟩
     have hZl := fig_len hG
     rw [List.length_map, List.length_map] at hZl
     refine lc_list (xs := rfk Z3) (fun j ys H7 => ∃ D : List Rw4, ys = rf4 D ∧ D.map (·.2) = (Z3.take j).map (·.2.2.2) ∧ R4 H7 D ∧ Same H6 H7) ⟨[], rfl, rfl, (fun z hz => nomatch hz), fun _ _ h => h⟩ (by rw [rfk_len]; omega) ?_ ?_ ?_
     · rintro j ys H7 hj ⟨D, rfl, hD, _, e7⟩
       have := congrArg List.length hD
       rw [List.length_map, List.length_map, List.length_take] at this
       rw [rfk_len] at hj
       exact ⟨SqL.of (e7 _ _ hk), by rw [rf4_len]; omega⟩
     · rintro j x ys H7 hx ⟨D, rfl, hD, hDt, e7⟩ σ0 h0
       obtain ⟨z, hz, rfl⟩ := rfk_at hx
       obtain ⟨u, v, rfl⟩ : ∃ u v, σ0 = [u, v] := by
         rcases σ0 with _ | ⟨u, _ | ⟨v, _ | ⟨w, r⟩⟩⟩ <;> simp at h0
         exact ⟨u, v, rfl⟩
       obtain ⟨z1, z2, z3⟩ := hZ3.same e7 z (List.mem_of_getElem? hz)
       refine ⟨z.1, _, rfl, SqT.of z1, rfl, _, _, rfl, _, _, rfl, rfl, [_, _], rfl, rfl, ?_⟩
       refine ⟨_, rfl, _, rfl, z.2.1, z.2.2.1, _, _, rfl, rfl, SqT.of z2, SqT.of z3, (fun h => nomatch h), (by show 4 ≤ sizeLine; decide), (fun h => nomatch h), fun _ p4 hp4 => ?_⟩
       have f := same_upd (o := tup4 (p4, z.2.2.2)) hp4
       refine ⟨D ++ [(p4, z.2.2.2)], by rw [rf4_app]; rfl, ?_, fun y hy => ?_, e7.trans f⟩
       · rw [take_nx hz, List.map_append, List.map_append, hD]
         rfl
       · rcases List.mem_append.mp hy with w | w
         · exact f _ _ (hDt y w)
         · rw [List.mem_singleton.mp w]
           exact upd_same
     rintro ys H7 ⟨D, rfl, hD, hDt, e7⟩ d8 hd8
     have eDF : F.map (·.2) = D.map (·.2) := by
       rw [hD, rfk_len, List.take_length]
       exact fig_one hFg hG
     have g8 := same_upd (o := .lst (rf4 D)) hd8
     have hd88 : upd H7 d8 (.lst (rf4 D)) d8 = some (.lst (rf4 D)) := upd_same
     have e28 := (g.trans e6).trans (e7.trans g8)
     have hDt8 := hDt.same g8
     have hFn : F.length ≤ 60 := by
       have w := fig_len hFg
       rw [List.length_map, List.length_map] at w
       omega
     exact kk r d8 _ ⟨(e1.trans e2).trans e28, ans_fig (e1.free hr20) ((e1.trans e2).free (g.free (e6.free (e7.free hd8)))) (e28 _ _ hr2) hd88 (hF.same e28) hDt8 eDF (by omega)⟩
   rintro r r2 H3 ⟨e3, f1, f2, xs, ys, LL, hr, hr2, hl2, hn2, fL, hal⟩
   refine ⟨_, rfl, _, _, _, _, _, rfl, .of (.lst hr), rfl, rfl, true, rfl, iteF ?_⟩
   refine ⟨_, rfl, _, rfl, r, r2, xs, ys, rfl, rfl, SqL.of hr, SqL.of hr2, hl2, (fun j x y a b => (hal j x y a b).tu), _, rfl, iteF ?_⟩
   refine ⟨_, rfl, r, rfl, ⟨_, SqL.of hr⟩, ?_⟩
   refine for_list (xs := xs) (fun i σ H' => ∃ (o : Option V), σ = [some (.ref p), some (.str f), some (.ref rl), some (.int what), some (mV (some m0)), some (.ref hl), some (.ref r0), o, some (.ref r), some (.ref r2)] ∧ H' = H3) ⟨_, rfl, rfl⟩ ?_ ?_ ?_
   · rintro i σ H' hi ⟨o, rfl, rfl⟩
     exact SqL.of hr
   · rintro i x σ H' hx ⟨o, rfl, rfl⟩
     have hi : i < xs.length := (List.getElem?_eq_some_iff.mp hx).1
     obtain ⟨y, hy⟩ : ∃ y, ys[i]? = some y := ⟨_, List.getElem?_eq_getElem (by omega)⟩
     obtain ⟨a, us, rfl, hus⟩ := (hal i x y hx hy).fst
     exact ⟨_, rfl, _, _, _, _, _, rfl, .of (.tup hus), rfl, rfl, true, rfl, iteF ⟨_, rfl, rfl⟩⟩
   rintro σ H' ⟨o, rfl, rfl⟩
   have hh3 := e3 _ _ hhl
   refine ⟨_, rfl, .inl ⟨rfl, _, SqL.of hh3⟩, _, rfl, _, rfl, (by show 2 ≤ sizeLine; decide), fun tp htp => ?_⟩
   have g := same_upd (o := .tup [.ref r, .ref r2]) htp
   refine ⟨hl, _, _, rfl, rfl, g _ _ hh3, by omega, ?_⟩
   have kp : ∀ b o, upd H' tp (.tup [.ref r, .ref r2]) b = some o → b ≠ hl → upd (upd H' tp (.tup [.ref r, .ref r2])) hl (.lst (hs ++ [.ref tp])) b = some o := fun b o hb nb => by rw [upd_ne nb]; exact hb
   have nf : ∀ c, H c = none → c ≠ hl := fun c hc z => by rw [z, hhl] at hc; cases hc
   refine q ⟨tp, r, r2, xs, ys, LL⟩ _ (fun b o hb nb => kp _ _ (g _ _ (e3 _ _ hb)) nb) upd_same ⟨tup_keepL upd_same (g _ _ hh3), kp _ _ (g _ _ hr) (nf _ f1), kp _ _ (g _ _ hr2) (nf _ f2), hl2, fun j u w a b => (hal j u w a b).keep (fun c zs hc => tup_keepL (g _ _ hc) (g _ _ hh3)) (fun c zs hc mc => kp _ _ (g _ _ hc) (nf _ (fL c mc)))⟩ f1 f2 fL
def hqL (x : Hq) : List Addr := x.r :: x.r2 :: x.LL
def Fr (hl : Addr) (H H' : Hp) : Prop := ∀ b o, H b = some o → b ≠ hl → H' b = some o
theorem Fr.of {hl : Addr} {H H' : Hp} (e : Same H H') : Fr hl H H' := fun b o h _ => e b o h
theorem Fr.trans {hl : Addr} {H H1 H2 : Hp} (e : Fr hl H H1) (f : Fr hl H1 H2) : Fr hl H H2 := fun b o h n => f b o (e b o h n) n
theorem Fr.no {hl : Addr} {H H' : Hp} {hs : List V} (e : Fr hl H H') (h : H hl = some (.lst hs)) {b : Addr} {o : HO} (hb : H b = some o) (n : ∀ xs, o ≠ .lst xs) : H' b = some o := e b o hb (ne_of hb h (n _))
theorem HQ.fr {hl : Addr} {H H' : Hp} {hs : List V} {x : Hq} (q : HQ H x) (e : Fr hl H H') (h : H hl = some (.lst hs)) (n : ∀ c ∈ hqL x, c ≠ hl) : HQ H' x :=
 ⟨e.no h q.tp (fun xs w => by cases w), e _ _ q.l1 (n _ List.mem_cons_self), e _ _ q.l2 (n _ (List.mem_cons_of_mem _ List.mem_cons_self)), q.ln, fun j u w a b => (q.al j u w a b).keep (fun c zs hc => e.no h hc (fun xs w => by cases w)) (fun c zs hc mc => e _ _ hc (n _ (List.mem_cons_of_mem _ (List.mem_cons_of_mem _ mc))))⟩
theorem HQ.same {H H' : Hp} {x : Hq} (q : HQ H x) (e : Same H H') : HQ H' x := ⟨e _ _ q.tp, e _ _ q.l1, e _ _ q.l2, q.ln, fun j u w a b => (q.al j u w a b).keep (fun c zs hc => e _ _ hc) (fun c zs hc _ => e _ _ hc)⟩
theorem Bk.fr {C hl : Addr} {H H' : Hp} {p kl rl : Addr} {f : Str} {E T : List En} {n : Nat} {hs : List V} (b : Bk C H p kl rl f E T n) (e : Fr hl H H') (h : H hl = some (.lst hs)) (n1 : kl ≠ hl) (n2 : rl ≠ hl) (n3 : ∀ t ∈ T, t.2.2.2.1 ≠ hl) : Bk C H' p kl rl f E T n := by
 obtain ⟨dx, fs, hp, r⟩ := b.kb.ob
 have tp : ∀ {c : Addr} {xs : List V}, H c = some (.tup xs) → H' c = some (.tup xs) := fun hc => e.no h hc (fun xs w => by cases w)
 exact ⟨⟨dx, fs, e.no h hp (fun xs w => by cases w), r⟩, e _ _ b.kc n1, fun z hz => ⟨tp (b.en z hz).1, tp (b.en z hz).2.1, fun y hy => tp ((b.en z hz).2.2.1 y hy), (b.en z hz).2.2.2⟩, e _ _ b.rc n2, fun z hz => ⟨tp (b.te z hz).1, e _ _ (b.te z hz).2 (n3 z hz)⟩, b.de, b.ne, b.nt, b.ln⟩
theorem ent_ne {H : Hp} {r : Addr} {T : List En} (hr : H r = some (.lst (rfE T))) (hT : TeL H T) (h5 : ∀ t ∈ T, R5 H t.2.2.2.2) {t : En} (ht : t ∈ T) : t.2.2.2.1 ≠ r := fun z => by
 have h1 := (hT t ht).2
 rw [z, hr] at h1
 have h2 : rfE T = rf5 t.2.2.2.2 := HO.lst.inj (Option.some.inj h1)
 obtain ⟨t0, T0, e0⟩ : ∃ t0 T0, T = t0 :: T0 := by
   cases T with
   | nil => cases ht
   | cons a b => exact ⟨a, b, rfl⟩
 cases hL : t.2.2.2.2 with
 | nil => rw [e0, hL] at h2; cases h2
 | cons y L0 =>
   rw [e0, hL] at h2
   have h3 : t0.1 = y.1 := V.ref.inj (List.cons.inj h2).1
   have h4 := (hT t0 (by rw [e0]; exact List.mem_cons_self)).1
   have h6 := h5 t ht y (by rw [hL]; exact List.mem_cons_self)
   unfold tup5 at h6
   rw [h3, h6] at h4
   cases h4
def spLk7 (C : Addr) : Sp := fun vs H Q _ => ∃ (p kl rl : Addr) (f : Str) (E T : List En) (n : Nat) (c : Int) (hl : Addr) (hs : List V), vs = [.ref p, .str f, .ref rl, .int c, .ref hl] ∧ Bk C H p kl rl f E T n ∧ n ≤ 12 ∧ (∀ e ∈ E, e.2.2.2.2.length ≤ 5) ∧ H hl = some (.lst hs) ∧ hs.length ≤ 900 ∧ kl ≠ hl ∧ rl ≠ hl ∧ (∀ t ∈ T, t.2.2.2.1 ≠ hl) ∧
 ∀ (X : List Hq) H', Fr hl H H' → H' hl = some (.lst (hs ++ X.map fun x => V.ref x.tp)) → X.length ≤ 5 → (∀ x ∈ X, HQ H' x) → (∀ x ∈ X, ∀ c ∈ hqL x, H c = none) → Q (.bl true) H'
theorem sc__law_look : FnScope ["_law_book", "_law_firm", "_law_rows", "_law_cell", "_law_held", "_law_upto", "_law_k", "_law_told", "_law_thing", "_law_found", "_law_month", "_law_what"] ["_law_book", "_law_firm", "_law_rows", "_law_cell", "_law_held"] (defScope s__law_look) := ⟨rfl, rfl, rfl, by decide +kernel, rfl, by decide +kernel, by decide +kernel⟩
theorem ok__law_look (D : Def K mg "_law_look" s__law_look .none) {C_Book : Addr} (c__law_asked : Cal P w K mg base CX0 true 6 "_law_asked" ["_law_book", "_law_firm", "_law_rows", "_law_what", "_law_upto", "_law_held"] [] (spAk7 C_Book)) (c_Book_entries : CalM P w K mg base CX0 true 2 C_Book "entries" ["self"] [] (spEnt C_Book)) (c_Book_spots : CalM P w K mg base CX0 true 2 C_Book "spots" ["self", "upto"] [.non] (spSpots0 C_Book)) (c_Book_lines_upto : CalM P w K mg base CX0 true 3 C_Book "lines_upto" ["self", "upto"] [.non] (spUpto0 C_Book)) (c_Book_figures : CalM P w K mg base CX0 true 4 C_Book "figures" ["self", "upto"] [.non] (spFigures0 C_Book)) (z_len : mg "len" = none) (z_max : mg "max" = none) (z_range : mg "range" = none) (cl_Book : Cls K C_Book) : Cal P w K mg base CX0 true 7 "_law_look" ["_law_book", "_law_firm", "_law_rows", "_law_cell", "_law_held"] [] (spLk7 C_Book) := by
 obtain ⟨f, fd, F, hm⟩ := D
 obtain ⟨f__law_asked, fd__law_asked, d__law_asked, G__law_asked, m__law_asked, k__law_asked, b__law_asked, v__law_asked, b__law_asked1⟩ := c__law_asked
 obtain ⟨f_Book_entries, fd_Book_entries, d_Book_entries, G_Book_entries, m_Book_entries, b_Book_entries, v_Book_entries, b_Book_entries1⟩ := c_Book_entries
 obtain ⟨f_Book_spots, fd_Book_spots, d_Book_spots, G_Book_spots, m_Book_spots, b_Book_spots, v_Book_spots, b_Book_spots1⟩ := c_Book_spots
 obtain ⟨f_Book_lines_upto, fd_Book_lines_upto, d_Book_lines_upto, G_Book_lines_upto, m_Book_lines_upto, b_Book_lines_upto, v_Book_lines_upto, b_Book_lines_upto1⟩ := c_Book_lines_upto
 obtain ⟨f_Book_figures, fd_Book_figures, d_Book_figures, G_Book_figures, m_Book_figures, b_Book_figures, v_Book_figures, b_Book_figures1⟩ := c_Book_figures
 refine ⟨f, fd, _, F.ok sc__law_look (fun vs H Q E h => ?_) (fun cdv A outer s H vs Q E hr h => ?_), hm, F.kp, (F.binds fun _ _ _ _ _ _ us hl => match us, hl with | [_, _, _, _, _], _ => rfl), .nil, F.binds fun _ _ _ _ _ _ us hl => match us, hl with | [_, _, _, _, _], _ => rfl⟩
 · obtain ⟨p, kl, rl, f, E, T, n, c, hl, hs, rfl, B, hn12, hE5, hhl, hhn, nk, nr, nt, q⟩ := h
   rfl
 obtain ⟨p, kl, rl, f, E, T, n, c, hl, hs, rfl, B, hn12, hE5, hhl, hhn, nk, nr, nt, q⟩ := h
 have nd := sc__law_look.nd
 refine ⟨_, (pss_cons (ps_set (i := 5) nd rfl (Or.inl rfl) pe_non)
   (pss_cons (ps_if (PW.pt (pw_and (pt_cmpR op_ne (pe_op op_mod (pv 3) pe_int) pe_int (nomark _)) (pw_and1 (pt_cmpR (op_neLen hr) (pv 2) (pe_lst pa_nil) (nomark _))))) (pss_cons (ps_set (i := 10) nd rfl (Or.inl rfl) (pe_op op_fdiv (pe_ix ix_seq (pe_ix ix_seq (pv 2) (pe_op op_mod (pe_op op_fdiv (pv 3) pe_int) (pe_callB call_len_seq rfl z_len bt_len (pa_cons (pv 2) pa_nil))) (fun _ _ => rfl)) pe_int (fun _ _ => rfl)) pe_int))
   (pss_one (ps_set (i := 5) nd rfl (Or.inl rfl) (pe_ix ix_seq (pe_lst (pa_cons pe_int (pa_cons (pv 10) (pa_cons (pe_callB (call_max2 rfl) rfl z_max bt_max (pa_cons pe_int (pa_cons (pe_op op_sub (pv 10) pe_int) pa_nil))) (pa_cons (pe_op op_fdiv (pe_ix ix_seq (pe_ix ix_seq (pv 2) (pe_un un_neg pe_int) (fun _ _ => rfl)) pe_int (fun _ _ => rfl)) pe_int) pa_nil))))) (pe_op op_mod (pe_op op_fdiv (pv 3) pe_int) pe_int) (fun _ _ => rfl))))) pss_nil)
   (pss_cons (ps_for PassesOwn.never rfl (pi_range1 rfl z_range (pa_cons pe_int pa_nil)) (pg_name (i := 6) nd rfl (Or.inl rfl)) (pss_cons (ps_set (i := 11) nd rfl (Or.inl rfl) (pe_op op_mod (pe_op op_add (pe_op op_fdiv (pv 3) pe_int) (pe_op op_mulB (pv 6) (pe_op op_add pe_int (pe_op op_mulB pe_int (pe_op op_mod (pe_op op_fdiv (pv 3) pe_int) pe_int))))) pe_int))
   (pss_one (ps_if (pt_not (pt_val (pe_call G__law_asked (hr.mono (by decide)) rfl m__law_asked k__law_asked b__law_asked Paired.nil pass0 (pa_cons (pv 0) (pa_cons (pv 1) (pa_cons (pv 2) (pa_cons (pv 11) (pa_cons (pv 5) (pa_cons (pv 4) pa_nil))))))))) (pss_one (ps_ret pe_bl)) pss_nil))))
   (pss_cons (ps_set (i := 7) nd rfl (Or.inl rfl) (pe_meth0 (pv 0) cl_Book m_Book_entries G_Book_entries (hr.mono (by decide)) b_Book_entries Paired.nil pass0))
   (pss_cons (ps_for PassesOwn.never rfl (pi_list (pv 7)) (pg_name (i := 8) nd rfl (Or.inl rfl)) (pss_one (ps_expr (pe_bm0 PySem.F.plainAttrs_list PySem.F.slot_list_clear PySem.F.type_list_clear mt_clear (pe_ix ix_seq (pv 8) pe_int (fun _ _ => rfl))))))
   (pss_cons (ps_expr (pe_bm0 PySem.F.plainAttrs_list PySem.F.slot_list_clear PySem.F.type_list_clear mt_clear (pv 7)))
   (pss_cons (ps_for PassesOwn.never rfl (pi_list (pe_lst (pa_cons (pe_meth0 (pv 0) cl_Book m_Book_spots G_Book_spots (hr.mono (by decide)) b_Book_spots1 v_Book_spots pass0) (pa_cons (pe_meth0 (pv 0) cl_Book m_Book_lines_upto G_Book_lines_upto (hr.mono (by decide)) b_Book_lines_upto1 v_Book_lines_upto pass0) (pa_cons (pe_meth0 (pv 0) cl_Book m_Book_figures G_Book_figures (hr.mono (by decide)) b_Book_figures1 v_Book_figures pass0) pa_nil))))) (pg_name (i := 9) nd rfl (Or.inl rfl)) (pss_one (ps_expr (pe_bm0 PySem.F.plainAttrs_list PySem.F.slot_list_clear PySem.F.type_list_clear mt_clear (pv 9)))))
   (pss_cons (ps_if (pt_cmpR op_notN (pv 5) pe_non (nomark _)) (pss_one (ps_for PassesOwn.never rfl (pi_list (pe_lst (pa_cons (pe_meth (pv 0) cl_Book m_Book_spots G_Book_spots (hr.mono (by decide)) b_Book_spots Paired.nil pass0 (pa_cons (pv 5) pa_nil)) (pa_cons (pe_meth (pv 0) cl_Book m_Book_lines_upto G_Book_lines_upto (hr.mono (by decide)) b_Book_lines_upto Paired.nil pass0 (pa_cons (pv 5) pa_nil)) (pa_cons (pe_meth (pv 0) cl_Book m_Book_figures G_Book_figures (hr.mono (by decide)) b_Book_figures Paired.nil pass0 (pa_cons (pv 5) pa_nil)) pa_nil))))) (pg_name (i := 9) nd rfl (Or.inl rfl)) (pss_one (ps_expr (pe_bm0 PySem.F.plainAttrs_list PySem.F.slot_list_clear PySem.F.type_list_clear mt_clear (pv 9)))))) pss_nil)
   (pss_one (ps_ret (pe_call G__law_asked (hr.mono (by decide)) rfl m__law_asked k__law_asked b__law_asked Paired.nil pass0 (pa_cons (pv 0) (pa_cons (pv 1) (pa_cons (pv 2) (pa_cons (pe_op op_add pe_int (pe_op op_mod (pe_op op_fdiv (pv 3) pe_int) pe_int)) (pa_cons (pv 5) (pa_cons (pv 4) pa_nil))))))))))))))))), ?_⟩
 rw [show ∀ x0 x1 x2 x3 x4 : V, L2.start ["_law_book", "_law_firm", "_law_rows", "_law_cell", "_law_held", "_law_upto", "_law_k", "_law_told", "_law_thing", "_law_found", "_law_month", "_law_what"] [x0, x1, x2, x3, x4] = [some x0, some x1, some x2, some x3, some x4, none, none, none, none, none, none, none] from fun _ _ _ _ _ => rfl]
 have hline : 10 ^ 6 ≤ sizeLine := by decide
 have hTE := de_len B.de
 have rT := rfE_len T
 have hEn := B.ln
 obtain ⟨dx, fs, hp, hbk, hke, hno⟩ := B.kb.ob
 have dE : (dl E).length = E.length := List.length_map ..
 have k64 : ∀ m, (kys ((upto (dl E) m).map (·.2.2))).length < 64 := fun m => by
   have h := upto5 (D := dl E) (m := m) (fun d hd => by
     obtain ⟨e, he, rfl⟩ := List.mem_map.mp hd
     exact hE5 e he)
   have w : (kys ((upto (dl E) m).map (·.2.2))).length ≤ (upto (dl E) m).length := by
     unfold kys
     refine Nat.le_trans (N21.len_firsts _) ?_
     rw [List.length_map, List.length_map]
     exact Nat.le_refl _
   omega
 apply join3 (fun (uv : V) (mo : Option V) (H1 : Hp) => (∃ m, uv = mV m) ∧ Same H H1)
 · intro kk
   refine ⟨_, rfl, _, _, rfl, rfl, (by show (0 : Int) < 4; decide), rfl, _, rfl, ?_⟩
   refine ndec2 (fun h => ?a) (fun h => ?b)
   case a =>
     refine ⟨_, rfl, (by show 0 ≤ sizeLine; decide), fun n1 hn1 => ?_⟩
     have g1 := same_upd (o := .lst []) hn1
     refine ⟨rl, n1, _, _, rfl, rfl, SqL.of (g1 _ _ B.rc), SqL.of upd_same, ?_⟩
     by_cases hT0 : T.length = 0
     rotate_left
     · refine .inl ⟨by rw [rT]; exact hT0, true, rfl, iteT ?_⟩
       have B1 := B.same g1
       generalize upd H n1 (.lst []) = H1 at g1 B1 ⊢
       refine ⟨_, rfl, _, rfl, _, _, rfl, rfl, ⟨by decide, by decide⟩, _, rfl, rl, _, rfl, .inl (SqL.of B1.rc), _, _, rfl, rfl, (by show (0 : Int) < ((rfE T).length : Int); omega), ?_⟩
       obtain ⟨t, ht⟩ : ∃ t : Nat, c / 4 % ((rfE T).length : Int) = (t : Int) := Int.eq_ofNat_of_zero_le (Int.emod_nonneg _ (by omega))
       have htl := Int.emod_lt_of_pos (c / 4) (show (0 : Int) < ((rfE T).length : Int) by omega)
       dsimp only
       rw [ht] at htl ⊢
       obtain ⟨z, hz⟩ : ∃ z, T[t]? = some z := ⟨_, List.getElem?_eq_getElem (by omega)⟩
       refine .inl ⟨rl, _, _, _, rfl, rfl, SqL.of B1.rc, atI_nat (at_rfE hz), .inr (.inl ⟨z.1, _, 0, _, rfl, rfl, SqT.of (B1.te z (List.mem_of_getElem? hz)).1, rfl, _, _, rfl, rfl, ⟨by decide, by decide⟩, ?_⟩)⟩
       obtain ⟨T0, zl, hzl⟩ : ∃ T0 zl, T = T0 ++ [zl] := by
         have hne : T ≠ [] := fun w => hT0 (by rw [w]; rfl)
         exact ⟨T.dropLast, T.getLast hne, (List.dropLast_concat_getLast hne).symm⟩
       have hlast : atI (rfE T) (-1) = some (.ref zl.1) := by
         rw [hzl, rfE_app]
         exact atI_last (rfE T0) (.ref zl.1)
       have hzlm : zl ∈ T := by rw [hzl]; simp
       refine ⟨_, rfl, _, rfl, _, _, rfl, rfl, _, _, rfl, _, rfl, _, rfl, .inl ⟨rl, _, _, _, rfl, rfl, SqL.of B1.rc, hlast, .inr (.inl ⟨zl.1, _, 0, _, rfl, rfl, SqT.of (B1.te zl hzlm).1, rfl, _, _, rfl, rfl, ⟨by decide, by decide⟩, (by show 4 ≤ sizeLine; decide), fun l4 hl4 => ?_⟩)⟩⟩
       have g4 := same_upd (o := .lst [.int 0, .int (z.2.1 / 30), .int (if z.2.1 / 30 - 1 > 0 then z.2.1 / 30 - 1 else 0), .int (zl.2.1 / 30)]) hl4
       obtain ⟨w, _, hw⟩ := int_in (ws := [0, z.2.1 / 30, if z.2.1 / 30 - 1 > 0 then z.2.1 / 30 - 1 else 0, zl.2.1 / 30]) (i := c / 2 % 4) (by omega) (by show c / 2 % 4 < 4; omega)
       refine ⟨_, rfl, _, _, rfl, rfl, ⟨by decide, by decide⟩, _, _, rfl, rfl, (by show (0 : Int) < 4; decide), .inl ⟨l4, _, _, _, rfl, rfl, SqL.of upd_same, hw, ?_⟩⟩
       have e4 := g1.trans g4
       generalize upd H1 l4 _ = H4 at e4 ⊢
       obtain ⟨uv, euv⟩ : ∃ x, x = V.int w := ⟨_, rfl⟩
       obtain ⟨mo, emo⟩ : ∃ x : Option V, x = some ((fun i j : Int => V.int (i / j)) z.2.1 30) := ⟨_, rfl⟩
       rw [← euv, ← emo]
       exact kk uv mo H4 ⟨⟨some w, euv⟩, e4⟩
     · have z := List.length_eq_zero_iff.mp hT0
       refine .inr ⟨⟨by rw [z]; rfl, fun j x y w => by rw [z] at w; unfold rfE at w; simp at w⟩, false, rfl, iteF ?_⟩
       exact kk .non none _ ⟨⟨none, rfl⟩, g1⟩
   case b => exact kk .non none H ⟨⟨none, rfl⟩, Same.refl _⟩
 rintro uv mo H1 ⟨⟨m, rfl⟩, e1⟩
 have B1 := B.same e1
 have hh1 := e1 _ _ hhl
 refine ⟨_, rfl, by decide, by decide, ?_⟩
 refine for_range (fun i σ H' => ∃ (X : List Hq) (o6 o7 o8 o9 o10 o11 : Option V), σ = [some (.ref p), some (.str f), some (.ref rl), some (.int c), some (.ref hl), some (mV m), o6, o7, o8, o9, o10, o11] ∧ Fr hl H H' ∧ Bk C_Book H' p kl rl f E T n ∧ H' hl = some (.lst (hs ++ X.map fun x => V.ref x.tp)) ∧ X.length = i ∧ (∀ x ∈ X, HQ H' x) ∧ ∀ x ∈ X, ∀ c ∈ hqL x, H c = none) ⟨[], _, _, _, _, _, _, rfl, Fr.of e1, B1, by rw [List.map_nil, List.append_nil]; exact hh1, rfl, (fun x hx => nomatch hx), fun x hx => nomatch hx⟩ ?_ ?_
 · rintro i σ H2 hi ⟨X, o6, o7, o8, o9, o10, o11, rfl, fr, B2, hh2, hX, hq, hf⟩
   have hi4 : i < 4 := by omega
   refine ⟨_, rfl, _, _, rfl, rfl, ⟨by decide, by decide⟩, _, rfl, _, rfl, _, _, rfl, rfl, ⟨by decide, by decide⟩, _, _, rfl, rfl, (by show (0 : Int) < 2; decide), _, _, rfl, rfl, mul_of (by omega) (by omega) (by omega) (by omega), _, _, rfl, rfl, _, _, rfl, rfl, mul_of (by omega) (by omega) (by omega) (by omega), _, _, rfl, rfl, _, _, rfl, rfl, (by show (0 : Int) < 4; decide), ?_⟩
   refine ⟨_, rfl, _, rfl, _, rfl, _, rfl, _, rfl, _, rfl, p, kl, rl, f, E, T, n, _, m, hl, _, rfl, B2, hn12, hE5, hh2, (by rw [List.length_append, List.length_map]; omega), fun x H3 fr3 hh3 q3 f1 f2 fL => ⟨true, rfl, iteF ?_⟩⟩
   have nn : ∀ x ∈ X, ∀ c ∈ hqL x, c ≠ hl := fun x hx c hc z => by
     have w := hf x hx c hc
     rw [z, hhl] at w
     cases w
   have fre : ∀ c, H2 c = none → H c = none := fun c hc => by
     cases w : H c with
     | none => rfl
     | some o =>
       by_cases z : c = hl
       · rw [z, hh2] at hc
         cases hc
       · rw [fr _ _ w z] at hc
         cases hc
   refine ⟨X ++ [x], _, _, _, _, _, _, rfl, fr.trans fr3, B2.fr fr3 hh2 nk nr nt, by rw [hh3, List.map_append, List.append_assoc]; rfl, by rw [List.length_append, hX]; rfl, fun y hy => ?_, fun y hy c hc => ?_⟩
   · rcases List.mem_append.mp hy with w | w
     · exact (hq y w).fr fr3 hh2 (nn y w)
     · rw [List.mem_singleton.mp w]
       exact q3
   · rcases List.mem_append.mp hy with w | w
     · exact hf y w c hc
     · rw [List.mem_singleton.mp w] at hc
       rcases List.mem_cons.mp hc with z | hc
       · rw [z]; exact fre _ f1
       rcases List.mem_cons.mp hc with z | hc
       · rw [z]; exact fre _ f2
       exact fre _ (fL c hc)
 rintro σ H2 ⟨X, o6, o7, o8, o9, o10, o11, rfl, fr, B2, hh2, hX, hq, hf⟩
 have hX4 : X.length ≤ 4 := by omega
 have hp2 := fr.no hhl hp (fun xs w => by cases w)
 refine ⟨_, rfl, p, dx, fs, rfl, hp2, hno "entries" (by decide +kernel), p, kl, f, E, rfl, B2.kb, B2.kc, B2.en, by omega, fun r T2 H3 e3 hr0 hr hT2 hT2f hde => ?_⟩
 have h5 : ∀ t ∈ T2, R5 H3 t.2.2.2.2 := fun t ht => by
   have hm : (t.2.1, t.2.2.1, t.2.2.2.2) ∈ de E := by
     rw [← hde]
     exact List.mem_map.mpr ⟨t, ht, rfl⟩
   obtain ⟨e, he, w⟩ := List.mem_map.mp hm
   have w2 : e.2.2.2.2 = t.2.2.2.2 := congrArg (·.2.2) w
   rw [← w2]
   exact ((B2.en e he).2.2.1).same e3
 have ner : ∀ t ∈ T2, t.2.2.2.1 ≠ r := fun t ht => ent_ne hr hT2 h5 ht
 refine ⟨_, rfl, r, rfl, ⟨_, SqL.of hr⟩, ?_⟩
 refine for_list (xs := rfE T2) (fun i σ H' => ∃ (o8 : Option V), σ = [some (.ref p), some (.str f), some (.ref rl), some (.int c), some (.ref hl), some (mV m), o6, some (.ref r), o8, o9, o10, o11] ∧ Same H2 H' ∧ (∀ b o, H3 b = some o → (∀ t ∈ T2, b ≠ t.2.2.2.1) → H' b = some o) ∧ ∀ t ∈ T2, ∃ zs, H' t.2.2.2.1 = some (.lst zs)) ⟨_, rfl, e3, (fun b o hb _ => hb), fun t ht => ⟨_, (hT2 t ht).2⟩⟩ ?_ ?_ ?_
 · rintro i σ H' hi ⟨o8, rfl, _, kp, _⟩
   exact SqL.of (kp _ _ hr fun t ht => (ner t ht).symm)
 · rintro i x σ H' hx ⟨o8, rfl, es, kp, hz⟩
   obtain ⟨z, hzz, rfl⟩ := rfE_at hx
   have hzm := List.mem_of_getElem? hzz
   obtain ⟨zs, hzs⟩ := hz z hzm
   have z1 := kp _ _ (hT2 z hzm).1 (fun t ht => ne_of (hT2 z hzm).1 (hT2 t ht).2 (by intro w; cases w))
   refine ⟨_, rfl, .inr (.inl ⟨z.1, _, 2, _, rfl, rfl, SqT.of z1, rfl, .inl ⟨rfl, _, SqL.of hzs⟩, z.2.2.2.1, _, rfl, rfl, hzs, ?_⟩)⟩
   refine ⟨_, rfl, same_set es (hT2f z hzm), fun b o hb nb => by rw [upd_ne (nb z hzm)]; exact kp b o hb nb, fun t ht => ?_⟩
   by_cases w : t.2.2.2.1 = z.2.2.2.1
   · rw [w, upd_same]
     exact ⟨_, rfl⟩
   · rw [upd_ne w]
     exact hz t ht
 rintro σ H4 ⟨o8, rfl, e4, kp, _⟩
 have hr4 := kp _ _ hr fun t ht => (ner t ht).symm
 refine ⟨_, rfl, .inl ⟨rfl, _, SqL.of hr4⟩, r, _, rfl, rfl, hr4, ?_⟩
 have e5 : Same H2 (upd H4 r (.lst [])) := same_set e4 hr0
 generalize upd H4 r (.lst []) = H5 at e5 ⊢
 have hpq := e5 _ _ hp2
 have BQ := B2.same e5
 refine ⟨_, rfl, p, dx, fs, rfl, hpq, hno "spots" (by decide +kernel), p, kl, f, none, E, rfl, BQ.kb, BQ.kc, BQ.en, by omega, fun a1 T3 H6 e6 ha0 ha hT3 hT3v => ?_⟩
 have BR := BQ.same e6
 refine ⟨_, rfl, p, dx, fs, rfl, (e6 _ _ hpq), hno "lines_upto" (by decide +kernel), p, kl, f, none, E, rfl, BR.kb, BR.kc, BR.en, by omega, fun a2 H7 e7 hb0 hb => ?_⟩
 have BS := BR.same e7
 have hk64 : (kys ((upto (dl E) none).map (·.2.2))).length < 64 := k64 _
 refine ⟨_, rfl, p, dx, fs, rfl, (e7 _ _ (e6 _ _ hpq)), hno "figures" (by decide +kernel), p, kl, f, none, E, rfl, BS.kb, BS.kc, BS.en, by omega, hk64, fun a3 F3 H8 e8 hc0 hc hF hFg => ⟨(by show 3 ≤ sizeLine; decide), fun l9 hl9 => ⟨l9, rfl, ⟨_, SqL.of upd_same⟩, ?_⟩⟩⟩
 have g9 := same_upd (o := .lst [.ref a1, .ref a2, .ref a3]) hl9
 have e59 := ((e6.trans e7).trans e8).trans g9
 have na1 : H5 a1 = none := ha0
 have na2 : H5 a2 = none := e6.free hb0
 have na3 : H5 a3 = none := e6.free (e7.free hc0)
 have hA1 := g9 _ _ (e8 _ _ (e7 _ _ ha))
 have hA2 := g9 _ _ (e8 _ _ hb)
 have hA3 := g9 _ _ hc
 have hl99 : upd H8 l9 (.lst [.ref a1, .ref a2, .ref a3]) l9 = some (.lst [.ref a1, .ref a2, .ref a3]) := upd_same
 have nl9 : ∀ a ∈ [a1, a2, a3], a ≠ l9 := fun a ha' z => by
   simp only [List.mem_cons, List.not_mem_nil, or_false] at ha'
   rcases ha' with w | w | w
   · rw [← z, w, e8 _ _ (e7 _ _ ha)] at hl9; cases hl9
   · rw [← z, w, e8 _ _ hb] at hl9; cases hl9
   · rw [← z, w, hc] at hl9; cases hl9
 generalize upd H8 l9 (.lst [.ref a1, .ref a2, .ref a3]) = H9 at e59 hA1 hA2 hA3 hl99 ⊢
 have al9 : ∀ a ∈ [a1, a2, a3], (∃ zs, H9 a = some (.lst zs)) ∧ H5 a = none := fun a ha' => by
   simp only [List.mem_cons, List.not_mem_nil, or_false] at ha'
   rcases ha' with rfl | rfl | rfl
   · exact ⟨⟨_, hA1⟩, na1⟩
   · exact ⟨⟨_, hA2⟩, na2⟩
   · exact ⟨⟨_, hA3⟩, na3⟩
 generalize hal3 : [a1, a2, a3] = al3 at nl9 al9
 have hxs : [V.ref a1, V.ref a2, V.ref a3] = al3.map V.ref := by rw [← hal3]; rfl
 rw [hxs] at hl99
 clear hA1 hA2 hA3 hal3
 refine for_list (xs := al3.map V.ref) (fun i σ H' => ∃ (o9 : Option V), σ = [some (.ref p), some (.str f), some (.ref rl), some (.int c), some (.ref hl), some (mV m), o6, some (.ref r), o8, o9, o10, o11] ∧ Same H5 H' ∧ H' l9 = some (.lst (al3.map V.ref)) ∧ ∀ a ∈ al3, ∃ zs, H' a = some (.lst zs)) ⟨_, rfl, e59, hl99, fun a ha' => (al9 a ha').1⟩ ?_ ?_ ?_
 · rintro i σ H' hi ⟨o9, rfl, _, h, _⟩
   exact SqL.of h
 · rintro i x σ H' hx ⟨o9, rfl, es, h, hz⟩
   rw [List.getElem?_map] at hx
   obtain ⟨a, haa, rfl⟩ : ∃ a, al3[i]? = some a ∧ x = .ref a := by
     cases w : al3[i]? with
     | none => rw [w] at hx; cases hx
     | some a => rw [w] at hx; exact ⟨a, rfl, (Option.some.inj hx).symm⟩
   have ham := List.mem_of_getElem? haa
   obtain ⟨zs, hzs⟩ := hz a ham
   refine ⟨_, rfl, .inl ⟨rfl, _, SqL.of hzs⟩, a, _, rfl, rfl, hzs, ?_⟩
   refine ⟨_, rfl, same_set es (al9 a ham).2, by rw [upd_ne (Ne.symm (nl9 a ham))]; exact h, fun b hb => ?_⟩
   by_cases z : b = a
   · rw [z, upd_same]
     exact ⟨_, rfl⟩
   · rw [upd_ne z]
     exact hz b hb
 rintro σ H6 ⟨o9', rfl, e6, _⟩
 have e26 := e5.trans e6
 apply join1 (fun (H7 : Hp) => Same H6 H7)
 · intro kk
   refine ⟨_, rfl, rfl, _, rfl, ?_⟩
   obtain ⟨H5, eH⟩ : ∃ x, x = H6 := ⟨_, rfl⟩
   rw [← eH] at e26 ⊢
   refine ndec2 (fun h => ?a) (fun h => ?b)
   case b => exact kk H5 (by rw [eH]; exact Same.refl _)
   case a =>
     have hpq := e26 _ _ hp2
     have BQ := B2.same e26
     refine ⟨_, rfl, p, dx, fs, rfl, hpq, hno "spots" (by decide +kernel), _, rfl, p, kl, f, m, E, rfl, BQ.kb, BQ.kc, BQ.en, by omega, fun a1 T3 H6 e6 ha0 ha hT3 hT3v => ?_⟩
     have BR := BQ.same e6
     refine ⟨_, rfl, p, dx, fs, rfl, (e6 _ _ hpq), hno "lines_upto" (by decide +kernel), _, rfl, p, kl, f, m, E, rfl, BR.kb, BR.kc, BR.en, by omega, fun a2 H7 e7 hb0 hb => ?_⟩
     have BS := BR.same e7
     have hk64 : (kys ((upto (dl E) m).map (·.2.2))).length < 64 := k64 _
     refine ⟨_, rfl, p, dx, fs, rfl, (e7 _ _ (e6 _ _ hpq)), hno "figures" (by decide +kernel), _, rfl, p, kl, f, m, E, rfl, BS.kb, BS.kc, BS.en, by omega, hk64, fun a3 F3 H8 e8 hc0 hc hF hFg => ⟨(by show 3 ≤ sizeLine; decide), fun l9 hl9 => ⟨l9, rfl, ⟨_, SqL.of upd_same⟩, ?_⟩⟩⟩
     have g9 := same_upd (o := .lst [.ref a1, .ref a2, .ref a3]) hl9
     have e59 := ((e6.trans e7).trans e8).trans g9
     have na1 : H5 a1 = none := ha0
     have na2 : H5 a2 = none := e6.free hb0
     have na3 : H5 a3 = none := e6.free (e7.free hc0)
     have hA1 := g9 _ _ (e8 _ _ (e7 _ _ ha))
     have hA2 := g9 _ _ (e8 _ _ hb)
     have hA3 := g9 _ _ hc
     have hl99 : upd H8 l9 (.lst [.ref a1, .ref a2, .ref a3]) l9 = some (.lst [.ref a1, .ref a2, .ref a3]) := upd_same
     have nl9 : ∀ a ∈ [a1, a2, a3], a ≠ l9 := fun a ha' z => by
       simp only [List.mem_cons, List.not_mem_nil, or_false] at ha'
       rcases ha' with w | w | w
       · rw [← z, w, e8 _ _ (e7 _ _ ha)] at hl9; cases hl9
       · rw [← z, w, e8 _ _ hb] at hl9; cases hl9
       · rw [← z, w, hc] at hl9; cases hl9
     generalize upd H8 l9 (.lst [.ref a1, .ref a2, .ref a3]) = H9 at e59 hA1 hA2 hA3 hl99 ⊢
     have al9 : ∀ a ∈ [a1, a2, a3], (∃ zs, H9 a = some (.lst zs)) ∧ H5 a = none := fun a ha' => by
       simp only [List.mem_cons, List.not_mem_nil, or_false] at ha'
       rcases ha' with rfl | rfl | rfl
       · exact ⟨⟨_, hA1⟩, na1⟩
       · exact ⟨⟨_, hA2⟩, na2⟩
       · exact ⟨⟨_, hA3⟩, na3⟩
     generalize hal3 : [a1, a2, a3] = al3 at nl9 al9
     have hxs : [V.ref a1, V.ref a2, V.ref a3] = al3.map V.ref := by rw [← hal3]; rfl
     rw [hxs] at hl99
     clear hA1 hA2 hA3 hal3
     refine for_list (xs := al3.map V.ref) (fun i σ H' => ∃ (o9 : Option V), σ = [some (.ref p), some (.str f), some (.ref rl), some (.int c), some (.ref hl), some (mV m), o6, some (.ref r), o8, o9, o10, o11] ∧ Same H5 H' ∧ H' l9 = some (.lst (al3.map V.ref)) ∧ ∀ a ∈ al3, ∃ zs, H' a = some (.lst zs)) ⟨_, rfl, e59, hl99, fun a ha' => (al9 a ha').1⟩ ?_ ?_ ?_
     · rintro i σ H' hi ⟨o9, rfl, _, h, _⟩
       exact SqL.of h
     · rintro i x σ H' hx ⟨o9, rfl, es, h, hz⟩
       rw [List.getElem?_map] at hx
       obtain ⟨a, haa, rfl⟩ : ∃ a, al3[i]? = some a ∧ x = .ref a := by
         cases w : al3[i]? with
         | none => rw [w] at hx; cases hx
         | some a => rw [w] at hx; exact ⟨a, rfl, (Option.some.inj hx).symm⟩
       have ham := List.mem_of_getElem? haa
       obtain ⟨zs, hzs⟩ := hz a ham
       refine ⟨_, rfl, .inl ⟨rfl, _, SqL.of hzs⟩, a, _, rfl, rfl, hzs, ?_⟩
       refine ⟨_, rfl, same_set es (al9 a ham).2, by rw [upd_ne (Ne.symm (nl9 a ham))]; exact h, fun b hb => ?_⟩
       by_cases z : b = a
       · rw [z, upd_same]
         exact ⟨_, rfl⟩
       · rw [upd_ne z]
         exact hz b hb
     rintro σ H7 ⟨o9'', rfl, e7', _⟩
     exact kk H7 (by rw [← eH]; exact e7')
 rintro H7 e7
 have e27 := e26.trans e7
 have B7 := B2.same e27
 refine ⟨_, rfl, _, rfl, _, rfl, _, rfl, _, _, rfl, rfl, ⟨by decide, by decide⟩, _, _, rfl, rfl, (by show (0 : Int) < 3; decide), _, _, rfl, rfl, _, rfl, _, rfl, p, kl, rl, f, E, T, n, _, m, hl, _, rfl, B7, hn12, hE5, e27 _ _ hh2, (by rw [List.length_append, List.length_map]; omega), fun x H8 fr8 hh8 q8 f1 f2 fL => ?_⟩
 have fre : ∀ c, H7 c = none → H c = none := fun c hc => by
   cases w : H c with
   | none => rfl
   | some o =>
     by_cases z : c = hl
     · rw [z, e27 _ _ hh2] at hc
       cases hc
     · rw [e27 _ _ (fr _ _ w z)] at hc
       cases hc
 have nn : ∀ x ∈ X, ∀ c ∈ hqL x, c ≠ hl := fun x hx c hc z => by
   have w := hf x hx c hc
   rw [z, hhl] at w
   cases w
 refine q (X ++ [x]) H8 ((fr.trans (Fr.of e27)).trans fr8) (by rw [hh8, List.map_append, List.append_assoc]; rfl) (by rw [List.length_append]; show X.length + 1 ≤ 5; omega) (fun y hy => ?_) fun y hy c hc => ?_
 · rcases List.mem_append.mp hy with w | w
   · exact ((hq y w).same e27).fr fr8 (e27 _ _ hh2) (nn y w)
   · rw [List.mem_singleton.mp w]
     exact q8
 · rcases List.mem_append.mp hy with w | w
   · exact hf y w c hc
   · rw [List.mem_singleton.mp w] at hc
     rcases List.mem_cons.mp hc with z | hc
     · rw [z]; exact fre _ f1
     rcases List.mem_cons.mp hc with z | hc
     · rw [z]; exact fre _ f2
     exact fre _ (fL c hc)
def Mu (KL RL : Nat → Addr) (hl b : Addr) : Prop := b = KL 0 ∨ b = KL 1 ∨ b = RL 0 ∨ b = RL 1 ∨ b = hl
theorem Bk.kb2 {C : Addr} {H H' : Hp} {p kl rl x y : Addr} {f : Str} {E T : List En} {n : Nat} {xs ys : List V} (b : Bk C H p kl rl f E T n) (e : Kb x y H H') (hx : H x = some (.lst xs)) (hy : H y = some (.lst ys)) (n1 : kl ≠ x ∧ kl ≠ y) (n2 : rl ≠ x ∧ rl ≠ y) (n3 : ∀ t ∈ T, t.2.2.2.1 ≠ x ∧ t.2.2.2.1 ≠ y) : Bk C H' p kl rl f E T n := by
 obtain ⟨dx, fs, hp, r⟩ := b.kb.ob
 have no : ∀ {c : Addr} {o : HO}, H c = some o → (∀ xs, o ≠ .lst xs) → H' c = some o := fun hc w => e _ _ hc (ne_of hc hx (w _)) (ne_of hc hy (w _))
 have tp : ∀ {c : Addr} {xs : List V}, H c = some (.tup xs) → H' c = some (.tup xs) := fun hc => no hc (fun xs w => by cases w)
 exact ⟨⟨dx, fs, no hp (fun xs w => by cases w), r⟩, e _ _ b.kc n1.1 n1.2, fun z hz => ⟨tp (b.en z hz).1, tp (b.en z hz).2.1, fun y hy => tp ((b.en z hz).2.2.1 y hy), (b.en z hz).2.2.2⟩, e _ _ b.rc n2.1 n2.2, fun z hz => ⟨tp (b.te z hz).1, e _ _ (b.te z hz).2 (n3 z hz).1 (n3 z hz).2⟩, b.de, b.ne, b.nt, b.ln⟩
theorem HQ.kb2 {H H' : Hp} {x y : Addr} {xs ys : List V} {q : Hq} (h : HQ H q) (e : Kb x y H H') (hx : H x = some (.lst xs)) (hy : H y = some (.lst ys)) (n : ∀ c ∈ hqL q, c ≠ x ∧ c ≠ y) : HQ H' q := by
 have tp : ∀ {c : Addr} {zs : List V}, H c = some (.tup zs) → H' c = some (.tup zs) := fun hc => e _ _ hc (ne_of hc hx (by intro w; cases w)) (ne_of hc hy (by intro w; cases w))
 have m1 := n q.r List.mem_cons_self
 have m2 := n q.r2 (List.mem_cons_of_mem _ List.mem_cons_self)
 exact ⟨tp h.tp, e _ _ h.l1 m1.1 m1.2, e _ _ h.l2 m2.1 m2.2, h.ln, fun j u w a b => (h.al j u w a b).keep (fun c zs hc => tp hc) (fun c zs hc mc => e _ _ hc (n _ (List.mem_cons_of_mem _ (List.mem_cons_of_mem _ mc))).1 (n _ (List.mem_cons_of_mem _ (List.mem_cons_of_mem _ mc))).2)⟩
structure W7 (C : Addr) (H0 H : Hp) (P KL RL : Nat → Addr) (FN : Nat → Str) (EE TT : Nat → List En) (hl : Addr) (HS : List Hq) (n h : Nat) : Prop where
 lv : ∀ b o, H0 b = some o → ∃ o', H b = some o'
 st : ∀ b o, H0 b = some o → ¬ Mu KL RL hl b → H b = some o
 bk : ∀ i, i < 2 → Bk C H (P i) (KL i) (RL i) (FN i) (EE i) (TT i) n
 e5 : ∀ i, i < 2 → ∀ e ∈ EE i, e.2.2.2.2.length ≤ 5
 tf : ∀ i, i < 2 → ∀ t ∈ TT i, H0 t.2.2.2.1 = none
 hc : H hl = some (.lst (HS.map fun x => V.ref x.tp))
 hq : ∀ x ∈ HS, HQ H x
 hf : ∀ x ∈ HS, ∀ c ∈ hqL x, H0 c = none
 hn : HS.length ≤ h
structure Di (H0 : Hp) (KL RL : Nat → Addr) (hl : Addr) : Prop where
 ex : ∀ b, Mu KL RL hl b → ∃ xs, H0 b = some (.lst xs)
 kk : ∀ i j, i < 2 → j < 2 → i ≠ j → KL i ≠ KL j ∧ RL i ≠ RL j
 kr : ∀ i j, i < 2 → j < 2 → KL i ≠ RL j
 kh : ∀ i, i < 2 → KL i ≠ hl ∧ RL i ≠ hl
theorem Mu.k {KL RL : Nat → Addr} {hl : Addr} {i : Nat} (h : i < 2) : Mu KL RL hl (KL i) := by
 rcases Nat.lt_or_ge i 1 with w | w
 · obtain rfl : i = 0 := by omega
   exact .inl rfl
 · obtain rfl : i = 1 := by omega
   exact .inr (.inl rfl)
theorem Mu.r {KL RL : Nat → Addr} {hl : Addr} {i : Nat} (h : i < 2) : Mu KL RL hl (RL i) := by
 rcases Nat.lt_or_ge i 1 with w | w
 · obtain rfl : i = 0 := by omega
   exact .inr (.inr (.inl rfl))
 · obtain rfl : i = 1 := by omega
   exact .inr (.inr (.inr (.inl rfl)))
theorem Mu.h {KL RL : Nat → Addr} {hl : Addr} : Mu KL RL hl hl := .inr (.inr (.inr (.inr rfl)))
theorem Di.far {H0 : Hp} {KL RL : Nat → Addr} {hl b c : Addr} (D : Di H0 KL RL hl) (h : H0 c = none) (m : Mu KL RL hl b) : c ≠ b := fun z => by
 obtain ⟨xs, w⟩ := D.ex b m
 rw [z, w] at h
 cases h
section
variable {C : Addr} {H0 H H' : Hp} {P KL RL : Nat → Addr} {FN : Nat → Str} {EE TT : Nat → List En} {hl : Addr} {HS : List Hq} {n h : Nat}
theorem W7.same (W : W7 C H0 H P KL RL FN EE TT hl HS n h) (e : Same H H') : W7 C H0 H' P KL RL FN EE TT hl HS n h := ⟨fun b o hb => (W.lv b o hb).imp fun o' w => e _ _ w, fun b o hb nb => e _ _ (W.st b o hb nb), fun i hi => (W.bk i hi).same e, W.e5, W.tf, e _ _ W.hc, fun x hx => (W.hq x hx).same e, W.hf, W.hn⟩
theorem W7.fre (W : W7 C H0 H P KL RL FN EE TT hl HS n h) {c : Addr} (hc : H c = none) : H0 c = none := by
 cases w : H0 c with
 | none => rfl
 | some o =>
   obtain ⟨o', g⟩ := W.lv c o w
   rw [hc] at g
   cases g
theorem W7.ent (W : W7 C H0 H P KL RL FN EE TT hl HS n h) (D : Di H0 KL RL hl) {a : Nat} (ha : a < 2) {E' T' : List En} (k : Kb (KL a) (RL a) H H') (b : Bk C H' (P a) (KL a) (RL a) (FN a) E' T' (n + 1)) (f : ∀ e ∈ T', e ∈ TT a ∨ H e.2.2.2.1 = none) (g : ∀ e ∈ E', e ∈ EE a ∨ e.2.2.2.2.length ≤ 5) : W7 C H0 H' P KL RL FN (fun i => if i = a then E' else EE i) (fun i => if i = a then T' else TT i) hl HS (n + 1) h := by
 have kc := (W.bk a ha).kc
 have rc := (W.bk a ha).rc
 refine ⟨fun c o hc => ?_, fun c o hc nc => k _ _ (W.st c o hc nc) (fun z => nc (by rw [z]; exact Mu.k ha)) (fun z => nc (by rw [z]; exact Mu.r ha)), fun i hi => ?_, fun i hi => ?_, fun i hi => ?_, k _ _ W.hc (D.kh a ha).1.symm (D.kh a ha).2.symm, fun x hx => (W.hq x hx).kb2 k kc rc (fun c hc => ⟨D.far (W.hf x hx c hc) (Mu.k ha), D.far (W.hf x hx c hc) (Mu.r ha)⟩), W.hf, W.hn⟩
 · obtain ⟨o', w⟩ := W.lv c o hc
   by_cases z1 : c = KL a
   · rw [z1]
     exact ⟨_, b.kc⟩
   · by_cases z2 : c = RL a
     · rw [z2]
       exact ⟨_, b.rc⟩
     · exact ⟨_, k _ _ w z1 z2⟩
 · by_cases z : i = a
   · subst z
     simp only [if_true]
     exact b
   · simp only [z, if_false]
     have bi := W.bk i hi
     have w := bi.kb2 k kc rc ⟨(D.kk i a hi ha z).1, D.kr i a hi ha⟩ ⟨(D.kr a i ha hi).symm, (D.kk i a hi ha z).2⟩ (fun t ht => ⟨D.far (W.tf i hi t ht) (Mu.k ha), D.far (W.tf i hi t ht) (Mu.r ha)⟩)
     exact ⟨w.kb, w.kc, w.en, w.rc, w.te, w.de, w.ne, w.nt, Nat.le_succ_of_le w.ln⟩
 · by_cases z : i = a
   · subst z
     simp only [if_true]
     exact fun e he => (g e he).elim (W.e5 i hi e) id
   · simp only [z, if_false]
     exact W.e5 i hi
 · by_cases z : i = a
   · subst z
     simp only [if_true]
     exact fun e he => (f e he).elim (W.tf i hi e) fun w => W.fre w
   · simp only [z, if_false]
     exact W.tf i hi
theorem W7.look (W : W7 C H0 H P KL RL FN EE TT hl HS n h) (D : Di H0 KL RL hl) {X : List Hq} (fr : Fr hl H H') (hh : H' hl = some (.lst ((HS.map fun x => V.ref x.tp) ++ X.map fun x => V.ref x.tp))) (hX : X.length ≤ 5) (hq : ∀ x ∈ X, HQ H' x) (hf : ∀ x ∈ X, ∀ c ∈ hqL x, H c = none) : W7 C H0 H' P KL RL FN EE TT hl (HS ++ X) n (h + 5) := by
 refine ⟨fun c o hc => ?_, fun c o hc nc => fr _ _ (W.st c o hc nc) (fun z => nc (by rw [z]; exact Mu.h)), fun i hi => (W.bk i hi).fr fr W.hc (D.kh i hi).1 (D.kh i hi).2 (fun t ht => D.far (W.tf i hi t ht) Mu.h), W.e5, W.tf, by rw [hh, List.map_append], fun x hx => ?_, fun x hx c hc => ?_, by rw [List.length_append]; have := W.hn; omega⟩
 · obtain ⟨o', w⟩ := W.lv c o hc
   by_cases z : c = hl
   · rw [z]
     exact ⟨_, hh⟩
   · exact ⟨_, fr _ _ w z⟩
 · rcases List.mem_append.mp hx with w | w
   · exact (W.hq x w).fr fr W.hc (fun c hc => D.far (W.hf x w c hc) Mu.h)
   · exact hq x w
 · rcases List.mem_append.mp hx with w | w
   · exact W.hf x w c hc
   · exact W.fre (hf x w c hc)
end
theorem fr_of {H : Hp} {l p dx : Addr} {o o' : HO} (h : upd (upd H dx o') p o l = none) (hp : H p = none) (hdx : H dx = none) : H l = none := by
 cases g : H l with
 | none => rfl
 | some u =>
   rw [upd_ne (ne_of_none g hp), upd_ne (ne_of_none g hdx), g] at h
   cases h
theorem at2 (P : Nat → Addr) {t : Nat} (h : t < 2) : atI [V.ref (P 0), V.ref (P 1)] ((t : Nat) : Int) = some (.ref (P t)) := by
 rcases Nat.lt_or_ge t 1 with w | w
 · obtain rfl : t = 0 := by omega
   rfl
 · obtain rfl : t = 1 := by omega
   rfl
theorem cut5 {us : List Int} {i : Nat} (h : 5 * i + 5 ≤ us.length) : ∃ vs : List Int, cutV (us.map V.int) (some (5 * (0 + (i : Int)))) (some (5 * (0 + (i : Int)) + 5)) = vs.map V.int ∧ vs.length = 5 ∧ ∀ w ∈ vs, w ∈ us := by
 have e1 : (5 * (0 + (i : Int))) = ((5 * i : Nat) : Int) := by omega
 have e2 : (5 * (0 + (i : Int)) + 5) = ((5 * i + 5 : Nat) : Int) := by omega
 refine ⟨(us.drop (5 * i)).take 5, ?_, ?_, fun w hw => List.mem_of_mem_drop (List.mem_of_mem_take hw)⟩
 · unfold cutV
   rw [List.length_map, e2, e1, HT.sIx_nat, HT.sIx_nat, Nat.min_eq_left (by omega), Nat.min_eq_left (by omega), List.map_take, List.map_drop, show 5 * i + 5 - 5 * i = 5 by omega]
 · rw [List.length_take, List.length_drop]
   omega
def two2 (x y : Addr) : Nat → Addr := fun i => if i = 0 then x else y
theorem sc_law : FnScope ["_law_script", "_law_firms", "_law_accounts", "_law_coins_here", "_law_books", "_law_kept_here", "_law_held", "_law_cells", "_law_k", "_law_at", "_law_part", "_law_near", "_law_day", "_law_lines_here", "_law_spoilt_here", "_law_about", "_law_look_here", "_law_one", "_law_found", "_law_due_here"] ["_law_script"] (defScope s_law) := ⟨rfl, rfl, rfl, by decide +kernel, rfl, by decide +kernel, by decide +kernel⟩
theorem ok_law {f : Addr} {fd : FuncData} (F : FunD K "law" "law" s_law f fd .none) {C_Book : Addr} (c__law_names : Cal P w K mg base CX0 true 2 "_law_names" ["_law_cell", "_law_many"] [] spNames) (c__law_cell_at : Cal P w K mg base CX0 true 1 "_law_cell_at" ["_law_script", "_law_k"] [] (spCell K)) (c_Book___init__ : CalI P w K mg base CX0 true 1 C_Book ["self", "firm"] [] (spBkI C_Book)) (c__law_mix : Cal P w K mg base CX0 true 1 "_law_mix" ["_law_cell", "_law_by"] [] spMix) (c__law_lines : Cal P w K mg base CX0 true 2 "_law_lines" ["_law_cells", "_law_firm", "_law_accounts", "_law_coins_here"] [] spLn7) (c__law_spoilt : Cal P w K mg base CX0 true 2 "_law_spoilt" ["_law_lines_here", "_law_cell", "_law_strange"] [] spSp7) (c__law_entered : Cal P w K mg base CX0 true 6 "_law_entered" ["_law_book", "_law_firm", "_law_rows", "_law_day", "_law_about", "_law_lines_here", "_law_spoilt_here"] [] (spEn7 C_Book)) (c__law_look : Cal P w K mg base CX0 true 7 "_law_look" ["_law_book", "_law_firm", "_law_rows", "_law_cell", "_law_held"] [] (spLk7 C_Book)) (c_Book_may_enter : CalM P w K mg base CX0 true 1 C_Book "may_enter" ["self", "day"] [] (spMay0 C_Book)) (c_month_of : Cal P w K mg base CX0 true 1 "month_of" ["day"] [] spMon) (z_range : mg "range" = none) (z_len : mg "len" = none) (m_Book : mg "Book" = some (.ref C_Book)) (cl_Book : Cls K C_Book) (n_bbook : NoAttr K C_Book "book") (n_bkept : NoAttr K C_Book "kept") : FnOk P w K mg base CX0 true 8 f fd ["_law_script"] (spLaw K) := by
 obtain ⟨f__law_names, fd__law_names, d__law_names, G__law_names, m__law_names, k__law_names, b__law_names, v__law_names, b__law_names1⟩ := c__law_names
 obtain ⟨f__law_cell_at, fd__law_cell_at, d__law_cell_at, G__law_cell_at, m__law_cell_at, k__law_cell_at, b__law_cell_at, v__law_cell_at, b__law_cell_at1⟩ := c__law_cell_at
 obtain ⟨f_Book___init__, fd_Book___init__, d_Book___init__, G_Book___init__, M_Book, b_Book___init__, v_Book___init__, b_Book___init__1⟩ := c_Book___init__
 obtain ⟨f__law_mix, fd__law_mix, d__law_mix, G__law_mix, m__law_mix, k__law_mix, b__law_mix, v__law_mix, b__law_mix1⟩ := c__law_mix
 obtain ⟨f__law_lines, fd__law_lines, d__law_lines, G__law_lines, m__law_lines, k__law_lines, b__law_lines, v__law_lines, b__law_lines1⟩ := c__law_lines
 obtain ⟨f__law_spoilt, fd__law_spoilt, d__law_spoilt, G__law_spoilt, m__law_spoilt, k__law_spoilt, b__law_spoilt, v__law_spoilt, b__law_spoilt1⟩ := c__law_spoilt
 obtain ⟨f__law_entered, fd__law_entered, d__law_entered, G__law_entered, m__law_entered, k__law_entered, b__law_entered, v__law_entered, b__law_entered1⟩ := c__law_entered
 obtain ⟨f__law_look, fd__law_look, d__law_look, G__law_look, m__law_look, k__law_look, b__law_look, v__law_look, b__law_look1⟩ := c__law_look
 obtain ⟨f_Book_may_enter, fd_Book_may_enter, d_Book_may_enter, G_Book_may_enter, m_Book_may_enter, b_Book_may_enter, v_Book_may_enter, b_Book_may_enter1⟩ := c_Book_may_enter
 obtain ⟨f_month_of, fd_month_of, d_month_of, G_month_of, m_month_of, k_month_of, b_month_of, v_month_of, b_month_of1⟩ := c_month_of
 refine F.ok sc_law (fun vs H Q E h => ?_) (fun cdv A outer s H vs Q E hr h => ?_)
 · obtain ⟨a, ns, rfl, hS, hlen, hb, q⟩ := h
   rfl
 obtain ⟨a, ns, rfl, hS, hlen, hb, q⟩ := h
 have nd := sc_law.nd
 refine ⟨_, (pss_cons (ps_set (i := 1) nd rfl (Or.inl rfl) (pe_call G__law_names (hr.mono (by decide)) rfl m__law_names k__law_names b__law_names Paired.nil pass0 (pa_cons (pe_call G__law_cell_at (hr.mono (by decide)) rfl m__law_cell_at k__law_cell_at b__law_cell_at Paired.nil pass0 (pa_cons (pv 0) (pa_cons pe_int pa_nil))) (pa_cons pe_int pa_nil))))
   (pss_cons (ps_set (i := 2) nd rfl (Or.inl rfl) (pe_call G__law_names (hr.mono (by decide)) rfl m__law_names k__law_names b__law_names Paired.nil pass0 (pa_cons (pe_call G__law_cell_at (hr.mono (by decide)) rfl m__law_cell_at k__law_cell_at b__law_cell_at Paired.nil pass0 (pa_cons (pv 0) (pa_cons pe_int pa_nil))) (pa_cons pe_int pa_nil))))
   (pss_cons (ps_set (i := 2) nd rfl (Or.inl rfl) (pe_op op_cat (pv 2) (pe_lst (pa_cons (pe_op op_add_str pe_str (pe_ix ix_seq (pv 2) pe_int (fun _ _ => rfl))) (pa_cons (pe_op op_add_str pe_str (pe_ix ix_seq (pv 2) pe_int (fun _ _ => rfl))) pa_nil)))))
   (pss_cons (ps_set (i := 3) nd rfl (Or.inl rfl) (pe_call G__law_names (hr.mono (by decide)) rfl m__law_names k__law_names b__law_names Paired.nil pass0 (pa_cons (pe_call G__law_cell_at (hr.mono (by decide)) rfl m__law_cell_at k__law_cell_at b__law_cell_at Paired.nil pass0 (pa_cons (pv 0) (pa_cons pe_int pa_nil))) (pa_cons pe_int pa_nil))))
   (pss_cons (ps_set (i := 4) nd rfl (Or.inl rfl) (pe_lst (pa_cons (pe_make M_Book G_Book___init__ (hr.mono (by decide)) rfl m_Book b_Book___init__ Paired.nil pass0 (pa_cons (pe_ix ix_seq (pv 1) pe_int (fun _ _ => rfl)) pa_nil)) (pa_cons (pe_make M_Book G_Book___init__ (hr.mono (by decide)) rfl m_Book b_Book___init__ Paired.nil pass0 (pa_cons (pe_ix ix_seq (pv 1) pe_int (fun _ _ => rfl)) pa_nil)) pa_nil))))
   (pss_cons (ps_set (i := 5) nd rfl (Or.inl rfl) (pe_lst (pa_cons (pe_lst pa_nil) (pa_cons (pe_lst pa_nil) pa_nil))))
   (pss_cons (ps_set (i := 6) nd rfl (Or.inl rfl) (pe_lst pa_nil))
   (pss_cons (ps_set (i := 7) nd rfl (Or.inl rfl) (pe_slice sl_list (pv 0) (po_some pe_int) (po_some pe_int)))
   (pss_cons (ps_for PassesOwn.never rfl (pi_range1 rfl z_range (pa_cons (pe_op op_fdiv (pe_callB call_len_seq rfl z_len bt_len (pa_cons (pv 7) pa_nil)) pe_int) pa_nil)) (pg_name (i := 8) nd rfl (Or.inl rfl)) (pss_cons (ps_set (i := 10) nd rfl (Or.inl rfl) (pe_slice sl_list (pv 7) (po_some (pe_op op_mulB pe_int (pv 8))) (po_some (pe_op op_add (pe_op op_mulB pe_int (pv 8)) pe_int))))
   (pss_cons (ps_set (i := 9) nd rfl (Or.inl rfl) (pe_op op_mod (pe_call G__law_mix (hr.mono (by decide)) rfl m__law_mix k__law_mix b__law_mix Paired.nil pass0 (pa_cons (pe_ix ix_seq (pv 10) pe_int (fun _ _ => rfl)) (pa_cons pe_int pa_nil))) pe_int))
   (pss_cons (ps_set (i := 11) nd rfl (Or.inl rfl) (pe_ix ix_seq (pe_lst (pa_cons pe_int (pa_cons pe_int (pa_cons pe_int (pa_cons (pe_op op_mod (pe_ix ix_seq (pv 10) pe_int (fun _ _ => rfl)) pe_int) pa_nil))))) (pe_op op_mod (pe_op op_fdiv (pe_ix ix_seq (pv 10) pe_int (fun _ _ => rfl)) pe_int) pe_int) (fun _ _ => rfl)))
   (pss_cons (ps_set (i := 12) nd rfl (Or.inl rfl) (pe_op op_add (pe_op op_mulB (pe_op op_fdiv (pe_op op_mod (pe_call G__law_cell_at (hr.mono (by decide)) rfl m__law_cell_at k__law_cell_at b__law_cell_at Paired.nil pass0 (pa_cons (pv 0) (pa_cons pe_int pa_nil))) pe_int) pe_int) pe_int) (pv 11)))
   (pss_cons (ps_set (i := 13) nd rfl (Or.inl rfl) (pe_call G__law_lines (hr.mono (by decide)) rfl m__law_lines k__law_lines b__law_lines Paired.nil pass0 (pa_cons (pv 10) (pa_cons (pe_ix ix_seq (pv 1) (pv 9) (fun _ _ => rfl)) (pa_cons (pv 2) (pa_cons (pv 3) pa_nil))))))
   (pss_cons (ps_set (i := 14) nd rfl (Or.inl rfl) (pe_call G__law_spoilt (hr.mono (by decide)) rfl m__law_spoilt k__law_spoilt b__law_spoilt Paired.nil pass0 (pa_cons (pv 13) (pa_cons (pe_ix ix_seq (pv 10) pe_int (fun _ _ => rfl)) (pa_cons (pe_lst (pa_cons (pe_ix ix_seq (pv 1) (pe_op op_sub pe_int (pv 9)) (fun _ _ => rfl)) (pa_cons (pe_ix ix_seq (pv 1) pe_int (fun _ _ => rfl)) pa_nil))) pa_nil)))))
   (pss_cons (ps_set (i := 15) nd rfl (Or.inl rfl) (pe_op op_add pe_int (pe_op op_mod (pe_ix ix_seq (pv 10) pe_int (fun _ _ => rfl)) pe_int)))
   (pss_cons (ps_if (pt_not (pt_val (pe_call G__law_entered (hr.mono (by decide)) rfl m__law_entered k__law_entered b__law_entered Paired.nil pass0 (pa_cons (pe_ix ix_seq (pv 4) (pv 9) (fun _ _ => rfl)) (pa_cons (pe_ix ix_seq (pv 1) (pv 9) (fun _ _ => rfl)) (pa_cons (pe_ix ix_seq (pv 5) (pv 9) (fun _ _ => rfl)) (pa_cons (pv 12) (pa_cons (pv 15) (pa_cons (pv 13) (pa_cons (pv 14) pa_nil)))))))))) (pss_one (ps_ret pe_bl)) pss_nil)
   (pss_cons (ps_set (i := 16) nd rfl (Or.inl rfl) (pe_call G__law_mix (hr.mono (by decide)) rfl m__law_mix k__law_mix b__law_mix Paired.nil pass0 (pa_cons (pe_ix ix_seq (pv 10) pe_int (fun _ _ => rfl)) (pa_cons pe_int pa_nil))))
   (pss_cons (ps_set (i := 17) nd rfl (Or.inl rfl) (pe_op op_mod (pv 16) pe_int))
   (pss_cons (ps_if (pt_not (pt_val (pe_call G__law_look (hr.mono (by decide)) rfl m__law_look k__law_look b__law_look Paired.nil pass0 (pa_cons (pe_ix ix_seq (pv 4) (pv 17) (fun _ _ => rfl)) (pa_cons (pe_ix ix_seq (pv 1) (pv 17) (fun _ _ => rfl)) (pa_cons (pe_ix ix_seq (pv 5) (pv 17) (fun _ _ => rfl)) (pa_cons (pe_op op_fdiv (pv 16) pe_int) (pa_cons (pv 6) pa_nil)))))))) (pss_one (ps_ret pe_bl)) pss_nil)
   (pss_one (ps_if (PW.pt (pw_or (pt_cmpR op_notN (pe_meth (pe_ix ix_seq (pv 4) (pv 9) (fun _ _ => rfl)) cl_Book m_Book_may_enter G_Book_may_enter (hr.mono (by decide)) b_Book_may_enter Paired.nil pass0 (pa_cons (pv 12) pa_nil)) pe_non (nomark _)) (pw_or1 (pt_cmpR op_ne (pe_call G_month_of (hr.mono (by decide)) rfl m_month_of k_month_of b_month_of Paired.nil pass0 (pa_cons (pv 12) pa_nil)) (pe_op op_fdiv (pv 12) pe_int) (nomark _))))) (pss_one (ps_ret pe_bl)) pss_nil))))))))))))))
   (pss_cons (ps_for PassesOwn.never rfl (pi_range1 rfl z_range (pa_cons pe_int pa_nil)) (pg_name (i := 9) nd rfl (Or.inl rfl)) (pss_cons (ps_if (pt_cmpR op_ne (pe_fld (pe_ix ix_seq (pv 4) (pv 9) (fun _ _ => rfl)) rfl) (pe_ix ix_seq (pv 1) (pv 9) (fun _ _ => rfl)) (nomark _)) (pss_one (ps_ret pe_bl)) pss_nil)
   (pss_one (ps_if (pt_not (pt_val (pe_call G__law_look (hr.mono (by decide)) rfl m__law_look k__law_look b__law_look Paired.nil pass0 (pa_cons (pe_ix ix_seq (pv 4) (pv 9) (fun _ _ => rfl)) (pa_cons (pe_ix ix_seq (pv 1) (pv 9) (fun _ _ => rfl)) (pa_cons (pe_ix ix_seq (pv 5) (pv 9) (fun _ _ => rfl)) (pa_cons (pe_op op_mulB pe_int (pv 9)) (pa_cons (pv 6) pa_nil)))))))) (pss_one (ps_ret pe_bl)) pss_nil))))
   (pss_cons (ps_for PassesOwn.never rfl (pi_list (pv 6)) (pg_tup rfl (pgs_cons (pg_name (i := 18) nd rfl (Or.inl rfl)) (pgs_cons (pg_name (i := 19) nd rfl (Or.inl rfl)) pgs_nil))) (pss_one (ps_if (pt_cmpR (op_neV hr) (pv 18) (pv 19) (nomark _)) (pss_one (ps_ret pe_bl)) pss_nil)))
   (pss_one (ps_ret pe_bl))))))))))))), ?_⟩
 rw [show ∀ x0 : V, L2.start ["_law_script", "_law_firms", "_law_accounts", "_law_coins_here", "_law_books", "_law_kept_here", "_law_held", "_law_cells", "_law_k", "_law_at", "_law_part", "_law_near", "_law_day", "_law_lines_here", "_law_spoilt_here", "_law_about", "_law_look_here", "_law_one", "_law_found", "_law_due_here"] [x0] = [some x0, none, none, none, none, none, none, none, none, none, none, none, none, none, none, none, none, none, none, none] from fun _ => rfl]
 have hline : 10 ^ 6 ≤ sizeLine := by decide
 refine ⟨_, rfl, a, ns, 0, rfl, hS, _, 4, rfl, by decide, by decide, fun fl fs H1 e1 hfl hfx _ _ => ?_⟩
 refine ⟨_, rfl, a, ns, 1, rfl, e1.seq hS, _, 3, rfl, by decide, by decide, fun l1 as H3 e3 hl1 hax hlta _ => ?_⟩
 obtain ⟨a0, ma0, ha0⟩ := str_in (ws := as) (i := 0) (by decide) (by omega)
 obtain ⟨a1, ma1, ha1⟩ := str_in (ws := as) (i := 1) (by decide) (by omega)
 have b0 := (hlta a0 ma0).2
 have b1 := (hlta a1 ma1).2
 have S1 := SqL.of (K := K) hl1
 refine ⟨_, rfl, _, rfl, .inl ⟨l1, _, 0, _, rfl, rfl, S1, ha0, "*", a0, rfl, rfl, (by show 1 + a0.length ≤ sizeLine; omega), _, rfl, .inl ⟨l1, _, 1, _, rfl, rfl, S1, ha1, ".", a1, rfl, rfl, (by show 1 + a1.length ≤ sizeLine; omega), (by show 2 ≤ sizeLine; decide), fun l2 hl2 => ?_⟩⟩⟩
 have e4 := same_upd (o := .lst [.str ("*" ++ a0), .str ("." ++ a1)]) hl2
 refine ⟨l1, l2, _, _, rfl, rfl, e4 _ _ hl1, upd_same, (by rw [List.length_map]; show as.length + 2 ≤ sizeLine; omega), fun al hal0 => ?_⟩
 have hal : upd (upd H3 l2 (.lst [.str ("*" ++ a0), .str ("." ++ a1)])) al (.lst (as.map V.str ++ [.str ("*" ++ a0), .str ("." ++ a1)])) al = some (.lst ((as ++ ["*" ++ a0, "." ++ a1]).map V.str)) := by
   rw [upd_same, List.map_append]
   rfl
 have e5 := same_upd (o := .lst (as.map V.str ++ [.str ("*" ++ a0), .str ("." ++ a1)])) hal0
 have e15 := (e1.trans e3).trans (e4.trans e5)
 have hfl5 := e5 _ _ (e4 _ _ (e3 _ _ hfl))
 have lal : (as ++ ["*" ++ a0, "." ++ a1]).length = 5 := by
   rw [List.length_append, hax]
   rfl
 generalize as ++ ["*" ++ a0, "." ++ a1] = as5 at hal lal
 generalize upd (upd H3 l2 (.lst [.str ("*" ++ a0), .str ("." ++ a1)])) al (.lst (as.map V.str ++ [.str ("*" ++ a0), .str ("." ++ a1)])) = H5 at hal e15 hfl5 ⊢
 refine ⟨_, rfl, a, ns, 2, rfl, e15.seq hS, _, 3, rfl, by decide, by decide, fun cl cs H6 e6 hcl hcx _ _ => ?_⟩
 have e16 := e15.trans e6
 have hfl6 := e6 _ _ hfl5
 have hal6 := e6 _ _ hal
 have hS6 := e16.seq hS
 have lfs : (fs.map V.str).length = 4 := by rw [List.length_map]; exact hfx
 clear hal hfl5 e15 e5 e4 e3 e1 hfl hl1 S1 ha0 ha1 hlta b0 b1 e6
 -- the books
 refine ⟨_, rfl, .inl ⟨fl, _, 0, _, rfl, rfl, SqL.of hfl6, str_at (n := 0) (by omega), fun p0 dx0 hp0 hdx0 hne0 => ⟨p0, dx0, _, rfl, upd_same, fun kl0 H7 hk0 hkp0 KB0_ hkl0 kq0 => ⟨rfl, ?_⟩⟩⟩⟩
 have s0 : Same H6 H7 := fun b o hb => by
   have nb1 : b ≠ p0 := ne_of_none hb hp0
   have nb2 : b ≠ dx0 := ne_of_none hb hdx0
   exact kq0 b o (by rw [upd_ne nb1, upd_ne nb2]; exact hb) nb1
 have fk0 : H6 kl0 = none := fr_of hk0 hp0 hdx0
 refine ⟨_, rfl, .inl ⟨fl, _, 1, _, rfl, rfl, SqL.of (s0 _ _ hfl6), str_at (n := 1) (by omega), fun p1 dx1 hp1 hdx1 hne1 => ⟨p1, dx1, _, rfl, upd_same, fun kl1 H8 hk1 hkp1 KB1_ hkl1 kq1 => ⟨rfl, ?_⟩⟩⟩⟩
 have s1 : Same H7 H8 := fun b o hb => by
   have nb1 : b ≠ p1 := ne_of_none hb hp1
   have nb2 : b ≠ dx1 := ne_of_none hb hdx1
   exact kq1 b o (by rw [upd_ne nb1, upd_ne nb2]; exact hb) nb1
 have fk1 : H7 kl1 = none := fr_of hk1 hp1 hdx1
 refine ⟨(by show 2 ≤ sizeLine; decide), fun bl hbl => ?_⟩
 have g9 := same_upd (o := .lst [.ref p0, .ref p1]) hbl
 have hbl9 : upd H8 bl (.lst [.ref p0, .ref p1]) bl = some (.lst [.ref p0, .ref p1]) := upd_same
 generalize upd H8 bl (.lst [.ref p0, .ref p1]) = H9 at g9 hbl9 ⊢
 refine ⟨(by show 0 ≤ sizeLine; decide), fun rl0 hrl0 => ?_⟩
 have gA := same_upd (o := .lst []) hrl0
 have hrA : upd H9 rl0 (.lst []) rl0 = some (.lst []) := upd_same
 generalize upd H9 rl0 (.lst []) = HA at gA hrA ⊢
 refine ⟨(by show 0 ≤ sizeLine; decide), fun rl1 hrl1 => ?_⟩
 have gB := same_upd (o := .lst []) hrl1
 have hrB : upd HA rl1 (.lst []) rl1 = some (.lst []) := upd_same
 generalize upd HA rl1 (.lst []) = HB at gB hrB ⊢
 refine ⟨(by show 2 ≤ sizeLine; decide), fun kh hkh => ?_⟩
 have gC := same_upd (o := .lst [.ref rl0, .ref rl1]) hkh
 have hkC : upd HB kh (.lst [.ref rl0, .ref rl1]) kh = some (.lst [.ref rl0, .ref rl1]) := upd_same
 generalize upd HB kh (.lst [.ref rl0, .ref rl1]) = HC at gC hkC ⊢
 refine ⟨(by show 0 ≤ sizeLine; decide), fun hl hhl => ?_⟩
 have gD := same_upd (o := .lst []) hhl
 have hhD : upd HC hl (.lst []) hl = some (.lst []) := upd_same
 generalize upd HC hl (.lst []) = HD at gD hhD ⊢
 obtain ⟨us, hcut, hus, hum⟩ := cut_ints ns (some 4) (some 64)
 have hSD := (((((((s0.trans s1).trans g9).trans gA).trans gB).trans gC).trans gD)).seq hS6
 refine ⟨_, rfl, _, rfl, _, rfl, a, _, rfl, hSD, fun cu hcu => ?_⟩
 rw [hcut]
 have gE := same_upd (o := .lst (us.map V.int)) hcu
 have hcE : upd HD cu (.lst (us.map V.int)) cu = some (.lst (us.map V.int)) := upd_same
 generalize upd HD cu (.lst (us.map V.int)) = H0 at gE hcE ⊢
 -- all in H0
 have sDE := gD.trans gE
 have sCE := gC.trans sDE
 have sBE := gB.trans sCE
 have sAE := gA.trans sBE
 have s9E := g9.trans sAE
 have s7E := s1.trans s9E
 have s6E := s0.trans s7E
 have xk0 := s7E _ _ hkl0
 have xk1 := s9E _ _ hkl1
 have xr0 := sBE _ _ hrA
 have xr1 := sCE _ _ hrB
 have xh := gE _ _ hhD
 have n1 : kl0 ≠ kl1 := ne_of_none hkl0 fk1
 have n2 : kl0 ≠ rl0 := ne_of_none (g9 _ _ (s1 _ _ hkl0)) hrl0
 have n3 : kl1 ≠ rl0 := ne_of_none (g9 _ _ hkl1) hrl0
 have n4 : kl0 ≠ rl1 := ne_of_none (gA _ _ (g9 _ _ (s1 _ _ hkl0))) hrl1
 have n5 : kl1 ≠ rl1 := ne_of_none (gA _ _ (g9 _ _ hkl1)) hrl1
 have n6 : rl0 ≠ rl1 := ne_of_none hrA hrl1
 have n7 : kl0 ≠ hl := ne_of_none (gC _ _ (gB _ _ (gA _ _ (g9 _ _ (s1 _ _ hkl0))))) hhl
 have n8 : kl1 ≠ hl := ne_of_none (gC _ _ (gB _ _ (gA _ _ (g9 _ _ hkl1)))) hhl
 have n9 : rl0 ≠ hl := ne_of_none (gC _ _ (gB _ _ hrA)) hhl
 have n10 : rl1 ≠ hl := ne_of_none (gC _ _ hrB) hhl
 have ty : ∀ i, i < 2 → i = 0 ∨ i = 1 := fun i hi => by omega
 have D : Di H0 (two2 kl0 kl1) (two2 rl0 rl1) hl := by
   refine ⟨fun b hb => ?_, fun i j hi hj hij => ?_, fun i j hi hj => ?_, fun i hi => ?_⟩
   · rcases hb with rfl | rfl | rfl | rfl | rfl
     · exact ⟨_, xk0⟩
     · exact ⟨_, xk1⟩
     · exact ⟨_, xr0⟩
     · exact ⟨_, xr1⟩
     · exact ⟨_, xh⟩
   · rcases ty i hi with rfl | rfl <;> rcases ty j hj with rfl | rfl
     · exact absurd rfl hij
     · exact ⟨n1, n6⟩
     · exact ⟨n1.symm, n6.symm⟩
     · exact absurd rfl hij
   · rcases ty i hi with rfl | rfl <;> rcases ty j hj with rfl | rfl
     · exact n2
     · exact n4
     · exact n3
     · exact n5
   · rcases ty i hi with rfl | rfl
     · exact ⟨n7, n9⟩
     · exact ⟨n8, n10⟩
 have W0 : W7 C_Book H0 H0 (two2 p0 p1) (two2 kl0 kl1) (two2 rl0 rl1) (fun i => fs.getD i "") (fun _ => []) (fun _ => []) hl [] 0 0 := by
   refine ⟨fun b o h => ⟨o, h⟩, fun b o h _ => h, fun i hi => ?_, (fun i hi e he => nomatch he), (fun i hi e he => nomatch he), xh, (fun x hx => nomatch hx), (fun x hx => nomatch hx), Nat.le_refl _⟩
   rcases ty i hi with rfl | rfl
   · exact ⟨KB0_.same s7E, xk0, (fun z hz => nomatch hz), xr0, (fun z hz => nomatch hz), rfl, n2, (fun z hz => nomatch hz), Nat.le_refl _⟩
   · exact ⟨KB1_.same s9E, xk1, (fun z hz => nomatch hz), xr1, (fun z hz => nomatch hz), rfl, n5, (fun z hz => nomatch hz), Nat.le_refl _⟩
 have hbl0 := sAE _ _ hbl9
 have hkh0 := sDE _ _ hkC
 have hfl0 := s6E _ _ hfl6
 have hal0' := s6E _ _ hal6
 have hcl0 := s6E _ _ hcl
 have hS0 := s6E.seq hS6
 have mu : ∀ b xs, H0 b = some (.lst xs) → xs ≠ [] → ¬ Mu (two2 kl0 kl1) (two2 rl0 rl1) hl b := fun b xs hb hx m => by
   rcases m with rfl | rfl | rfl | rfl | rfl
   · have w := xk0.symm.trans hb
     exact hx (HO.lst.inj (Option.some.inj w)).symm
   · have w := xk1.symm.trans hb
     exact hx (HO.lst.inj (Option.some.inj w)).symm
   · have w := xr0.symm.trans hb
     exact hx (HO.lst.inj (Option.some.inj w)).symm
   · have w := xr1.symm.trans hb
     exact hx (HO.lst.inj (Option.some.inj w)).symm
   · have w := xh.symm.trans hb
     exact hx (HO.lst.inj (Option.some.inj w)).symm
 have muS : ∀ o, H6 a = some o → ¬ Mu (two2 kl0 kl1) (two2 rl0 rl1) hl a := fun o ho m => by
   rcases m with w | w | w | w | w
   · have w : a = kl0 := w
     rw [w, fk0] at ho; cases ho
   · have w : a = kl1 := w
     have h7 := s0 _ _ ho
     rw [w, fk1] at h7; cases h7
   · have w : a = rl0 := w
     have h7 := g9 _ _ (s1 _ _ (s0 _ _ ho))
     rw [w, hrl0] at h7; cases h7
   · have w : a = rl1 := w
     have h7 := gA _ _ (g9 _ _ (s1 _ _ (s0 _ _ ho)))
     rw [w, hrl1] at h7; cases h7
   · have w : a = hl := w
     have h7 := gC _ _ (gB _ _ (gA _ _ (g9 _ _ (s1 _ _ (s0 _ _ ho)))))
     rw [w, hhl] at h7; cases h7
 have sS : ∀ H', (∀ b o, H0 b = some o → ¬ Mu (two2 kl0 kl1) (two2 rl0 rl1) hl b → H' b = some o) → SqL K H' a (ns.map V.int) := fun H' st => by
   rcases hS6 with (w | ⟨o, w⟩) | w
   · exact .inl (.inl (st _ _ (s6E _ _ w) (muS _ w)))
   · exact .inl (.inr ⟨o, st _ _ (s6E _ _ w) (muS _ w)⟩)
   · exact .inr w
 have hbl0 : H0 bl = some (.lst [.ref (two2 p0 p1 0), .ref (two2 p0 p1 1)]) := hbl0
 have hkh0 : H0 kh = some (.lst [.ref (two2 rl0 rl1 0), .ref (two2 rl0 rl1 1)]) := hkh0
 have mbl := mu _ _ hbl0 (by simp)
 have mkh := mu _ _ hkh0 (by simp)
 have mfl := mu _ _ hfl0 (fun z => by rw [z] at lfs; cases lfs)
 have mal := mu _ _ hal0' (fun z => by have := congrArg List.length z; rw [List.length_map, lal] at this; cases this)
 have mcl := mu _ _ hcl0 (fun z => by have := congrArg List.length z; rw [List.length_map, hcx] at this; cases this)
 have lum : (us.map V.int).length = us.length := List.length_map ..
 have mcu : 5 ≤ us.length → ¬ Mu (two2 kl0 kl1) (two2 rl0 rl1) hl cu := fun h5 => mu _ _ hcE (fun z => by have := congrArg List.length z; rw [List.length_map] at this; rw [this] at h5; exact absurd h5 (by decide))
 clear mu muS
 generalize two2 p0 p1 = P at W0 hbl0
 generalize two2 kl0 kl1 = KL at W0 D mbl mkh mfl mal mcl mcu sS
 generalize two2 rl0 rl1 = RL at W0 D mbl mkh mfl mal mcl mcu sS hkh0
 simp only [List.set_cons_zero, List.set_cons_succ]
 refine ⟨_, rfl, cu, _, rfl, .inl (SqL.of hcE), _, _, rfl, rfl, ⟨by decide, by decide⟩, _, rfl, by omega, by omega, ?_⟩
 refine for_range (fun i σ H' => ∃ (EE TT : Nat → List En) (HS : List Hq) (o1 o2 o3 o4 o5 o6 o7 o8 o9 o10 : Option V), σ = [some (.ref a), some (.ref fl), some (.ref al), some (.ref cl), some (.ref bl), some (.ref kh), some (.ref hl), some (.ref cu), o1, o2, o3, o4, o5, o6, o7, o8, o9, o10, none, none] ∧ W7 C_Book H0 H' P KL RL (fun i => fs.getD i "") EE TT hl HS i (5 * i) ∧ i ≤ 12) ⟨_, _, [], _, _, _, _, _, _, _, _, _, _, rfl, W0, by decide⟩ ?_ ?_
 · rintro i σ H1 hi ⟨EE, TT, HS, o1, o2, o3, o4, o5, o6, o7, o8, o9, o10, rfl, W, _⟩
   have hi5 : 5 * i + 5 ≤ us.length := by omega
   have hi12 : i < 12 := by omega
   obtain ⟨vs, hvs, hv5, hvm⟩ := cut5 hi5
   have cu1 := W.st _ _ hcE (mcu (by omega))
   refine ⟨_, rfl, _, rfl, _, _, rfl, rfl, mul_of (by omega) (by omega) (by omega) (by omega), _, rfl, _, rfl, _, _, rfl, rfl, mul_of (by omega) (by omega) (by omega) (by omega), _, _, rfl, rfl, _, rfl, cu, _, rfl, SqL.of cu1, fun pp hpp => ?_⟩
   rw [hvs]
   have g2 := same_upd (o := .lst (vs.map V.int)) hpp
   have hpp2 : upd H1 pp (.lst (vs.map V.int)) pp = some (.lst (vs.map V.int)) := upd_same
   have fpp : H0 pp = none := W.fre hpp
   have W2 := W.same g2
   generalize upd H1 pp (.lst (vs.map V.int)) = H2 at hpp2 W2 ⊢
   obtain ⟨c0, _, hc0⟩ := int_in (ws := vs) (i := 0) (by decide) (by omega)
   obtain ⟨c3, _, hc3⟩ := int_in (ws := vs) (i := 3) (by decide) (by omega)
   obtain ⟨c4, _, hc4⟩ := int_in (ws := vs) (i := 4) (by decide) (by omega)
   refine ⟨_, rfl, .inl ⟨pp, _, 0, _, rfl, rfl, SqL.of hpp2, hc0, c0, 16807, rfl, by decide, fun w0 w00 w01 => ⟨_, _, rfl, rfl, (by show (0 : Int) < 2; decide), ?_⟩⟩⟩
   obtain ⟨t, ht⟩ : ∃ t : Nat, w0 % 2 = (t : Int) := Int.eq_ofNat_of_zero_le (by omega)
   have ht2 : t < 2 := by omega
   rw [show (fun i j => V.int (i % j)) w0 2 = V.int (t : Int) from congrArg V.int ht]
   refine ⟨_, rfl, .inl ⟨pp, _, 3, _, rfl, rfl, SqL.of hpp2, hc3, _, _, rfl, rfl, (by show (0 : Int) < 100; decide), (by show 4 ≤ sizeLine; decide), fun nn hnn => ?_⟩⟩
   have g3 := same_upd (o := .lst [.int 0, .int 29, .int 30, .int (c3 % 100)]) hnn
   obtain ⟨nr, _, hnr⟩ := int_in (ws := [0, 29, 30, c3 % 100]) (i := c3 / 100 % 4) (by omega) (by show c3 / 100 % 4 < 4; omega)
   refine ⟨_, rfl, .inl ⟨pp, _, 3, _, rfl, rfl, SqL.of (g3 _ _ hpp2), hc3, _, _, rfl, rfl, ⟨by decide, by decide⟩, _, _, rfl, rfl, (by show (0 : Int) < 4; decide), .inl ⟨nn, _, _, _, rfl, rfl, SqL.of upd_same, hnr, ?_⟩⟩⟩
   have hpp3 := g3 _ _ hpp2
   have W3 := W2.same g3
   generalize upd H2 nn _ = H3 at hpp3 W3 ⊢
   simp only [List.set_cons_zero, List.set_cons_succ]
   refine ⟨_, rfl, a, ns, 3, rfl, sS _ W3.st, _, _, rfl, rfl, (by show (0 : Int) < 9900; decide), _, _, rfl, rfl, ⟨by decide, by decide⟩, _, _, rfl, rfl, mul_of (by omega) (by omega) (by omega) (by omega), _, rfl, _, _, rfl, rfl, ?_⟩
   refine ⟨_, rfl, _, rfl, _, rfl, .inl ⟨fl, _, _, _, rfl, rfl, SqL.of (W3.st _ _ hfl0 mfl), str_at (n := t) (by omega), _, rfl, _, rfl, pp, al, cl, _, vs, as5, cs, rfl, hpp3, hv5, (fun w hw => hb w (hum w (hvm w hw))), W3.st _ _ hal0' mal, lal, W3.st _ _ hcl0 mcl, hcx, fun l L H4 e4 hl0 hlL hL hLl hdu => ?_⟩⟩
   have W4 := W3.same e4
   have hpp4 := e4 _ _ hpp3
   obtain ⟨s0', _, hfo⟩ := str_in (ws := fs) (i := 1 - (t : Int)) (by omega) (by omega)
   obtain ⟨s1', _, hf2⟩ := str_in (ws := fs) (i := 2) (by decide) (by omega)
   have fl4 := W4.st _ _ hfl0 mfl
   refine ⟨_, rfl, _, rfl, .inl ⟨pp, _, 4, _, rfl, rfl, SqL.of hpp4, hc4, _, rfl, _, rfl, _, _, rfl, rfl, .inl ⟨fl, _, _, _, rfl, rfl, SqL.of fl4, hfo, _, rfl, .inl ⟨fl, _, 2, _, rfl, rfl, SqL.of fl4, hf2, (by show 2 ≤ sizeLine; decide), fun sl hsl => ?_⟩⟩⟩⟩
   have g5 := same_upd (o := .lst [.str s0', .str s1']) hsl
   refine ⟨l, sl, s0', s1', c4, L, rfl, g5 _ _ hlL, hL.same g5, hLl, upd_same, fun l' L' H6 e6 hl0' hl' hL' hLl' => ?_⟩
   have e46 := g5.trans e6
   have W6 := W4.same e46
   have hpp6 := e46 _ _ hpp4
   have fl0' : H0 l = none := W3.fre hl0
   simp only [List.set_cons_zero, List.set_cons_succ]
   refine ⟨_, rfl, .inl ⟨pp, _, 3, _, rfl, rfl, SqL.of hpp6, hc3, _, _, rfl, rfl, (by show (0 : Int) < 100; decide), _, _, rfl, rfl, ?_⟩⟩
   refine ⟨_, rfl, _, rfl, .inl ⟨bl, _, _, _, rfl, rfl, SqL.of (W6.st _ _ hbl0 mbl), at2 P ht2, _, rfl, _, rfl, .inl ⟨fl, _, _, _, rfl, rfl, SqL.of (W6.st _ _ hfl0 mfl), str_at (n := t) (by omega), _, rfl, _, rfl, .inl ⟨kh, _, _, _, rfl, rfl, SqL.of (W6.st _ _ hkh0 mkh), at2 RL ht2, _, rfl, _, rfl, _, rfl, _, rfl, P t, KL t, RL t, _, EE t, TT t, i, _, _, l, l', L, L', rfl, W6.bk t ht2, by omega, e46 _ _ hlL, hL.same e46, hLl, hdu, hl', hL', hLl', D.far fl0' (Mu.k ht2), D.far fl0' (Mu.r ht2), fun E' T' H7 k7 B7 f7 g7 => ⟨true, rfl, iteF ?_⟩⟩⟩⟩⟩
   have W7' := W6.ent D ht2 k7 B7 f7 g7
   have hpp7 := k7 _ _ hpp6 (D.far fpp (Mu.k ht2)) (D.far fpp (Mu.r ht2))
   generalize (fun i => if i = t then E' else EE i) = EE' at W7'
   generalize (fun i => if i = t then T' else TT i) = TT' at W7'
   simp only [List.set_cons_zero, List.set_cons_succ]
   refine ⟨_, rfl, .inl ⟨pp, _, 4, _, rfl, rfl, SqL.of hpp7, hc4, c4, 69621, rfl, by decide, fun w1 w10 w11 => ?_⟩⟩
   refine ⟨_, rfl, _, _, rfl, rfl, (by show (0 : Int) < 2; decide), ?_⟩
   obtain ⟨s, hs⟩ : ∃ t : Nat, w1 % 2 = (t : Int) := Int.eq_ofNat_of_zero_le (by omega)
   have hs2 : s < 2 := by omega
   rw [show (fun i j => V.int (i % j)) w1 2 = V.int (s : Int) from congrArg V.int hs]
   have hHn := W7'.hn
   refine ⟨_, rfl, _, rfl, .inl ⟨bl, _, _, _, rfl, rfl, SqL.of (W7'.st _ _ hbl0 mbl), at2 P hs2, _, rfl, _, rfl, .inl ⟨fl, _, _, _, rfl, rfl, SqL.of (W7'.st _ _ hfl0 mfl), str_at (n := s) (by omega), _, rfl, _, rfl, .inl ⟨kh, _, _, _, rfl, rfl, SqL.of (W7'.st _ _ hkh0 mkh), at2 RL hs2, _, rfl, _, _, rfl, rfl, ⟨by decide, by decide⟩, _, rfl, P s, KL s, RL s, _, EE' s, TT' s, i + 1, _, hl, _, rfl, W7'.bk s hs2, by omega, W7'.e5 s hs2, W7'.hc, (by rw [List.length_map]; omega), (D.kh s hs2).1, (D.kh s hs2).2, (fun t ht => D.far (W7'.tf s hs2 t ht) Mu.h), fun X H8 fr8 hh8 hX hq8 hf8 => ⟨true, rfl, iteF ?_⟩⟩⟩⟩⟩
   have W8 := W7'.look D fr8 hh8 hX hq8 hf8
   obtain ⟨dx8, fs8, hp8, hbk8, hke8, hno8⟩ := (W8.bk t ht2).kb.ob
   refine ⟨_, rfl, _, rfl, .inl ⟨bl, _, _, _, rfl, rfl, SqL.of (W8.st _ _ hbl0 mbl), at2 P ht2, P t, dx8, fs8, rfl, hp8, hno8 "may_enter" (by decide +kernel), _, rfl, P t, _, rfl, rfl, _, rfl, ndecF rfl ?_⟩⟩
   refine ⟨_, rfl, _, rfl, _, rfl, _, _, rfl, rfl, ⟨by decide, by decide⟩, rfl, _, rfl, ndecF rfl ?_⟩
   exact ⟨EE', TT', HS ++ X, _, _, _, _, _, _, _, _, _, _, rfl, W8, by omega⟩
 rintro σ H1 ⟨EE, TT, HS, o1, o2, o3, o4, o5, o6, o7, o8, o9, o10, rfl, W, hN12⟩
 generalize (((us.map V.int).length : Int) / 5).toNat = N0 at W hN12
 refine ⟨_, rfl, by decide, by decide, ?_⟩
 refine for_range (fun i σ H' => ∃ (HS : List Hq) (o1 o2 o3 o4 o5 o6 o7 o8 o9 o10 : Option V), σ = [some (.ref a), some (.ref fl), some (.ref al), some (.ref cl), some (.ref bl), some (.ref kh), some (.ref hl), some (.ref cu), o1, o2, o3, o4, o5, o6, o7, o8, o9, o10, none, none] ∧ W7 C_Book H0 H' P KL RL (fun i => fs.getD i "") EE TT hl HS N0 (5 * N0 + 5 * i)) ⟨HS, _, _, _, _, _, _, _, _, _, _, rfl, W⟩ ?_ ?_
 · clear W
   rintro i σ H2 hi ⟨HS, o1, o2, o3, o4, o5, o6, o7, o8, o9, o10, rfl, W⟩
   have hi2 : i < 2 := by omega
   have ei : (0 + (i : Int)) = (i : Int) := Int.zero_add _
   rw [ei]
   obtain ⟨dx8, fs8, hp8, hbk8, hke8, hno8⟩ := (W.bk i hi2).kb.ob
   refine ⟨_, rfl, _, rfl, .inl ⟨bl, _, _, _, rfl, rfl, SqL.of (W.st _ _ hbl0 mbl), at2 P hi2, P i, C_Book, dx8, fs8, _, rfl, hp8, cl_Book, n_bbook, hbk8, _, rfl, _, rfl, .inl ⟨fl, _, _, _, rfl, rfl, SqL.of (W.st _ _ hfl0 mfl), str_at (n := i) (by omega), rfl, _, rfl, ndecF rfl ?_⟩⟩⟩
   have hHn := W.hn
   refine ⟨_, rfl, _, rfl, .inl ⟨bl, _, _, _, rfl, rfl, SqL.of (W.st _ _ hbl0 mbl), at2 P hi2, _, rfl, _, rfl, .inl ⟨fl, _, _, _, rfl, rfl, SqL.of (W.st _ _ hfl0 mfl), str_at (n := i) (by omega), _, rfl, _, rfl, .inl ⟨kh, _, _, _, rfl, rfl, SqL.of (W.st _ _ hkh0 mkh), at2 RL hi2, _, rfl, _, _, rfl, rfl, mul_of (by omega) (by omega) (by omega) (by omega), _, rfl, P i, KL i, RL i, _, EE i, TT i, N0, _, hl, _, rfl, W.bk i hi2, by omega, W.e5 i hi2, W.hc, (by rw [List.length_map]; omega), (D.kh i hi2).1, (D.kh i hi2).2, (fun t ht => D.far (W.tf i hi2 t ht) Mu.h), fun X H8 fr8 hh8 hX hq8 hf8 => ⟨true, rfl, iteF ?_⟩⟩⟩⟩⟩
   exact ⟨HS ++ X, _, _, _, _, _, _, _, _, _, _, rfl, W.look D fr8 hh8 hX hq8 hf8⟩
 clear W
 rintro σ H2 ⟨HS, o1, o2, o3, o4, o5, o6, o7, o8, o9, o10, rfl, W⟩
 refine ⟨_, rfl, hl, rfl, ⟨_, SqL.of W.hc⟩, ?_⟩
 refine for_list (xs := HS.map fun x => V.ref x.tp) (fun i σ H' => ∃ (o1 o2 o3 o4 o5 o6 o7 o8 o9 o10 o11 o12 : Option V), σ = [some (.ref a), some (.ref fl), some (.ref al), some (.ref cl), some (.ref bl), some (.ref kh), some (.ref hl), some (.ref cu), o1, o2, o3, o4, o5, o6, o7, o8, o9, o10, o11, o12] ∧ H' = H2) ⟨_, _, _, _, _, _, _, _, _, _, _, _, rfl, rfl⟩ ?_ ?_ ?_
 · rintro i σ H' hi ⟨o1, o2, o3, o4, o5, o6, o7, o8, o9, o10, o11, o12, rfl, rfl⟩
   exact SqL.of W.hc
 · rintro i w σ H' hw ⟨o1, o2, o3, o4, o5, o6, o7, o8, o9, o10, o11, o12, rfl, rfl⟩
   obtain ⟨x, hx, rfl⟩ : ∃ x, HS[i]? = some x ∧ w = .ref x.tp := by
     rw [List.getElem?_map] at hw
     cases g : HS[i]? with
     | none => rw [g] at hw; cases hw
     | some z => rw [g] at hw; exact ⟨z, rfl, (Option.some.inj hw).symm⟩
   have k := W.hq x (List.mem_of_getElem? hx)
   refine ⟨x.tp, _, rfl, SqT.of k.tp, rfl, _, _, rfl, _, _, rfl, rfl, ?_⟩
   exact ⟨_, rfl, _, rfl, x.r, x.r2, _, _, rfl, rfl, SqL.of k.l1, SqL.of k.l2, k.ln, (fun j u w a b => (k.al j u w a b).tu), _, rfl, iteF ⟨_, _, _, _, _, _, _, _, _, _, _, _, rfl, rfl⟩⟩
 rintro σ H' ⟨o1, o2, o3, o4, o5, o6, o7, o8, o9, o10, o11, o12, rfl, rfl⟩
 exact q _
end
theorem all_mk {l : PySem.W.OpenLaw} {w : World} {K : PySem.W.Frag} {h : Heap} {mg : Str → Option Value} {fa : Addr} {C_Book C_BooksError C_Closed C_NoFirm C_Unbalanced : Addr} {f_rests_of : Addr} {oc_rests_of kV_rests_of dc_rests_of pm_rests_of cd_rests_of ct_rests_of : Value} {od_rests_of an_rests_of : Option Addr} {sl_rests_of : Array (Option Value)} {f_month_of : Addr} {oc_month_of kV_month_of dc_month_of pm_month_of cd_month_of ct_month_of : Value} {od_month_of an_month_of : Option Addr} {sl_month_of : Array (Option Value)} {f_put_together : Addr} {oc_put_together kV_put_together dc_put_together pm_put_together cd_put_together ct_put_together : Value} {od_put_together an_put_together : Option Addr} {sl_put_together : Array (Option Value)} {f_figures_of : Addr} {oc_figures_of kV_figures_of dc_figures_of pm_figures_of cd_figures_of ct_figures_of : Value} {od_figures_of an_figures_of : Option Addr} {sl_figures_of : Array (Option Value)} {f_NoFirm__init__ : Addr} {oc_NoFirm__init__ kV_NoFirm__init__ dc_NoFirm__init__ pm_NoFirm__init__ cd_NoFirm__init__ ct_NoFirm__init__ : Value} {od_NoFirm__init__ an_NoFirm__init__ : Option Addr} {sl_NoFirm__init__ : Array (Option Value)} {f_Unbalanced__init__ : Addr} {oc_Unbalanced__init__ kV_Unbalanced__init__ dc_Unbalanced__init__ pm_Unbalanced__init__ cd_Unbalanced__init__ ct_Unbalanced__init__ : Value} {od_Unbalanced__init__ an_Unbalanced__init__ : Option Addr} {sl_Unbalanced__init__ : Array (Option Value)} {f_check_entry : Addr} {oc_check_entry kV_check_entry dc_check_entry pm_check_entry cd_check_entry ct_check_entry : Value} {od_check_entry an_check_entry : Option Addr} {sl_check_entry : Array (Option Value)} {f_Book___init__ : Addr} {oc_Book___init__ kV_Book___init__ dc_Book___init__ pm_Book___init__ cd_Book___init__ ct_Book___init__ : Value} {od_Book___init__ an_Book___init__ : Option Addr} {sl_Book___init__ : Array (Option Value)} {f_Book_may_enter : Addr} {oc_Book_may_enter kV_Book_may_enter dc_Book_may_enter pm_Book_may_enter cd_Book_may_enter ct_Book_may_enter : Value} {od_Book_may_enter an_Book_may_enter : Option Addr} {sl_Book_may_enter : Array (Option Value)} {f_Book_post : Addr} {oc_Book_post kV_Book_post dc_Book_post pm_Book_post cd_Book_post ct_Book_post : Value} {od_Book_post an_Book_post : Option Addr} {sl_Book_post : Array (Option Value)} {f_Book_entries : Addr} {oc_Book_entries kV_Book_entries dc_Book_entries pm_Book_entries cd_Book_entries ct_Book_entries : Value} {od_Book_entries an_Book_entries : Option Addr} {sl_Book_entries : Array (Option Value)} {f_Book_spots : Addr} {oc_Book_spots kV_Book_spots dc_Book_spots pm_Book_spots cd_Book_spots ct_Book_spots : Value} {od_Book_spots an_Book_spots : Option Addr} {sl_Book_spots : Array (Option Value)} {T_Book_spots : Addr} {odT_Book_spots : Option Addr} {nT_Book_spots : Nat} {slT_Book_spots : Array (Option Value)} {f_Book_lines_upto : Addr} {oc_Book_lines_upto kV_Book_lines_upto dc_Book_lines_upto pm_Book_lines_upto cd_Book_lines_upto ct_Book_lines_upto : Value} {od_Book_lines_upto an_Book_lines_upto : Option Addr} {sl_Book_lines_upto : Array (Option Value)} {T_Book_lines_upto : Addr} {odT_Book_lines_upto : Option Addr} {nT_Book_lines_upto : Nat} {slT_Book_lines_upto : Array (Option Value)} {f_Book_figures : Addr} {oc_Book_figures kV_Book_figures dc_Book_figures pm_Book_figures cd_Book_figures ct_Book_figures : Value} {od_Book_figures an_Book_figures : Option Addr} {sl_Book_figures : Array (Option Value)} {T_Book_figures : Addr} {odT_Book_figures : Option Addr} {nT_Book_figures : Nat} {slT_Book_figures : Array (Option Value)} {f__law_cell_at : Addr} {oc__law_cell_at kV__law_cell_at dc__law_cell_at pm__law_cell_at cd__law_cell_at ct__law_cell_at : Value} {od__law_cell_at an__law_cell_at : Option Addr} {sl__law_cell_at : Array (Option Value)} {f__law_whole : Addr} {oc__law_whole kV__law_whole dc__law_whole pm__law_whole cd__law_whole ct__law_whole : Value} {od__law_whole an__law_whole : Option Addr} {sl__law_whole : Array (Option Value)} {f__law_mix : Addr} {oc__law_mix kV__law_mix dc__law_mix pm__law_mix cd__law_mix ct__law_mix : Value} {od__law_mix an__law_mix : Option Addr} {sl__law_mix : Array (Option Value)} {f__law_names : Addr} {oc__law_names kV__law_names dc__law_names pm__law_names cd__law_names ct__law_names : Value} {od__law_names an__law_names : Option Addr} {sl__law_names : Array (Option Value)} {f__law_amount : Addr} {oc__law_amount kV__law_amount dc__law_amount pm__law_amount cd__law_amount ct__law_amount : Value} {od__law_amount an__law_amount : Option Addr} {sl__law_amount : Array (Option Value)} {f__law_kept : Addr} {oc__law_kept kV__law_kept dc__law_kept pm__law_kept cd__law_kept ct__law_kept : Value} {od__law_kept an__law_kept : Option Addr} {sl__law_kept : Array (Option Value)} {f__law_due : Addr} {oc__law_due kV__law_due dc__law_due pm__law_due cd__law_due ct__law_due : Value} {od__law_due an__law_due : Option Addr} {sl__law_due : Array (Option Value)} {f__law_lines : Addr} {oc__law_lines kV__law_lines dc__law_lines pm__law_lines cd__law_lines ct__law_lines : Value} {od__law_lines an__law_lines : Option Addr} {sl__law_lines : Array (Option Value)} {f__law_spoilt : Addr} {oc__law_spoilt kV__law_spoilt dc__law_spoilt pm__law_spoilt cd__law_spoilt ct__law_spoilt : Value} {od__law_spoilt an__law_spoilt : Option Addr} {sl__law_spoilt : Array (Option Value)} {f__law_refused : Addr} {oc__law_refused kV__law_refused dc__law_refused pm__law_refused cd__law_refused ct__law_refused : Value} {od__law_refused an__law_refused : Option Addr} {sl__law_refused : Array (Option Value)} {f__law_by_base : Addr} {oc__law_by_base kV__law_by_base dc__law_by_base pm__law_by_base cd__law_by_base ct__law_by_base : Value} {od__law_by_base an__law_by_base : Option Addr} {sl__law_by_base : Array (Option Value)} {f__law_entered : Addr} {oc__law_entered kV__law_entered dc__law_entered pm__law_entered cd__law_entered ct__law_entered : Value} {od__law_entered an__law_entered : Option Addr} {sl__law_entered : Array (Option Value)} {f__law_spots : Addr} {oc__law_spots kV__law_spots dc__law_spots pm__law_spots cd__law_spots ct__law_spots : Value} {od__law_spots an__law_spots : Option Addr} {sl__law_spots : Array (Option Value)} {f__law_asked : Addr} {oc__law_asked kV__law_asked dc__law_asked pm__law_asked cd__law_asked ct__law_asked : Value} {od__law_asked an__law_asked : Option Addr} {sl__law_asked : Array (Option Value)} {f__law_look : Addr} {oc__law_look kV__law_look dc__law_look pm__law_look cd__law_look ct__law_look : Value} {od__law_look an__law_look : Option Addr} {sl__law_look : Array (Option Value)} {f_law : Addr} {oc_law kV_law dc_law pm_law cd_law ct_law : Value} {od_law an_law : Option Addr} {sl_law : Array (Option Value)} (X : K.In h) (G : h.Ns mainGlobals mg) (hfa : mg "law" = some (.ref fa))
   (a_Book : PySem.W.nsIn K mainGlobals "Book" = some (some (.ref C_Book))) (a_BooksError : PySem.W.nsIn K mainGlobals "BooksError" = some (some (.ref C_BooksError))) (a_Closed : PySem.W.nsIn K mainGlobals "Closed" = some (some (.ref C_Closed))) (a_NoFirm : PySem.W.nsIn K mainGlobals "NoFirm" = some (some (.ref C_NoFirm))) (a_Unbalanced : PySem.W.nsIn K mainGlobals "Unbalanced" = some (some (.ref C_Unbalanced))) (xs_NoFirm : xclsIn K C_NoFirm = true) (xga_NoFirm : PySem.W.findIn K (.ref C_NoFirm) "__getattribute__" = some (some (.builtin "BaseException.__getattribute__"))) (xgh_NoFirm : PySem.W.findIn K (.ref C_NoFirm) "__getattr__" = some (none)) (xsa_NoFirm : PySem.W.findIn K (.ref C_NoFirm) "__setattr__" = some (some (.builtin "object.__setattr__"))) (xcl_NoFirm : PySem.W.findIn K (.ref C_NoFirm) "__class__" = some (some (.builtin "object.__class__"))) (xs_Unbalanced : xclsIn K C_Unbalanced = true) (xga_Unbalanced : PySem.W.findIn K (.ref C_Unbalanced) "__getattribute__" = some (some (.builtin "BaseException.__getattribute__"))) (xgh_Unbalanced : PySem.W.findIn K (.ref C_Unbalanced) "__getattr__" = some (none)) (xsa_Unbalanced : PySem.W.findIn K (.ref C_Unbalanced) "__setattr__" = some (some (.builtin "object.__setattr__"))) (xcl_Unbalanced : PySem.W.findIn K (.ref C_Unbalanced) "__class__" = some (some (.builtin "object.__class__"))) (nz_list : PySem.W.nsIn K mainGlobals "list" = some none) (nz_sorted : PySem.W.nsIn K mainGlobals "sorted" = some none) (nz_sum : PySem.W.nsIn K mainGlobals "sum" = some none) (nz_tuple : PySem.W.nsIn K mainGlobals "tuple" = some none) (nz_len : PySem.W.nsIn K mainGlobals "len" = some none) (nz_enumerate : PySem.W.nsIn K mainGlobals "enumerate" = some none) (nz_isinstance : PySem.W.nsIn K mainGlobals "isinstance" = some none) (nz_int : PySem.W.nsIn K mainGlobals "int" = some none) (nz_bool : PySem.W.nsIn K mainGlobals "bool" = some none) (nz_range : PySem.W.nsIn K mainGlobals "range" = some none) (nz_ValueError : PySem.W.nsIn K mainGlobals "ValueError" = some none) (nz_max : PySem.W.nsIn K mainGlobals "max" = some none) (q_ib : PySem.W.kitOne K (.type "int") (.type "bool") = some false) (q_nn : PySem.W.exmOne K (.ref C_NoFirm) (.ref C_NoFirm) = some true) (q_un : PySem.W.exmOne K (.ref C_Unbalanced) (.ref C_NoFirm) = some false) (q_uu : PySem.W.exmOne K (.ref C_Unbalanced) (.ref C_Unbalanced) = some true) (q_mNoFirm : PySem.W.exmOne K (.ref C_NoFirm) (.ref C_BooksError) = some true) (q_mUnbalanced : PySem.W.exmOne K (.ref C_Unbalanced) (.ref C_BooksError) = some true) (q_vNoFirm : PySem.W.kitOne K (.ref C_NoFirm) (.type "ValueError") = some true) (q_kNoFirmClosed : PySem.W.kitOne K (.ref C_NoFirm) (.ref C_Closed) = some false) (q_kNoFirmNoFirm : PySem.W.kitOne K (.ref C_NoFirm) (.ref C_NoFirm) = some true) (q_kNoFirmUnbalanced : PySem.W.kitOne K (.ref C_NoFirm) (.ref C_Unbalanced) = some false) (q_vUnbalanced : PySem.W.kitOne K (.ref C_Unbalanced) (.type "ValueError") = some true) (q_kUnbalancedClosed : PySem.W.kitOne K (.ref C_Unbalanced) (.ref C_Closed) = some false) (q_kUnbalancedNoFirm : PySem.W.kitOne K (.ref C_Unbalanced) (.ref C_NoFirm) = some false) (q_kUnbalancedUnbalanced : PySem.W.kitOne K (.ref C_Unbalanced) (.ref C_Unbalanced) = some true) (pg_Book : PySem.W.plainGet K C_Book Str.empty = true) (hd_Book : PySem.W.hasDictIn K C_Book = true) (po_Book : PySem.W.plainOver K C_Book = true) (sa_Book : PySem.W.findIn K (.ref C_Book) "__setattr__" = some (some (.builtin "object.__setattr__"))) (mk_Book : PySem.W.makesIn K C_Book = true) (kc_Book : PySem.W.keepIn K (.ref C_Book) = true) (n_NoFirmname : PySem.W.findIn K (.ref C_NoFirm) "name" = some none) (n_Unbalancedbook : PySem.W.findIn K (.ref C_Unbalanced) "book" = some none) (n_Unbalancedcoin : PySem.W.findIn K (.ref C_Unbalanced) "coin" = some none) (n_Unbalancedrest : PySem.W.findIn K (.ref C_Unbalanced) "rest" = some none) (n_bbook : PySem.W.findIn K (.ref C_Book) "book" = some none) (n_bkept : PySem.W.findIn K (.ref C_Book) "kept" = some none) (a_rests_of : PySem.W.nsIn K mainGlobals "rests_of" = some (some (.ref f_rests_of))) (l_rests_of : K.lookup f_rests_of = some ⟨oc_rests_of, od_rests_of, .func (PySem.W.fnOf "rests_of" "rests_of" (defArgs s_rests_of) (defBody s_rests_of) (defScope s_rests_of) .none kV_rests_of dc_rests_of pm_rests_of an_rests_of cd_rests_of ct_rests_of), sl_rests_of⟩) (c_rests_of : PySem.W.codeIn K cd_rests_of "rests_of" = true) (k_rests_of : PySem.W.keepIn K (.ref f_rests_of) = true) (a_month_of : PySem.W.nsIn K mainGlobals "month_of" = some (some (.ref f_month_of))) (l_month_of : K.lookup f_month_of = some ⟨oc_month_of, od_month_of, .func (PySem.W.fnOf "month_of" "month_of" (defArgs s_month_of) (defBody s_month_of) (defScope s_month_of) .none kV_month_of dc_month_of pm_month_of an_month_of cd_month_of ct_month_of), sl_month_of⟩) (c_month_of : PySem.W.codeIn K cd_month_of "month_of" = true) (k_month_of : PySem.W.keepIn K (.ref f_month_of) = true) (a_put_together : PySem.W.nsIn K mainGlobals "put_together" = some (some (.ref f_put_together))) (l_put_together : K.lookup f_put_together = some ⟨oc_put_together, od_put_together, .func (PySem.W.fnOf "put_together" "put_together" (defArgs s_put_together) (defBody s_put_together) (defScope s_put_together) .none kV_put_together dc_put_together pm_put_together an_put_together cd_put_together ct_put_together), sl_put_together⟩) (c_put_together : PySem.W.codeIn K cd_put_together "put_together" = true) (k_put_together : PySem.W.keepIn K (.ref f_put_together) = true) (a_figures_of : PySem.W.nsIn K mainGlobals "figures_of" = some (some (.ref f_figures_of))) (l_figures_of : K.lookup f_figures_of = some ⟨oc_figures_of, od_figures_of, .func (PySem.W.fnOf "figures_of" "figures_of" (defArgs s_figures_of) (defBody s_figures_of) (defScope s_figures_of) .none kV_figures_of dc_figures_of pm_figures_of an_figures_of cd_figures_of ct_figures_of), sl_figures_of⟩) (c_figures_of : PySem.W.codeIn K cd_figures_of "figures_of" = true) (k_figures_of : PySem.W.keepIn K (.ref f_figures_of) = true) (at_NoFirm__init__ : PySem.W.findIn K (.ref C_NoFirm) "__init__" = some (some (.ref f_NoFirm__init__))) (fn_NoFirm__init__ : PySem.W.isFn K (.ref f_NoFirm__init__) = true) (l_NoFirm__init__ : K.lookup f_NoFirm__init__ = some ⟨oc_NoFirm__init__, od_NoFirm__init__, .func (PySem.W.fnOf "__init__" "NoFirm.__init__" (defArgs s_NoFirm__init__) (defBody s_NoFirm__init__) (defScope s_NoFirm__init__) .none kV_NoFirm__init__ dc_NoFirm__init__ pm_NoFirm__init__ an_NoFirm__init__ cd_NoFirm__init__ ct_NoFirm__init__), sl_NoFirm__init__⟩) (c_NoFirm__init__ : PySem.W.codeIn K cd_NoFirm__init__ "NoFirm.__init__" = true) (k_NoFirm__init__ : PySem.W.keepIn K (.ref f_NoFirm__init__) = true) (at_Unbalanced__init__ : PySem.W.findIn K (.ref C_Unbalanced) "__init__" = some (some (.ref f_Unbalanced__init__))) (fn_Unbalanced__init__ : PySem.W.isFn K (.ref f_Unbalanced__init__) = true) (l_Unbalanced__init__ : K.lookup f_Unbalanced__init__ = some ⟨oc_Unbalanced__init__, od_Unbalanced__init__, .func (PySem.W.fnOf "__init__" "Unbalanced.__init__" (defArgs s_Unbalanced__init__) (defBody s_Unbalanced__init__) (defScope s_Unbalanced__init__) .none kV_Unbalanced__init__ dc_Unbalanced__init__ pm_Unbalanced__init__ an_Unbalanced__init__ cd_Unbalanced__init__ ct_Unbalanced__init__), sl_Unbalanced__init__⟩) (c_Unbalanced__init__ : PySem.W.codeIn K cd_Unbalanced__init__ "Unbalanced.__init__" = true) (k_Unbalanced__init__ : PySem.W.keepIn K (.ref f_Unbalanced__init__) = true) (a_check_entry : PySem.W.nsIn K mainGlobals "check_entry" = some (some (.ref f_check_entry))) (l_check_entry : K.lookup f_check_entry = some ⟨oc_check_entry, od_check_entry, .func (PySem.W.fnOf "check_entry" "check_entry" (defArgs s_check_entry) (defBody s_check_entry) (defScope s_check_entry) .none kV_check_entry dc_check_entry pm_check_entry an_check_entry cd_check_entry ct_check_entry), sl_check_entry⟩) (c_check_entry : PySem.W.codeIn K cd_check_entry "check_entry" = true) (k_check_entry : PySem.W.keepIn K (.ref f_check_entry) = true) (at_Book___init__ : PySem.W.findIn K (.ref C_Book) "__init__" = some (some (.ref f_Book___init__))) (fn_Book___init__ : PySem.W.isFn K (.ref f_Book___init__) = true) (l_Book___init__ : K.lookup f_Book___init__ = some ⟨oc_Book___init__, od_Book___init__, .func (PySem.W.fnOf "__init__" "Book.__init__" (defArgs s_Book___init__) (defBody s_Book___init__) (defScope s_Book___init__) .none kV_Book___init__ dc_Book___init__ pm_Book___init__ an_Book___init__ cd_Book___init__ ct_Book___init__), sl_Book___init__⟩) (c_Book___init__ : PySem.W.codeIn K cd_Book___init__ "Book.__init__" = true) (k_Book___init__ : PySem.W.keepIn K (.ref f_Book___init__) = true) (at_Book_may_enter : PySem.W.findIn K (.ref C_Book) "may_enter" = some (some (.ref f_Book_may_enter))) (fn_Book_may_enter : PySem.W.isFn K (.ref f_Book_may_enter) = true) (l_Book_may_enter : K.lookup f_Book_may_enter = some ⟨oc_Book_may_enter, od_Book_may_enter, .func (PySem.W.fnOf "may_enter" "Book.may_enter" (defArgs s_Book_may_enter) (defBody s_Book_may_enter) (defScope s_Book_may_enter) .none kV_Book_may_enter dc_Book_may_enter pm_Book_may_enter an_Book_may_enter cd_Book_may_enter ct_Book_may_enter), sl_Book_may_enter⟩) (c_Book_may_enter : PySem.W.codeIn K cd_Book_may_enter "Book.may_enter" = true) (k_Book_may_enter : PySem.W.keepIn K (.ref f_Book_may_enter) = true) (at_Book_post : PySem.W.findIn K (.ref C_Book) "post" = some (some (.ref f_Book_post))) (fn_Book_post : PySem.W.isFn K (.ref f_Book_post) = true) (l_Book_post : K.lookup f_Book_post = some ⟨oc_Book_post, od_Book_post, .func (PySem.W.fnOf "post" "Book.post" (defArgs s_Book_post) (defBody s_Book_post) (defScope s_Book_post) .none kV_Book_post dc_Book_post pm_Book_post an_Book_post cd_Book_post ct_Book_post), sl_Book_post⟩) (c_Book_post : PySem.W.codeIn K cd_Book_post "Book.post" = true) (k_Book_post : PySem.W.keepIn K (.ref f_Book_post) = true) (at_Book_entries : PySem.W.findIn K (.ref C_Book) "entries" = some (some (.ref f_Book_entries))) (fn_Book_entries : PySem.W.isFn K (.ref f_Book_entries) = true) (l_Book_entries : K.lookup f_Book_entries = some ⟨oc_Book_entries, od_Book_entries, .func (PySem.W.fnOf "entries" "Book.entries" (defArgs s_Book_entries) (defBody s_Book_entries) (defScope s_Book_entries) .none kV_Book_entries dc_Book_entries pm_Book_entries an_Book_entries cd_Book_entries ct_Book_entries), sl_Book_entries⟩) (c_Book_entries : PySem.W.codeIn K cd_Book_entries "Book.entries" = true) (k_Book_entries : PySem.W.keepIn K (.ref f_Book_entries) = true) (at_Book_spots : PySem.W.findIn K (.ref C_Book) "spots" = some (some (.ref f_Book_spots))) (fn_Book_spots : PySem.W.isFn K (.ref f_Book_spots) = true) (l_Book_spots : K.lookup f_Book_spots = some ⟨oc_Book_spots, od_Book_spots, .func (PySem.W.fnOf "spots" "Book.spots" (defArgs s_Book_spots) (defBody s_Book_spots) (defScope s_Book_spots) (.ref T_Book_spots) kV_Book_spots dc_Book_spots pm_Book_spots an_Book_spots cd_Book_spots ct_Book_spots), sl_Book_spots⟩) (c_Book_spots : PySem.W.codeIn K cd_Book_spots "Book.spots" = true) (k_Book_spots : PySem.W.keepIn K (.ref f_Book_spots) = true) (lT_Book_spots : K.lookup T_Book_spots = some ⟨.type "tuple", odT_Book_spots, .seq #[.none] nT_Book_spots, slT_Book_spots⟩) (at_Book_lines_upto : PySem.W.findIn K (.ref C_Book) "lines_upto" = some (some (.ref f_Book_lines_upto))) (fn_Book_lines_upto : PySem.W.isFn K (.ref f_Book_lines_upto) = true) (l_Book_lines_upto : K.lookup f_Book_lines_upto = some ⟨oc_Book_lines_upto, od_Book_lines_upto, .func (PySem.W.fnOf "lines_upto" "Book.lines_upto" (defArgs s_Book_lines_upto) (defBody s_Book_lines_upto) (defScope s_Book_lines_upto) (.ref T_Book_lines_upto) kV_Book_lines_upto dc_Book_lines_upto pm_Book_lines_upto an_Book_lines_upto cd_Book_lines_upto ct_Book_lines_upto), sl_Book_lines_upto⟩) (c_Book_lines_upto : PySem.W.codeIn K cd_Book_lines_upto "Book.lines_upto" = true) (k_Book_lines_upto : PySem.W.keepIn K (.ref f_Book_lines_upto) = true) (lT_Book_lines_upto : K.lookup T_Book_lines_upto = some ⟨.type "tuple", odT_Book_lines_upto, .seq #[.none] nT_Book_lines_upto, slT_Book_lines_upto⟩) (at_Book_figures : PySem.W.findIn K (.ref C_Book) "figures" = some (some (.ref f_Book_figures))) (fn_Book_figures : PySem.W.isFn K (.ref f_Book_figures) = true) (l_Book_figures : K.lookup f_Book_figures = some ⟨oc_Book_figures, od_Book_figures, .func (PySem.W.fnOf "figures" "Book.figures" (defArgs s_Book_figures) (defBody s_Book_figures) (defScope s_Book_figures) (.ref T_Book_figures) kV_Book_figures dc_Book_figures pm_Book_figures an_Book_figures cd_Book_figures ct_Book_figures), sl_Book_figures⟩) (c_Book_figures : PySem.W.codeIn K cd_Book_figures "Book.figures" = true) (k_Book_figures : PySem.W.keepIn K (.ref f_Book_figures) = true) (lT_Book_figures : K.lookup T_Book_figures = some ⟨.type "tuple", odT_Book_figures, .seq #[.none] nT_Book_figures, slT_Book_figures⟩) (a__law_cell_at : PySem.W.nsIn K mainGlobals "_law_cell_at" = some (some (.ref f__law_cell_at))) (l__law_cell_at : K.lookup f__law_cell_at = some ⟨oc__law_cell_at, od__law_cell_at, .func (PySem.W.fnOf "_law_cell_at" "_law_cell_at" (defArgs s__law_cell_at) (defBody s__law_cell_at) (defScope s__law_cell_at) .none kV__law_cell_at dc__law_cell_at pm__law_cell_at an__law_cell_at cd__law_cell_at ct__law_cell_at), sl__law_cell_at⟩) (c__law_cell_at : PySem.W.codeIn K cd__law_cell_at "_law_cell_at" = true) (k__law_cell_at : PySem.W.keepIn K (.ref f__law_cell_at) = true) (a__law_whole : PySem.W.nsIn K mainGlobals "_law_whole" = some (some (.ref f__law_whole))) (l__law_whole : K.lookup f__law_whole = some ⟨oc__law_whole, od__law_whole, .func (PySem.W.fnOf "_law_whole" "_law_whole" (defArgs s__law_whole) (defBody s__law_whole) (defScope s__law_whole) .none kV__law_whole dc__law_whole pm__law_whole an__law_whole cd__law_whole ct__law_whole), sl__law_whole⟩) (c__law_whole : PySem.W.codeIn K cd__law_whole "_law_whole" = true) (k__law_whole : PySem.W.keepIn K (.ref f__law_whole) = true) (a__law_mix : PySem.W.nsIn K mainGlobals "_law_mix" = some (some (.ref f__law_mix))) (l__law_mix : K.lookup f__law_mix = some ⟨oc__law_mix, od__law_mix, .func (PySem.W.fnOf "_law_mix" "_law_mix" (defArgs s__law_mix) (defBody s__law_mix) (defScope s__law_mix) .none kV__law_mix dc__law_mix pm__law_mix an__law_mix cd__law_mix ct__law_mix), sl__law_mix⟩) (c__law_mix : PySem.W.codeIn K cd__law_mix "_law_mix" = true) (k__law_mix : PySem.W.keepIn K (.ref f__law_mix) = true) (a__law_names : PySem.W.nsIn K mainGlobals "_law_names" = some (some (.ref f__law_names))) (l__law_names : K.lookup f__law_names = some ⟨oc__law_names, od__law_names, .func (PySem.W.fnOf "_law_names" "_law_names" (defArgs s__law_names) (defBody s__law_names) (defScope s__law_names) .none kV__law_names dc__law_names pm__law_names an__law_names cd__law_names ct__law_names), sl__law_names⟩) (c__law_names : PySem.W.codeIn K cd__law_names "_law_names" = true) (k__law_names : PySem.W.keepIn K (.ref f__law_names) = true) (a__law_amount : PySem.W.nsIn K mainGlobals "_law_amount" = some (some (.ref f__law_amount))) (l__law_amount : K.lookup f__law_amount = some ⟨oc__law_amount, od__law_amount, .func (PySem.W.fnOf "_law_amount" "_law_amount" (defArgs s__law_amount) (defBody s__law_amount) (defScope s__law_amount) .none kV__law_amount dc__law_amount pm__law_amount an__law_amount cd__law_amount ct__law_amount), sl__law_amount⟩) (c__law_amount : PySem.W.codeIn K cd__law_amount "_law_amount" = true) (k__law_amount : PySem.W.keepIn K (.ref f__law_amount) = true) (a__law_kept : PySem.W.nsIn K mainGlobals "_law_kept" = some (some (.ref f__law_kept))) (l__law_kept : K.lookup f__law_kept = some ⟨oc__law_kept, od__law_kept, .func (PySem.W.fnOf "_law_kept" "_law_kept" (defArgs s__law_kept) (defBody s__law_kept) (defScope s__law_kept) .none kV__law_kept dc__law_kept pm__law_kept an__law_kept cd__law_kept ct__law_kept), sl__law_kept⟩) (c__law_kept : PySem.W.codeIn K cd__law_kept "_law_kept" = true) (k__law_kept : PySem.W.keepIn K (.ref f__law_kept) = true) (a__law_due : PySem.W.nsIn K mainGlobals "_law_due" = some (some (.ref f__law_due))) (l__law_due : K.lookup f__law_due = some ⟨oc__law_due, od__law_due, .func (PySem.W.fnOf "_law_due" "_law_due" (defArgs s__law_due) (defBody s__law_due) (defScope s__law_due) .none kV__law_due dc__law_due pm__law_due an__law_due cd__law_due ct__law_due), sl__law_due⟩) (c__law_due : PySem.W.codeIn K cd__law_due "_law_due" = true) (k__law_due : PySem.W.keepIn K (.ref f__law_due) = true) (a__law_lines : PySem.W.nsIn K mainGlobals "_law_lines" = some (some (.ref f__law_lines))) (l__law_lines : K.lookup f__law_lines = some ⟨oc__law_lines, od__law_lines, .func (PySem.W.fnOf "_law_lines" "_law_lines" (defArgs s__law_lines) (defBody s__law_lines) (defScope s__law_lines) .none kV__law_lines dc__law_lines pm__law_lines an__law_lines cd__law_lines ct__law_lines), sl__law_lines⟩) (c__law_lines : PySem.W.codeIn K cd__law_lines "_law_lines" = true) (k__law_lines : PySem.W.keepIn K (.ref f__law_lines) = true) (a__law_spoilt : PySem.W.nsIn K mainGlobals "_law_spoilt" = some (some (.ref f__law_spoilt))) (l__law_spoilt : K.lookup f__law_spoilt = some ⟨oc__law_spoilt, od__law_spoilt, .func (PySem.W.fnOf "_law_spoilt" "_law_spoilt" (defArgs s__law_spoilt) (defBody s__law_spoilt) (defScope s__law_spoilt) .none kV__law_spoilt dc__law_spoilt pm__law_spoilt an__law_spoilt cd__law_spoilt ct__law_spoilt), sl__law_spoilt⟩) (c__law_spoilt : PySem.W.codeIn K cd__law_spoilt "_law_spoilt" = true) (k__law_spoilt : PySem.W.keepIn K (.ref f__law_spoilt) = true) (a__law_refused : PySem.W.nsIn K mainGlobals "_law_refused" = some (some (.ref f__law_refused))) (l__law_refused : K.lookup f__law_refused = some ⟨oc__law_refused, od__law_refused, .func (PySem.W.fnOf "_law_refused" "_law_refused" (defArgs s__law_refused) (defBody s__law_refused) (defScope s__law_refused) .none kV__law_refused dc__law_refused pm__law_refused an__law_refused cd__law_refused ct__law_refused), sl__law_refused⟩) (c__law_refused : PySem.W.codeIn K cd__law_refused "_law_refused" = true) (k__law_refused : PySem.W.keepIn K (.ref f__law_refused) = true) (a__law_by_base : PySem.W.nsIn K mainGlobals "_law_by_base" = some (some (.ref f__law_by_base))) (l__law_by_base : K.lookup f__law_by_base = some ⟨oc__law_by_base, od__law_by_base, .func (PySem.W.fnOf "_law_by_base" "_law_by_base" (defArgs s__law_by_base) (defBody s__law_by_base) (defScope s__law_by_base) .none kV__law_by_base dc__law_by_base pm__law_by_base an__law_by_base cd__law_by_base ct__law_by_base), sl__law_by_base⟩) (c__law_by_base : PySem.W.codeIn K cd__law_by_base "_law_by_base" = true) (k__law_by_base : PySem.W.keepIn K (.ref f__law_by_base) = true) (a__law_entered : PySem.W.nsIn K mainGlobals "_law_entered" = some (some (.ref f__law_entered))) (l__law_entered : K.lookup f__law_entered = some ⟨oc__law_entered, od__law_entered, .func (PySem.W.fnOf "_law_entered" "_law_entered" (defArgs s__law_entered) (defBody s__law_entered) (defScope s__law_entered) .none kV__law_entered dc__law_entered pm__law_entered an__law_entered cd__law_entered ct__law_entered), sl__law_entered⟩) (c__law_entered : PySem.W.codeIn K cd__law_entered "_law_entered" = true) (k__law_entered : PySem.W.keepIn K (.ref f__law_entered) = true) (a__law_spots : PySem.W.nsIn K mainGlobals "_law_spots" = some (some (.ref f__law_spots))) (l__law_spots : K.lookup f__law_spots = some ⟨oc__law_spots, od__law_spots, .func (PySem.W.fnOf "_law_spots" "_law_spots" (defArgs s__law_spots) (defBody s__law_spots) (defScope s__law_spots) .none kV__law_spots dc__law_spots pm__law_spots an__law_spots cd__law_spots ct__law_spots), sl__law_spots⟩) (c__law_spots : PySem.W.codeIn K cd__law_spots "_law_spots" = true) (k__law_spots : PySem.W.keepIn K (.ref f__law_spots) = true) (a__law_asked : PySem.W.nsIn K mainGlobals "_law_asked" = some (some (.ref f__law_asked))) (l__law_asked : K.lookup f__law_asked = some ⟨oc__law_asked, od__law_asked, .func (PySem.W.fnOf "_law_asked" "_law_asked" (defArgs s__law_asked) (defBody s__law_asked) (defScope s__law_asked) .none kV__law_asked dc__law_asked pm__law_asked an__law_asked cd__law_asked ct__law_asked), sl__law_asked⟩) (c__law_asked : PySem.W.codeIn K cd__law_asked "_law_asked" = true) (k__law_asked : PySem.W.keepIn K (.ref f__law_asked) = true) (a__law_look : PySem.W.nsIn K mainGlobals "_law_look" = some (some (.ref f__law_look))) (l__law_look : K.lookup f__law_look = some ⟨oc__law_look, od__law_look, .func (PySem.W.fnOf "_law_look" "_law_look" (defArgs s__law_look) (defBody s__law_look) (defScope s__law_look) .none kV__law_look dc__law_look pm__law_look an__law_look cd__law_look ct__law_look), sl__law_look⟩) (c__law_look : PySem.W.codeIn K cd__law_look "_law_look" = true) (k__law_look : PySem.W.keepIn K (.ref f__law_look) = true) (a_law : PySem.W.nsIn K mainGlobals "law" = some (some (.ref f_law))) (l_law : K.lookup f_law = some ⟨oc_law, od_law, .func (PySem.W.fnOf "law" "law" (defArgs s_law) (defBody s_law) (defScope s_law) .none kV_law dc_law pm_law an_law cd_law ct_law), sl_law⟩) (c_law : PySem.W.codeIn K cd_law "law" = true) (k_law : PySem.W.keepIn K (.ref f_law) = true) :
   ∃ fd : FuncData, (∀ (s : Shared) (v : Value), BindsTo s fd ⟨[v], []⟩ [("_law_script", v)]) ∧ ∀ base : Heap, K.In base → base.Ns mainGlobals mg → FnOk l.prog w K mg base CX0 true 8 fa fd ["_law_script"] (spLaw K) := by
 have e := hfa.symm.trans (PySem.W.mg_of X G a_law)
 cases e
 have m_Book := PySem.W.mg_of X G a_Book
 have m_BooksError := PySem.W.mg_of X G a_BooksError
 have m_Closed := PySem.W.mg_of X G a_Closed
 have m_NoFirm := PySem.W.mg_of X G a_NoFirm
 have m_Unbalanced := PySem.W.mg_of X G a_Unbalanced
 have X_NoFirm : XCls K C_NoFirm := ⟨xs_NoFirm, xga_NoFirm, xgh_NoFirm, xsa_NoFirm, xcl_NoFirm⟩
 have X_Unbalanced : XCls K C_Unbalanced := ⟨xs_Unbalanced, xga_Unbalanced, xgh_Unbalanced, xsa_Unbalanced, xcl_Unbalanced⟩
 have z_list := PySem.W.mg_none_of X G nz_list
 have z_sorted := PySem.W.mg_none_of X G nz_sorted
 have z_sum := PySem.W.mg_none_of X G nz_sum
 have z_tuple := PySem.W.mg_none_of X G nz_tuple
 have z_len := PySem.W.mg_none_of X G nz_len
 have z_enumerate := PySem.W.mg_none_of X G nz_enumerate
 have z_isinstance := PySem.W.mg_none_of X G nz_isinstance
 have z_int := PySem.W.mg_none_of X G nz_int
 have z_bool := PySem.W.mg_none_of X G nz_bool
 have z_range := PySem.W.mg_none_of X G nz_range
 have z_ValueError := PySem.W.mg_none_of X G nz_ValueError
 have z_max := PySem.W.mg_none_of X G nz_max
 have cl_Book : Cls K C_Book := ⟨pg_Book, hd_Book, po_Book, sa_Book⟩
 refine ⟨PySem.W.fnOf "law" "law" (defArgs s_law) (defBody s_law) (defScope s_law) .none kV_law dc_law pm_law an_law cd_law ct_law, fun s v => .of_eq rfl, fun base _ _ => ?_⟩
 have q_rests_of := ok_rests_of (P := l.prog) (w := w) (base := base) ⟨f_rests_of, _, funD_mk (st := s_rests_of) l_rests_of c_rests_of k_rests_of, PySem.W.mg_of X G a_rests_of⟩ z_list
 have q_month_of := ok_month_of (P := l.prog) (w := w) (base := base) (cm := true) ⟨f_month_of, _, funD_mk (st := s_month_of) l_month_of c_month_of k_month_of, PySem.W.mg_of X G a_month_of⟩
 have q_put_together := ok_put_together (P := l.prog) (w := w) (base := base) ⟨f_put_together, _, funD_mk (st := s_put_together) l_put_together c_put_together k_put_together, PySem.W.mg_of X G a_put_together⟩ z_sorted
 have q_figures_of := ok_figures_of (P := l.prog) (w := w) (base := base) ⟨f_figures_of, _, funD_mk (st := s_figures_of) l_figures_of c_figures_of k_figures_of, PySem.W.mg_of X G a_figures_of⟩ q_put_together
 have q_NoFirm__init__ := ok_NoFirm__init__ (P := l.prog) (w := w) (mg := mg) (base := base) X_NoFirm n_NoFirmname ⟨f_NoFirm__init__, _, funD_mk (st := s_NoFirm__init__) l_NoFirm__init__ c_NoFirm__init__ k_NoFirm__init__, at_NoFirm__init__, fn_NoFirm__init__⟩
 have q_Unbalanced__init__ := ok_Unbalanced__init__ (P := l.prog) (w := w) (mg := mg) (base := base) X_Unbalanced n_Unbalancedbook n_Unbalancedcoin n_Unbalancedrest ⟨f_Unbalanced__init__, _, funD_mk (st := s_Unbalanced__init__) l_Unbalanced__init__ c_Unbalanced__init__ k_Unbalanced__init__, at_Unbalanced__init__, fn_Unbalanced__init__⟩
 have q_check_entry := ok_check_entry (P := l.prog) (w := w) (base := base) ⟨f_check_entry, _, funD_mk (st := s_check_entry) l_check_entry c_check_entry k_check_entry, PySem.W.mg_of X G a_check_entry⟩ q_NoFirm__init__ q_rests_of q_Unbalanced__init__ z_sum m_NoFirm m_Unbalanced X_NoFirm X_Unbalanced
 have q_Book___init__ := ok_Book___init__ (P := l.prog) (w := w) (mg := mg) (base := base) (cm := true) ⟨f_Book___init__, _, funD_mk (st := s_Book___init__) l_Book___init__ c_Book___init__ k_Book___init__, ⟨mk_Book, at_Book___init__, fn_Book___init__, kc_Book⟩⟩ cl_Book n_bbook n_bkept
 have q_Book_may_enter := ok_Book_may_enter (P := l.prog) (w := w) (mg := mg) (base := base) (cm := true) ⟨f_Book_may_enter, _, funD_mk (st := s_Book_may_enter) l_Book_may_enter c_Book_may_enter k_Book_may_enter, ⟨at_Book_may_enter, fn_Book_may_enter, k_Book_may_enter⟩⟩
 have q_Book_post := ok_Book_post (P := l.prog) (w := w) (mg := mg) (base := base) ⟨f_Book_post, _, funD_mk (st := s_Book_post) l_Book_post c_Book_post k_Book_post, ⟨at_Book_post, fn_Book_post, k_Book_post⟩⟩ q_Book_may_enter q_check_entry z_tuple z_len cl_Book n_bbook n_bkept
 have q_Book_entries := ok_Book_entries (P := l.prog) (w := w) (mg := mg) (base := base) ⟨f_Book_entries, _, funD_mk (st := s_Book_entries) l_Book_entries c_Book_entries k_Book_entries, ⟨at_Book_entries, fn_Book_entries, k_Book_entries⟩⟩ z_list cl_Book n_bbook n_bkept
 have q_Book_spots := ok_Book_spots (P := l.prog) (w := w) (mg := mg) (base := base) ⟨f_Book_spots, _, funD_mk (st := s_Book_spots) l_Book_spots c_Book_spots k_Book_spots, ⟨at_Book_spots, fn_Book_spots, k_Book_spots⟩⟩ lT_Book_spots q_month_of z_enumerate cl_Book n_bbook n_bkept
 have q_Book_lines_upto := ok_Book_lines_upto (P := l.prog) (w := w) (mg := mg) (base := base) ⟨f_Book_lines_upto, _, funD_mk (st := s_Book_lines_upto) l_Book_lines_upto c_Book_lines_upto k_Book_lines_upto, ⟨at_Book_lines_upto, fn_Book_lines_upto, k_Book_lines_upto⟩⟩ lT_Book_lines_upto q_Book_spots cl_Book n_bbook n_bkept
 have q_Book_figures := ok_Book_figures (P := l.prog) (w := w) (mg := mg) (base := base) ⟨f_Book_figures, _, funD_mk (st := s_Book_figures) l_Book_figures c_Book_figures k_Book_figures, ⟨at_Book_figures, fn_Book_figures, k_Book_figures⟩⟩ lT_Book_figures q_figures_of q_Book_lines_upto cl_Book n_bbook n_bkept
 have q__law_cell_at := ok__law_cell_at (P := l.prog) (w := w) (base := base) (cm := true) ⟨f__law_cell_at, _, funD_mk (st := s__law_cell_at) l__law_cell_at c__law_cell_at k__law_cell_at, PySem.W.mg_of X G a__law_cell_at⟩ z_len
 have q__law_whole := ok__law_whole (P := l.prog) (w := w) (base := base) (cm := true) ⟨f__law_whole, _, funD_mk (st := s__law_whole) l__law_whole c__law_whole k__law_whole, PySem.W.mg_of X G a__law_whole⟩ z_isinstance z_int z_bool q_ib
 have q__law_mix := ok__law_mix (P := l.prog) (w := w) (base := base) (cm := true) ⟨f__law_mix, _, funD_mk (st := s__law_mix) l__law_mix c__law_mix k__law_mix, PySem.W.mg_of X G a__law_mix⟩
 have q__law_names := ok__law_names (P := l.prog) (w := w) (base := base) ⟨f__law_names, _, funD_mk (st := s__law_names) l__law_names c__law_names k__law_names, PySem.W.mg_of X G a__law_names⟩ z_range z_int
 have q__law_amount := ok__law_amount (P := l.prog) (w := w) (base := base) (cm := true) ⟨f__law_amount, _, funD_mk (st := s__law_amount) l__law_amount c__law_amount k__law_amount, PySem.W.mg_of X G a__law_amount⟩
 have q__law_kept := ok__law_kept (P := l.prog) (w := w) (base := base) ⟨f__law_kept, _, funD_mk (st := s__law_kept) l__law_kept c__law_kept k__law_kept, PySem.W.mg_of X G a__law_kept⟩ z_sorted
 have q__law_due := ok__law_due (P := l.prog) (w := w) (base := base) ⟨f__law_due, _, funD_mk (st := s__law_due) l__law_due c__law_due k__law_due, PySem.W.mg_of X G a__law_due⟩ z_sum
 have q__law_lines := ok__law_lines (P := l.prog) (w := w) (base := base) ⟨f__law_lines, _, funD_mk (st := s__law_lines) l__law_lines c__law_lines k__law_lines, PySem.W.mg_of X G a__law_lines⟩ q__law_amount q__law_mix
 have q__law_spoilt := ok__law_spoilt (P := l.prog) (w := w) (base := base) ⟨f__law_spoilt, _, funD_mk (st := s__law_spoilt) l__law_spoilt c__law_spoilt k__law_spoilt, PySem.W.mg_of X G a__law_spoilt⟩ q__law_mix z_list z_len
 have q__law_refused := ok__law_refused (P := l.prog) (w := w) (base := base) ⟨f__law_refused, _, funD_mk (st := s__law_refused) l__law_refused c__law_refused k__law_refused, PySem.W.mg_of X G a__law_refused⟩ q_Book_post m_NoFirm m_Unbalanced q_nn q_un q_uu X_NoFirm X_Unbalanced n_NoFirmname n_Unbalancedbook n_Unbalancedcoin n_Unbalancedrest cl_Book
 have q__law_by_base := ok__law_by_base (P := l.prog) (w := w) (base := base) ⟨f__law_by_base, _, funD_mk (st := s__law_by_base) l__law_by_base c__law_by_base k__law_by_base, PySem.W.mg_of X G a__law_by_base⟩ q_Book_post z_isinstance z_ValueError m_BooksError m_Closed m_NoFirm m_Unbalanced q_mNoFirm q_mUnbalanced q_vNoFirm q_kNoFirmClosed q_kNoFirmNoFirm q_kNoFirmUnbalanced q_vUnbalanced q_kUnbalancedClosed q_kUnbalancedNoFirm q_kUnbalancedUnbalanced X_NoFirm X_Unbalanced cl_Book
 have q__law_entered := ok__law_entered (P := l.prog) (w := w) (base := base) ⟨f__law_entered, _, funD_mk (st := s__law_entered) l__law_entered c__law_entered k__law_entered, PySem.W.mg_of X G a__law_entered⟩ q__law_due q__law_refused q__law_by_base q_Book_post q__law_whole z_list z_len cl_Book
 have q__law_spots := ok__law_spots (P := l.prog) (w := w) (base := base) ⟨f__law_spots, _, funD_mk (st := s__law_spots) l__law_spots c__law_spots k__law_spots, PySem.W.mg_of X G a__law_spots⟩ z_range z_len
 have q__law_asked := ok__law_asked (P := l.prog) (w := w) (base := base) ⟨f__law_asked, _, funD_mk (st := s__law_asked) l__law_asked c__law_asked k__law_asked, PySem.W.mg_of X G a__law_asked⟩ q__law_spots q_Book_entries q_Book_spots q_Book_lines_upto q_Book_figures q__law_kept z_list z_isinstance z_tuple cl_Book
 have q__law_look := ok__law_look (P := l.prog) (w := w) (base := base) ⟨f__law_look, _, funD_mk (st := s__law_look) l__law_look c__law_look k__law_look, PySem.W.mg_of X G a__law_look⟩ q__law_asked q_Book_entries q_Book_spots q_Book_lines_upto q_Book_figures z_len z_max z_range cl_Book
 exact ok_law (P := l.prog) (w := w) (base := base) (funD_mk (st := s_law) l_law c_law k_law) q__law_names q__law_cell_at q_Book___init__ q__law_mix q__law_lines q__law_spoilt q__law_entered q__law_look q_Book_may_enter q_month_of z_range z_len m_Book cl_Book n_bbook n_bkept
theorem walk {l : PySem.W.OpenLaw} {q : Program} {loose : List Str} {XP : (Str → Option Value) → Heap → Prop} {YP : World → Heap → Prop} {d : DefRec} {K : Params → PySem.W.Frag} (hn : l.most = some 63) (hdf : d.params.defaults = [])
   (hY : ∀ (w : World) (h : Heap), YP w h → (K w.params).In h)
   (F : ∀ (w : World) (mg : Str → Option Value) (fa : Addr) (h : Heap), (K w.params).In h → h.Ns mainGlobals mg → mg d.name = some (.ref fa) →
     ∃ fd : FuncData, (∀ (s : Shared) (u : Value), BindsTo s fd ⟨[u], []⟩ [("_law_script", u)]) ∧ ∀ base : Heap, (K w.params).In base → base.Ns mainGlobals mg → FnOk l.prog w (K w.params) mg base CX0 true 8 fa fd ["_law_script"] (spLaw (K w.params))) :
   PySem.W.WalkO q loose XP YP l.row.toRowW d [] (fun f vs => PySem.call f vs) :=
 L2.walk_ofB (n := 63) (k := 8) (x := "_law_script") (CX := fun _ => CX0) (sp := fun w => spLaw (K w.params)) hn (by decide) hdf ⟨fun _ => rfl, by decide, by decide⟩ hY F (fun _ _ a ns hl hb _ hS => ⟨a, ns, rfl, hS, hl, hb, fun _ => rfl⟩) fun _ _ _ _ _ z => z
end K27
open PySem PySem.W PyProof.Rows
set_option maxRecDepth 100000 in
set_option maxHeartbeats 0 in
theorem PySem.Challenge.cw_groupbooks_k27_a_book_holds : PySem.Challenge.rw_groupbooks_k27_a_book.Holds := by
 refine K27.headTop ?_
 k_fill
 refine K27.walk (l := PySem.Challenge.rw_groupbooks_k27_a_book) rfl rfl (fun w h Y => PySem.W.kIn_of Y) ?F
 case F =>
   intro w mg fa h KX G hmg
   refine' K27.all_mk KX G hmg ?a_Book ?a_BooksError ?a_Closed ?a_NoFirm ?a_Unbalanced ?xs_NoFirm ?xga_NoFirm ?xgh_NoFirm ?xsa_NoFirm ?xcl_NoFirm ?xs_Unbalanced ?xga_Unbalanced ?xgh_Unbalanced ?xsa_Unbalanced ?xcl_Unbalanced ?nz_list ?nz_sorted ?nz_sum ?nz_tuple ?nz_len ?nz_enumerate ?nz_isinstance ?nz_int ?nz_bool ?nz_range ?nz_ValueError ?nz_max ?q_ib ?q_nn ?q_un ?q_uu ?q_mNoFirm ?q_mUnbalanced ?q_vNoFirm ?q_kNoFirmClosed ?q_kNoFirmNoFirm ?q_kNoFirmUnbalanced ?q_vUnbalanced ?q_kUnbalancedClosed ?q_kUnbalancedNoFirm ?q_kUnbalancedUnbalanced ?pg_Book ?hd_Book ?po_Book ?sa_Book ?mk_Book ?kc_Book ?n_NoFirmname ?n_Unbalancedbook ?n_Unbalancedcoin ?n_Unbalancedrest ?n_bbook ?n_bkept ?a_rests_of ?l_rests_of ?c_rests_of ?k_rests_of ?a_month_of ?l_month_of ?c_month_of ?k_month_of ?a_put_together ?l_put_together ?c_put_together ?k_put_together ?a_figures_of ?l_figures_of ?c_figures_of ?k_figures_of ?at_NoFirm__init__ ?fn_NoFirm__init__ ?l_NoFirm__init__ ?c_NoFirm__init__ ?k_NoFirm__init__ ?at_Unbalanced__init__ ?fn_Unbalanced__init__ ?l_Unbalanced__init__ ?c_Unbalanced__init__ ?k_Unbalanced__init__ ?a_check_entry ?l_check_entry ?c_check_entry ?k_check_entry ?at_Book___init__ ?fn_Book___init__ ?l_Book___init__ ?c_Book___init__ ?k_Book___init__ ?at_Book_may_enter ?fn_Book_may_enter ?l_Book_may_enter ?c_Book_may_enter ?k_Book_may_enter ?at_Book_post ?fn_Book_post ?l_Book_post ?c_Book_post ?k_Book_post ?at_Book_entries ?fn_Book_entries ?l_Book_entries ?c_Book_entries ?k_Book_entries ?at_Book_spots ?fn_Book_spots ?l_Book_spots ?c_Book_spots ?k_Book_spots ?lT_Book_spots ?at_Book_lines_upto ?fn_Book_lines_upto ?l_Book_lines_upto ?c_Book_lines_upto ?k_Book_lines_upto ?lT_Book_lines_upto ?at_Book_figures ?fn_Book_figures ?l_Book_figures ?c_Book_figures ?k_Book_figures ?lT_Book_figures ?a__law_cell_at ?l__law_cell_at ?c__law_cell_at ?k__law_cell_at ?a__law_whole ?l__law_whole ?c__law_whole ?k__law_whole ?a__law_mix ?l__law_mix ?c__law_mix ?k__law_mix ?a__law_names ?l__law_names ?c__law_names ?k__law_names ?a__law_amount ?l__law_amount ?c__law_amount ?k__law_amount ?a__law_kept ?l__law_kept ?c__law_kept ?k__law_kept ?a__law_due ?l__law_due ?c__law_due ?k__law_due ?a__law_lines ?l__law_lines ?c__law_lines ?k__law_lines ?a__law_spoilt ?l__law_spoilt ?c__law_spoilt ?k__law_spoilt ?a__law_refused ?l__law_refused ?c__law_refused ?k__law_refused ?a__law_by_base ?l__law_by_base ?c__law_by_base ?k__law_by_base ?a__law_entered ?l__law_entered ?c__law_entered ?k__law_entered ?a__law_spots ?l__law_spots ?c__law_spots ?k__law_spots ?a__law_asked ?l__law_asked ?c__law_asked ?k__law_asked ?a__law_look ?l__law_look ?c__law_look ?k__law_look ?a_law ?l_law ?c_law ?k_law
   (case a_Book => k_is)
   (case a_BooksError => k_is)
   (case a_Closed => k_is)
   (case a_NoFirm => k_is)
   (case a_Unbalanced => k_is)
   (case xga_NoFirm => k_is)
   (case xgh_NoFirm => k_is)
   (case xsa_NoFirm => k_is)
   (case xcl_NoFirm => k_is)
   (case xga_Unbalanced => k_is)
   (case xgh_Unbalanced => k_is)
   (case xsa_Unbalanced => k_is)
   (case xcl_Unbalanced => k_is)
   (case nz_list => k_is)
   (case nz_sorted => k_is)
   (case nz_sum => k_is)
   (case nz_tuple => k_is)
   (case nz_len => k_is)
   (case nz_enumerate => k_is)
   (case nz_isinstance => k_is)
   (case nz_int => k_is)
   (case nz_bool => k_is)
   (case nz_range => k_is)
   (case nz_ValueError => k_is)
   (case nz_max => k_is)
   (case pg_Book => k_is)
   (case hd_Book => k_is)
   (case po_Book => k_is)
   (case sa_Book => k_is)
   (case mk_Book => k_is)
   (case kc_Book => k_is)
   (case n_NoFirmname => k_is)
   (case n_Unbalancedbook => k_is)
   (case n_Unbalancedcoin => k_is)
   (case n_Unbalancedrest => k_is)
   (case n_bbook => k_is)
   (case n_bkept => k_is)
   (case a_rests_of => k_is)
   (case l_rests_of => k_is)
   (case c_rests_of => k_is)
   (case k_rests_of => k_is)
   (case a_month_of => k_is)
   (case l_month_of => k_is)
   (case c_month_of => k_is)
   (case k_month_of => k_is)
   (case a_put_together => k_is)
   (case l_put_together => k_is)
   (case c_put_together => k_is)
   (case k_put_together => k_is)
   (case a_figures_of => k_is)
   (case l_figures_of => k_is)
   (case c_figures_of => k_is)
   (case k_figures_of => k_is)
   (case at_NoFirm__init__ => k_is)
   (case fn_NoFirm__init__ => k_is)
   (case l_NoFirm__init__ => k_is)
   (case c_NoFirm__init__ => k_is)
   (case k_NoFirm__init__ => k_is)
   (case at_Unbalanced__init__ => k_is)
   (case fn_Unbalanced__init__ => k_is)
   (case l_Unbalanced__init__ => k_is)
   (case c_Unbalanced__init__ => k_is)
   (case k_Unbalanced__init__ => k_is)
   (case a_check_entry => k_is)
   (case l_check_entry => k_is)
   (case c_check_entry => k_is)
   (case k_check_entry => k_is)
   (case at_Book___init__ => k_is)
   (case fn_Book___init__ => k_is)
   (case l_Book___init__ => k_is)
   (case c_Book___init__ => k_is)
   (case k_Book___init__ => k_is)
   (case at_Book_may_enter => k_is)
   (case fn_Book_may_enter => k_is)
   (case l_Book_may_enter => k_is)
   (case c_Book_may_enter => k_is)
   (case k_Book_may_enter => k_is)
   (case at_Book_post => k_is)
   (case fn_Book_post => k_is)
   (case l_Book_post => k_is)
   (case c_Book_post => k_is)
   (case k_Book_post => k_is)
   (case at_Book_entries => k_is)
   (case fn_Book_entries => k_is)
   (case l_Book_entries => k_is)
   (case c_Book_entries => k_is)
   (case k_Book_entries => k_is)
   (case at_Book_spots => k_is)
   (case fn_Book_spots => k_is)
   (case l_Book_spots => k_is)
   (case c_Book_spots => k_is)
   (case k_Book_spots => k_is)
   (case lT_Book_spots => k_is)
   (case at_Book_lines_upto => k_is)
   (case fn_Book_lines_upto => k_is)
   (case l_Book_lines_upto => k_is)
   (case c_Book_lines_upto => k_is)
   (case k_Book_lines_upto => k_is)
   (case lT_Book_lines_upto => k_is)
   (case at_Book_figures => k_is)
   (case fn_Book_figures => k_is)
   (case l_Book_figures => k_is)
   (case c_Book_figures => k_is)
   (case k_Book_figures => k_is)
   (case lT_Book_figures => k_is)
   (case a__law_cell_at => k_is)
   (case l__law_cell_at => k_is)
   (case c__law_cell_at => k_is)
   (case k__law_cell_at => k_is)
   (case a__law_whole => k_is)
   (case l__law_whole => k_is)
   (case c__law_whole => k_is)
   (case k__law_whole => k_is)
   (case a__law_mix => k_is)
   (case l__law_mix => k_is)
   (case c__law_mix => k_is)
   (case k__law_mix => k_is)
   (case a__law_names => k_is)
   (case l__law_names => k_is)
   (case c__law_names => k_is)
   (case k__law_names => k_is)
   (case a__law_amount => k_is)
   (case l__law_amount => k_is)
   (case c__law_amount => k_is)
   (case k__law_amount => k_is)
   (case a__law_kept => k_is)
   (case l__law_kept => k_is)
   (case c__law_kept => k_is)
   (case k__law_kept => k_is)
   (case a__law_due => k_is)
   (case l__law_due => k_is)
   (case c__law_due => k_is)
   (case k__law_due => k_is)
   (case a__law_lines => k_is)
   (case l__law_lines => k_is)
   (case c__law_lines => k_is)
   (case k__law_lines => k_is)
   (case a__law_spoilt => k_is)
   (case l__law_spoilt => k_is)
   (case c__law_spoilt => k_is)
   (case k__law_spoilt => k_is)
   (case a__law_refused => k_is)
   (case l__law_refused => k_is)
   (case c__law_refused => k_is)
   (case k__law_refused => k_is)
   (case a__law_by_base => k_is)
   (case l__law_by_base => k_is)
   (case c__law_by_base => k_is)
   (case k__law_by_base => k_is)
   (case a__law_entered => k_is)
   (case l__law_entered => k_is)
   (case c__law_entered => k_is)
   (case k__law_entered => k_is)
   (case a__law_spots => k_is)
   (case l__law_spots => k_is)
   (case c__law_spots => k_is)
   (case k__law_spots => k_is)
   (case a__law_asked => k_is)
   (case l__law_asked => k_is)
   (case c__law_asked => k_is)
   (case k__law_asked => k_is)
   (case a__law_look => k_is)
   (case l__law_look => k_is)
   (case c__law_look => k_is)
   (case k__law_look => k_is)
   (case a_law => k_is)
   (case l_law => k_is)
   (case c_law => k_is)
   (case k_law => k_is)
   (case xs_NoFirm => kernel_rfl)
   (case xs_Unbalanced => kernel_rfl)
   (case q_ib => kernel_rfl)
   (case q_nn => kernel_rfl)
   (case q_un => kernel_rfl)
   (case q_uu => kernel_rfl)
   (case q_mNoFirm => kernel_rfl)
   (case q_mUnbalanced => kernel_rfl)
   (case q_vNoFirm => kernel_rfl)
   (case q_kNoFirmClosed => kernel_rfl)
   (case q_kNoFirmNoFirm => kernel_rfl)
   (case q_kNoFirmUnbalanced => kernel_rfl)
   (case q_vUnbalanced => kernel_rfl)
   (case q_kUnbalancedClosed => kernel_rfl)
   (case q_kUnbalancedNoFirm => kernel_rfl)
   (case q_kUnbalancedUnbalanced => kernel_rfl)
#print axioms PySem.Challenge.cw_groupbooks_k27_a_book_holds
