import PyProof.Rows.All
import Wide.All
import OpenK.AllK
import Wide.FinOn
import Lean
import PyProof.EqAt
import PyProof.EqKinds
import PyProof.TupleCall
import PyProof.StationsW
import PyProof.RulesAs
import PyProof.ExcClass2
import PyProof.ExcInit
import PyProof.InstStore
import PyProof.ExcBaseAll.ValueError
import PyProof.ExcArgs
import PyProof.IsiBase
import PyProof.NsDelKeeps
import PyProof.CompFree
import PyProof.CompUse
import KE.LcSums
import PyProof.Rows.SortWalk
import PyProof.DictWalks
import PyProof.Rows.MinMaxN
import PyProof.Rows.DictUnroll
import PyProof.StrBlockI
import PyProof.NeKinds
import PyProof.AutoListH
import KE.KItemsList
import KE.RegMulBits
import KE.KDictOf
import PyProof.AttrMissHeap
import KE.KDictList
import KE.KRevIter
import KE.KSortTup
import PyProof.Rows.EnumRows
import PyProof.EnumFor
import PyProof.ConsumeWalk
import PyProof.TupleOfSeq
import PyProof.Draws
import PyProof.FactsAll.set
import PyProof.DictItems
import KE.KPairComp
import PySem.Challenge.RW_groupbooks_k24_lines
set_option Elab.async false
set_option linter.all false
set_option maxRecDepth 100000
set_option maxHeartbeats 4000000
section
open PySem PySem.W PyProof.Rows
set_option maxHeartbeats 0
noncomputable def K24.runTop (p : Program) (w : World) (m : Nat) : Nat → SharedT → Thread → Option SharedT
 | 0, _, _ => none
 | k + 1, s, t => match through t with
   | true => some s
   | false => match PySem.W.Fast.tw6613529449190102663 m (some (.ref 6)) t with
     | false => none
     | true => match PySem.W.Fast.tw10156331382660048174 (PySem.W.Fast.tw11892475500146522536 treeTable) p w s t with
       | some x => K24.runTop p w m k x.1 x.2
       | none => none
theorem K24.runTop_eq (p : Program) (w : World) (m : Nat) : ∀ (k : Nat) (s s' : SharedT) (t : Thread),
   K24.runTop p w m k s t = some s' → topRun treeTable p w m (some (.ref 6)) k s.abs t = some s'.abs
 | 0, _, _, _, h => by cases h
 | k + 1, s, s', t, h => by
   unfold K24.runTop at h
   unfold topRun
   cases hT : through t with
   | true => rw [hT] at h; cases h; rfl
   | false =>
     rw [hT] at h
     dsimp only at h ⊢
     rw [← PySem.W.Fast.te6613529449190102663] at h
     cases hk : stepOk m (some (.ref 6)) t with
     | false => rw [hk] at h; exact absurd h (by simp)
     | true =>
       rw [hk] at h
       dsimp only at h ⊢
       rw [← PySem.W.Fast.te10156331382660048174, ← PySem.W.Fast.te11892475500146522536] at h
       cases hs : stepT (denote treeTable) p w s t with
       | none => rw [hs] at h; exact absurd h (by simp)
       | some x =>
         rw [hs] at h
         rw [stepT_spec (s' := x.1) (t' := x.2) hs]
         exact K24.runTop_eq p w m k _ _ _ h
noncomputable def K24.bootT (P : Params) : BT := ((boot_heap P).objs.toList.foldl (fun a o => (a.1.ins a.2 o, a.2 + 1)) (BT.nil, 0)).1
theorem K24.boot_is (P : Params) : absHeap (K24.bootT P) 11 (boot_heap P).life = boot_heap P := by kernel_rfl
theorem K24.boot_has (P : Params) : ((boot_heap P).isNs mainGlobals, (boot_heap P).objs.size, (boot_heap P).nsMap mainGlobals "__annotations__") = (true, 11, some (.ref 6)) := by kernel_rfl
theorem K24.leftAtOnce {p q : Program} {lo : List Str} {A : Shared → Bool} {β : Type} {B : Shared → β} {D : World → β} {N : Nat} {g : Bool}
   (e : opening p = plainProg p.main.scope.names) (f : ∀ s, fenceModules? p s = some s) (hN : Nat.ble 600 N = true)
   (h : ∀ (w : World) (os : OsState), (K24.runTop p w 11 N ⟨K24.bootT w.params, 11, (boot_heap w.params).life, Array.mk [], boot_drawn, boot_toks, os⟩ (topStub p)).map
     (fun s => (staticsOk (importedModules p.main.body) (boot_heap w.params) s.abs.heap && namesBound p s.abs.heap && gensDone s.abs && laidKept (boot_heap w.params) s.abs.heap,
       openSeen q lo (importedModules p.main.body) A g s.abs, B s.abs)) = some (true, openGood q lo, D w)) : LeftO p q lo A B D N g := by
 intro w
 obtain ⟨⟨hh, gs, d, k, os⟩, e1, e2⟩ := Option.map_eq_some_iff.mp (boot_open e hN f w)
 obtain ⟨rfl, rfl, rfl, rfl⟩ : hh = boot_heap w.params ∧ gs = Array.mk [] ∧ d = boot_drawn ∧ k = boot_toks := by simpa using e2
 obtain ⟨s, h1, h2⟩ := Option.map_eq_some_iff.mp (h w os)
 have h3 := K24.runTop_eq _ _ _ _ _ _ _ h1
 have h4 := K24.boot_has w.params
 simp only [Prod.mk.injEq] at h2 h4
 unfold openEnds
 rw [e1]
 change Option.map _ (topFrom treeTable p w N _) = _
 unfold topFrom
 dsimp only
 rw [h4.1, h4.2.1, h4.2.2]
 have h5 : SharedT.abs ⟨K24.bootT w.params, 11, (boot_heap w.params).life, Array.mk [], boot_drawn, boot_toks, os⟩ = ⟨boot_heap w.params, Array.mk [], boot_drawn, boot_toks, os⟩ := by
   unfold SharedT.abs
   rw [K24.boot_is]
 rw [h5] at h3
 show ((topRun treeTable p w 11 (some (.ref 6)) N _ _).bind _).map _ = _
 rw [h3]
 dsimp only [Option.bind]
 rw [h2.1]
 show some (_, _) = _
 rw [h2.2.1, h2.2.2]
def K24.sieve {α : Type} : List α → List Bool → List α
 | a :: l, b :: m => bif b then a :: sieve l m else sieve l m
 | _, _ => []
def K24.headView : Program := { PySem.Challenge.pw_groupbooks_k24_lines with main := { PySem.Challenge.pw_groupbooks_k24_lines.main with
 body := K24.sieve PySem.Challenge.pw_groupbooks_k24_lines.main.body [false, false, false, false, false, false, false, false, false, false, false, false, false, false, false, false, false, false, false, false, false, false, false, false, false, false, false, false, false, false, false, false, false, false, false, false, false, false, false, false, false, false, false, false, false, false, false, false, true] } }
set_option hygiene false in
local macro_rules | `(tactic| o_head $H) => `(tactic|
 refine holds_open (q := K24.headView) (loose := [PySem.Str.ofString "_wall", PySem.Str.ofString "BooksError", PySem.Str.ofString "NoNumber", PySem.Str.ofString "NoRate", PySem.Str.ofString "Twice", PySem.Str.ofString "Unbalanced", PySem.Str.ofString "rests_of", PySem.Str.ofString "half_rests", PySem.Str.ofString "firms_in", PySem.Str.ofString "dues_added", PySem.Str.ofString "with_dues", PySem.Str.ofString "lined_by", PySem.Str.ofString "entry_lines", PySem.Str.ofString "divisor", PySem.Str.ofString "fraction", PySem.Str.ofString "nearest", PySem.Str.ofString "Rates", PySem.Str.ofString "_law_cell_at", PySem.Str.ofString "_law_whole", PySem.Str.ofString "_law_mix", PySem.Str.ofString "_law_names", PySem.Str.ofString "_law_coins", PySem.Str.ofString "_law_amount", PySem.Str.ofString "_law_side", PySem.Str.ofString "_law_sides", PySem.Str.ofString "_law_closed", PySem.Str.ofString "_law_firms", PySem.Str.ofString "_law_rate", PySem.Str.ofString "_law_table", PySem.Str.ofString "_law_worth", PySem.Str.ofString "_law_told_coin", PySem.Str.ofString "_law_rates", PySem.Str.ofString "_law_dues", PySem.Str.ofString "_law_lines", PySem.Str.ofString "_law_told", PySem.Str.ofString "_law_lacking", PySem.Str.ofString "_law_open", PySem.Str.ofString "_law_refused", PySem.Str.ofString "_law_few", PySem.Str.ofString "_law_first", PySem.Str.ofString "_law_lacks", PySem.Str.ofString "_law_tell"]) (N := 20000)
   (Yf := Hook.obs $H) (Ya := Hook.val $H) (YP := Hook.says $H)
   (XP := XL K24.headView []) (Xt := fun s => xlAt K24.headView [] s && recOk (RowW.records (OpenRow.toRowW (OpenLaw.row PySem.Challenge.rw_groupbooks_k24_lines))) s)
   (K24.leftAtOnce (by kernel_rfl) (fun s => by kernel_rfl) rfl (fun w os => by kernel_rfl)) (Hook.of $H) (Hook.keeps $H)
   (fun s e => xl_of s (Bool.and_eq_true_iff.mp e).1)
   XL.keeps (by rfl) (by rfl) (by rfl)
   (fun s e => recFacts_of (Bool.and_eq_true_iff.mp e).2) (by rfl) (by assumption) (by decide +kernel)
   ⟨rfl, rfl, rfl, rfl, rfl, by decide +kernel⟩ ?hw ?hc)
open_top K24.headTop for PySem.Challenge.rw_groupbooks_k24_lines
end
namespace L2
open PySem PySem.Spec PyProof.Rows
abbrev Key := Sum Int Str
def keyIs : Key → Value → Bool
 | .inl k, v => Value.isInt k v
 | .inr x, v => Value.isStrOf x v
def keyH (w : World) : Key → Int
 | .inl k => hashInt k
 | .inr x => hashStr w x
theorem keyIs_shape : ∀ {k : Key} {v : Value}, keyIs k v = true → (∃ i t, k = Sum.inl i ∧ v = Value.int i t) ∨ (∃ x t, k = Sum.inr x ∧ v = Value.str x t)
 | .inl i, v, h => by
   obtain ⟨t, e⟩ := Value.isInt_shape (k := i) (v := v) h
   exact .inl ⟨i, t, rfl, e⟩
 | .inr x, v, h => by
   obtain ⟨t, e⟩ := Value.isStrOf_shape (x := x) (v := v) h
   exact .inr ⟨x, t, rfl, e⟩
theorem keyIs_int (i : Int) (t : Tok) : keyIs (.inl i) (.int i t) = true := by simp [keyIs, Value.isInt]
theorem keyIs_str (x : Str) (t : Tok) : keyIs (.inr x) (.str x t) = true := by simp [keyIs, Value.isStrOf]
theorem key_ll (a b : Int) : decide ((Sum.inl a : Key) = Sum.inl b) = (a == b) := by
 by_cases e : a = b
 · subst e; simp
 · have h : ¬ (Sum.inl a : Key) = Sum.inl b := fun q => e (Sum.inl.inj q)
   rw [decide_eq_false h]
   exact (beq_eq_false_iff_ne.mpr e).symm
theorem key_rr (a b : Str) : decide ((Sum.inr a : Key) = Sum.inr b) = decide (a = b) := by
 by_cases e : a = b
 · subst e; simp
 · have h : ¬ (Sum.inr a : Key) = Sum.inr b := fun q => e (Sum.inr.inj q)
   rw [decide_eq_false h, decide_eq_false e]
theorem key_lr (a : Int) (b : Str) : decide ((Sum.inl a : Key) = Sum.inr b) = false := decide_eq_false (fun q => nomatch q)
theorem key_rl (a : Str) (b : Int) : decide ((Sum.inr a : Key) = Sum.inl b) = false := decide_eq_false (fun q => nomatch q)
def mixKind (prog : Program) (w : World) : PySem.KeyKind prog w Key where
 is := keyIs
 hash := keyH w
 inj := fun v a b ha hb => by
   rcases keyIs_shape ha with ⟨i, t, rfl, rfl⟩ | ⟨x, t, rfl, rfl⟩
   · rcases keyIs_shape hb with ⟨j, u, rfl, e⟩ | ⟨y, u, rfl, e⟩
     · injection e with e1 _; rw [e1]
     · exact nomatch e
   · rcases keyIs_shape hb with ⟨j, u, rfl, e⟩ | ⟨y, u, rfl, e⟩
     · exact nomatch e
     · injection e with e1 _; rw [e1]
 byValue := fun k v h => by
   rcases keyIs_shape h with ⟨i, t, rfl, rfl⟩ | ⟨x, t, rfl, rfl⟩ <;> rfl
 pyHash := fun hv h => by
   rcases keyIs_shape hv with ⟨i, t, rfl, rfl⟩ | ⟨x, t, rfl, rfl⟩
   · exact wpAny_pyHash_int h
   · exact wpAny_pyHash_str h
 eqBool := fun hu hv h => by
   rcases keyIs_shape hu with ⟨i, t, rfl, rfl⟩ | ⟨x, t, rfl, rfl⟩
   · rcases keyIs_shape hv with ⟨j, u, rfl, rfl⟩ | ⟨y, u, rfl, rfl⟩
     · rw [key_ll] at h; exact wpAny_eqBool_int h
     · rw [key_lr] at h; exact SeqAt.EqAt.int_str i t y u _ _ _ _ h
   · rcases keyIs_shape hv with ⟨j, u, rfl, rfl⟩ | ⟨y, u, rfl, rfl⟩
     · rw [key_rl] at h; exact SeqAt.EqAt.str_int x t j u _ _ _ _ h
     · rw [key_rr] at h; exact wpAny_eqBool_str h
 «strs» := fun k x t v h => by
   rcases keyIs_shape h with ⟨i, u, rfl, e⟩ | ⟨y, u, rfl, e⟩
   · exact nomatch e
   · injection e with e1 _
     subst e1
     cases v <;> rfl
theorem mixKind_int (prog : Program) (w : World) (i : Int) (t : Tok) : (mixKind prog w).is (.inl i) (.int i t) = true := keyIs_int i t
theorem mixKind_str (prog : Program) (w : World) (x : Str) (t : Tok) : (mixKind prog w).is (.inr x) (.str x t) = true := keyIs_str x t
end L2
namespace L2
open PySem PySem.Spec PyProof.Rows
inductive V where
 | non | bl (b : Bool) | int (i : Int) | str (x : Str) | byt (b : Array UInt8) | flt (b : UInt64) | ref (a : Addr) | ty (n : String)
 deriving DecidableEq
def RelV : V → Value → Prop
 | .non, u => u = Value.none
 | .bl b, u => u = Value.bool b
 | .int i, u => ∃ t, u = Value.int i t
 | .str x, u => ∃ t, u = Value.str x t
 | .byt b, u => ∃ t, u = Value.bytes b t
 | .flt b, u => ∃ t, u = Value.float b t
 | .ref a, u => u = Value.ref a
 | .ty n, u => u = Value.type n
abbrev Vals : List V → List Value → Prop := Paired RelV
theorem Vals.length {xs : List V} {us : List Value} (r : Vals xs us) : xs.length = us.length := Paired.length r
theorem Vals.get : ∀ {xs : List V} {us : List Value} {i : Nat} {x : V}, Vals xs us → xs[i]? = some x → ∃ u, us[i]? = some u ∧ RelV x u
 | _, _, _, _, .nil, e => by simp at e
 | _, _, 0, _, .cons r _, e => by simp at e; subst e; exact ⟨_, rfl, r⟩
 | _, _, i + 1, x, .cons _ t, e => by
   obtain ⟨u, h1, h2⟩ := Vals.get (i := i) (x := x) t (by simpa using e)
   exact ⟨u, by simpa using h1, h2⟩
theorem Vals.set {x : V} {u : Value} (r : RelV x u) : ∀ {xs : List V} {us : List Value} (i : Nat), Vals xs us → Vals (xs.set i x) (us.set i u)
 | _, _, _, .nil => .nil
 | _, _, 0, .cons _ t => .cons r t
 | _, _, i + 1, .cons q t => .cons q (Vals.set r i t)
theorem Vals.append : ∀ {xs ys : List V} {us ws : List Value}, Vals xs us → Vals ys ws → Vals (xs ++ ys) (us ++ ws)
 | _, _, _, _, .nil, s => s
 | _, _, _, _, .cons r t, s => .cons r (Vals.append t s)
theorem Vals.take : ∀ {xs : List V} {us : List Value} (n : Nat), Vals xs us → Vals (xs.take n) (us.take n)
 | _, _, 0, _ => .nil
 | _, _, _ + 1, .nil => .nil
 | _, _, n + 1, .cons r t => .cons r (Vals.take n t)
theorem Vals.drop : ∀ {xs : List V} {us : List Value} (n : Nat), Vals xs us → Vals (xs.drop n) (us.drop n)
 | _, _, 0, r => r
 | _, _, _ + 1, .nil => .nil
 | _, _, n + 1, .cons _ t => Vals.drop n t
theorem Vals.none_of : ∀ {xs : List V} {us : List Value} {i : Nat}, Vals xs us → xs[i]? = none → us[i]? = none := fun {xs us i} r e => by
 have h1 := r.length
 have h2 : xs.length ≤ i := List.getElem?_eq_none_iff.mp e
 exact List.getElem?_eq_none_iff.mpr (by omega)
def RelO : Option V → Option Value → Prop
 | some v, some u => RelV v u
 | none, none => True
 | _, _ => False
def KV {κ : Type} : List (κ × V) → List (κ × Value) → Prop := Paired fun (p : κ × V) (q : κ × Value) => p.1 = q.1 ∧ RelV p.2 q.2
def kV : Key → V
 | .inl i => .int i
 | .inr x => .str x
inductive HO where
 /-- a list -/
 | lst (xs : List V)
 /-- a tuple (never changes) -/
 | tup (xs : List V)
 /-- a dict whose keys are ints and texts; one whose keys are tuples of ints and texts (the empty one is both) -/
 | dK (kvs : List (Key × V)) | dT (kvs : List (List Key × V))
 /-- a set of ints: its members, its size -/
 | set (S : Int → Bool) (n : Nat)
 /-- an instance of the class at C, its dict at dx, its attributes -/
 | ins (C dx : Addr) (fs : List (Str × V))
 /-- the dict of the instance at x -/
 | own (x : Addr)
 /-- the dict of an exception -/
 | xd (fs : List (Str × V))
 /-- a bound method, f of x -/
 | met (f x : Addr)
 /-- a range object lo, lo + 1, .. below hi -/
 | rng (lo hi : Int)
 /-- a thing that is known to the object (the script; a dict while a loop walks it): read, never written while it is so -/
 | frz (o : Obj) (u : HO)
 /-- a code object's table -/
 | tbl (ps : Array Value)
 /-- any other thing, by what is true of its one object (a def of one's own: SetO a S n := HO.ext fun h => ..) -/
 | ext (φ : Heap → Prop)
abbrev Hp := Addr → Option HO
def upd (H : Hp) (a : Addr) (o : HO) : Hp := fun b => if b = a then some o else H b
theorem uqs {H : Hp} {a : Addr} {o : HO} : upd H a o a = some o := by unfold upd; rw [if_pos rfl]
theorem uqn {H : Hp} {a b : Addr} {o : HO} (h : b ≠ a) : upd H a o b = H b := by unfold upd; rw [if_neg h]
theorem ne_of {H : Hp} {a b : Addr} {o u : HO} (h : H a = some o) (h' : H b = some u) (d : o ≠ u) : a ≠ b := by
 intro e; subst e; rw [h] at h'; exact d (Option.some.inj h')
theorem nqn {H : Hp} {a b : Addr} {o : HO} (h : H a = some o) (h' : H b = none) : a ≠ b := by
 intro e; subst e; rw [h] at h'; cases h'
section
variable (P : Program) (w : World)
def ObjOk (H : Hp) (h : Heap) (a : Addr) : HO → Prop
 | .lst xs => xs.length ≤ sizeLine ∧ ∃ (its : List Value) (n : Nat), Vals xs its ∧ h.get? a = some { cls := .type "list", data := .seq its.toArray n }
 | .tup xs => xs.length ≤ sizeLine ∧ ∃ its : List Value, Vals xs its ∧ IsTup h a its.toArray
 | .dK kvs => kvs.length ≤ sizeLine ∧ (a == sysModules) = false ∧ ∃ vs, KV kvs vs ∧ h.DictOf (mixKind P w) a vs
 | .dT kvs => kvs.length ≤ sizeLine ∧ (a == sysModules) = false ∧ ∃ xs : List (List Key × Addr × Value),
     Paired (fun (p : List Key × V) (q : List Key × Addr × Value) => p.1 = q.1 ∧ H q.2.1 = some (.tup (p.1.map kV)) ∧ RelV p.2 q.2.2) kvs xs ∧
     ∃ o es ep, h.get? a = some o ∧ o.ExactDict ∧ o.data = .dict es ep ∧ es.toList = xs.map (entryOfKey (tupleKind (mixKind P w))) ∧ (xs.map (·.1)).Nodup
 | .set S n => h.SetOf (intKind P w) a S n
 | .ins C dx fs => H dx = some (.own a) ∧ fs.length ≤ 1000 ∧ dx ≠ a ∧ h.get? a = some (PySem.W.instObj C dx) ∧
     ∃ mA, h.Ns1 dx mA ∧ (∀ f, RelO (fs.lookup f) (mA f)) ∧ PySem.Within mA (fs.map (·.1))
 | .own _ => ∃ o, h.get? a = some o
 | .xd fs => ∃ mA, h.Ns1 a mA ∧ ∀ f, RelO (fs.lookup f) (mA f)
 | .rng lo hi => ∃ t u v, h.get? a = some { cls := .type "range", data := .fields #[.int lo t, .int hi u, .int 1 v] }
 | .frz o u => h.get? a = some o ∧ ObjOk H h a u
 | .tbl ps => h.get? a = some { cls := .none, data := .fields ps }
 | .met f x => h.get? a = some (PySem.W.methodObj (.ref f) (.ref x))
 | .ext φ => φ h ∧ (∃ o, h.get? a = some o) ∧ ∀ h1 h2 : Heap, φ h1 → (∀ o, h1.get? a = some o → h2.get? a = some o) → φ h2
def HOk (H : Hp) (h : Heap) : Prop := ∀ a o, H a = some o → ObjOk P w H h a o
end
section
variable {P : Program} {w : World} {H H' : Hp} {h h' : Heap} {a : Addr} {o : HO}
theorem ObjOk.lt (x : ObjOk P w H h a o) : a < h.objs.size := by
 cases o with
 | lst xs => obtain ⟨_, _, _, _, e⟩ := x; exact Heap.lt_size e
 | tup xs => obtain ⟨_, _, _, p⟩ := x; exact p.lt
 | dK kvs => obtain ⟨_, _, _, _, o, _, _, e, _⟩ := x; exact Heap.lt_size e
 | dT kvs => obtain ⟨_, _, _, _, o, _, _, e, _⟩ := x; exact Heap.lt_size e
 | set S n => obtain ⟨o, _, _, _, e, _⟩ := x; exact Heap.lt_size e
 | ins C dx fs => obtain ⟨_, _, _, e, _⟩ := x; exact Heap.lt_size e
 | own y => obtain ⟨_, e⟩ := x; exact Heap.lt_size e
 | xd fs => obtain ⟨_, ⟨_, _, _, e, _⟩, _⟩ := x; exact Heap.lt_size e
 | rng lo hi => obtain ⟨_, _, _, e⟩ := x; exact Heap.lt_size e
 | frz ob u => obtain ⟨e, _⟩ := x; exact Heap.lt_size e
 | tbl ps => exact Heap.lt_size (show h.get? a = some _ from x)
 | met f y => exact Heap.lt_size (show h.get? a = some _ from x)
 | ext φ => obtain ⟨_, ⟨_, e⟩, _⟩ := x; exact Heap.lt_size e
theorem Paired.mapP {α β : Type} {F G : α → β → Prop} : ∀ {l₁ : List α} {l₂ : List β}, Paired F l₁ l₂ → (∀ a b, F a b → G a b) → Paired G l₁ l₂
 | _, _, .nil, _ => .nil
 | _, _, .cons r t, f => .cons (f _ _ r) (Paired.mapP t f)
theorem ObjOk.stay (x : ObjOk P w H h a o) (k : ∀ b u, (b = a ∨ H b = some (.own a)) → h.get? b = some u → h'.get? b = some u)
   (ho : ∀ b, H b = some (.own a) → H' b = some (.own a)) (ht : ∀ b xs, H b = some (.tup xs) → H' b = some (.tup xs)) : ObjOk P w H' h' a o := by
 induction o with
 | lst xs => obtain ⟨z, its, n, r, e⟩ := x; exact ⟨z, its, n, r, k _ _ (.inl rfl) e⟩
 | tup xs => obtain ⟨z, its, r, ob, e, c⟩ := x; exact ⟨z, its, r, ob, k _ _ (.inl rfl) e, c⟩
 | dK kvs => obtain ⟨z, y, vs, r, ob, es, ep, e, c⟩ := x; exact ⟨z, y, vs, r, ob, es, ep, k _ _ (.inl rfl) e, c⟩
 | dT kvs =>
   obtain ⟨z, y, xs, r, ob, es, ep, e, c⟩ := x
   exact ⟨z, y, xs, Paired.mapP r fun p q z => ⟨z.1, ht _ _ z.2.1, z.2.2⟩, ob, es, ep, k _ _ (.inl rfl) e, c⟩
 | set S n => obtain ⟨ob, es, ep, t, e, c⟩ := x; exact ⟨ob, es, ep, t, k _ _ (.inl rfl) e, c⟩
 | ins C dx fs =>
   obtain ⟨d, z, ne, e, mA, ⟨od, es, ep, e2, c⟩, r⟩ := x
   exact ⟨ho _ d, z, ne, k _ _ (.inl rfl) e, mA, ⟨od, es, ep, k _ _ (.inr d) e2, c⟩, r⟩
 | own y => obtain ⟨ob, e⟩ := x; exact ⟨ob, k _ _ (.inl rfl) e⟩
 | xd fs => obtain ⟨mA, ⟨od, es, ep, e, c⟩, r⟩ := x; exact ⟨mA, ⟨od, es, ep, k _ _ (.inl rfl) e, c⟩, r⟩
 | rng lo hi => obtain ⟨t, u, v, e⟩ := x; exact ⟨t, u, v, k _ _ (.inl rfl) e⟩
 | frz ob u ih => obtain ⟨e, q⟩ := x; exact ⟨k _ _ (.inl rfl) e, ih q⟩
 | tbl ps =>
   have e : h.get? a = some { cls := .none, data := .fields ps } := x
   show h'.get? a = some { cls := .none, data := .fields ps }
   exact k a _ (.inl rfl) e
 | met f y =>
   have e : h.get? a = some (PySem.W.methodObj (.ref f) (.ref y)) := x
   show h'.get? a = some (PySem.W.methodObj (.ref f) (.ref y))
   exact k a _ (.inl rfl) e
 | ext φ => obtain ⟨p, ⟨o, e⟩, st⟩ := x; exact ⟨st _ _ p fun o q => k _ _ (.inl rfl) q, ⟨o, k _ _ (.inl rfl) e⟩, st⟩
theorem HOk.lt (x : HOk P w H h) (e : H a = some o) : a < h.objs.size := (x a o e).lt
theorem HOk.fresh (x : HOk P w H h) (e : h.objs.size ≤ a) : H a = none := by
 cases q : H a with
 | none => rfl
 | some u => exact absurd (Nat.lt_of_lt_of_le (x.lt q) e) (Nat.lt_irrefl _)
theorem HOk.kept (x : HOk P w H h) (k : ∀ b u, h.get? b = some u → h'.get? b = some u) : HOk P w H h' := fun a o e =>
 (x a o e).stay (fun b u _ q => k b u q) (fun _ q => q) fun _ _ q => q
theorem HOk.laid (x : HOk P w H h) (k : ∀ b u, h.get? b = some u → h'.get? b = some u) (hp : h.objs.size ≤ a) (new : ObjOk P w (upd H a o) h' a o) : HOk P w (upd H a o) h' := fun b u e => by
 have hn := x.fresh hp
 by_cases hb : b = a
 · subst hb; rw [uqs] at e; cases e; exact new
 · rw [uqn hb] at e
   exact (x b u e).stay (fun c v _ q => k c v q) (fun c q => by rw [uqn (nqn q hn)]; exact q) fun c xs q => by rw [uqn (nqn q hn)]; exact q
end
def Rd (H : Hp) (a : Addr) (u : HO) : Prop := H a = some u ∨ ∃ o, H a = some (.frz o u)
theorem Rd.of {H : Hp} {a : Addr} {u : HO} (h : H a = some u) : Rd H a u := .inl h
theorem Rd.ok {P : Program} {w : World} {H : Hp} {h : Heap} {a : Addr} {u : HO} (r : Rd H a u) (x : HOk P w H h) : ObjOk P w H h a u := by
 rcases r with r | ⟨o, r⟩
 · exact x a u r
 · obtain ⟨_, q⟩ := x a _ r
   exact q
def Mut : Option HO → Prop
 | some (.lst _) => True
 | some (.dK _) => True
 | some (.dT _) => True
 | some (.set _ _) => True
 | some (.ins _ _ _) => True
 | some (.ext _) => True
 | _ => False
section
variable {P : Program} {w : World} {H : Hp} {h h' : Heap} {x e : Addr} {o' : HO}
theorem HOk.write (ok : HOk P w H h) (mu : Mut (H x)) (he : e = x ∨ H e = some (.own x)) (k : ∀ b u, b ≠ e → h.get? b = some u → h'.get? b = some u) (heo : ∃ u, h'.get? e = some u)
   (new : ObjOk P w (upd H x o') h' x o') : HOk P w (upd H x o') h' := fun b u q => by
 have nown : ∀ c y, H c = some (.own y) → c ≠ x := fun c y r z => by subst z; rw [r] at mu; exact mu
 have ntup : ∀ c xs, H c = some (.tup xs) → c ≠ x := fun c xs r z => by subst z; rw [r] at mu; exact mu
 by_cases hb : b = x
 · subst hb; rw [uqs] at q; cases q; exact new
 · rw [uqn hb] at q
   by_cases hbe : b = e
   · have q' : H b = some (.own x) := by
       rcases he with z | z
       · exact absurd (hbe.trans z) hb
       · rw [hbe]; exact z
     rw [q] at q'; cases q'
     obtain ⟨v, hv⟩ := heo
     exact ⟨v, by rw [hbe]; exact hv⟩
   · refine (ok b u q).stay (fun c v hc r => k c v ?_ r) (fun c r => by rw [uqn (nown c b r)]; exact r) fun c xs r => by rw [uqn (ntup c xs r)]; exact r
     rcases hc with rfl | hc
     · exact hbe
     · rintro rfl
       rcases he with z | z
       · exact nown c b hc z
       · rw [hc] at z; cases z; exact hb rfl
end
structure Un (fs ex : List Addr) (H H' : Hp) (h h' : Heap) : Prop where
 keep : ∀ b o, h.get? b = some o → H b = none → b ∉ fs → b ∉ ex → h'.get? b = some o
 slot : ∀ b o, h.get? b = some o → H b = none → b ∈ fs → b ∉ ex → ∃ sl, h'.get? b = some { o with slots := sl }
 free : ∀ b o, h.get? b = some o → H b = none → b ∉ ex → H' b = none
 there : ∀ b o, h.get? b = some o → b ∉ ex → ∃ o', h'.get? b = some o'
 tups : ∀ b xs, H b = some (.tup xs) → H' b = some (.tup xs)
 frzs : ∀ b o u, H b = some (.frz o u) → H' b = some (.frz o u)
 tbls : ∀ b ps, H b = some (.tbl ps) → ∃ more, H' b = some (.tbl (ps ++ more))
section
variable {fs fs' ex ex' : List Addr} {H H1 H2 : Hp} {h h1 h2 h' : Heap} {a x e : Addr} {o : HO}
theorem Un.any (u : Un fs ex H H1 h h1) {b : Addr} {ob : Obj} (q : h.get? b = some ob) (n : H b = none) (hx : b ∉ ex) : ∃ sl, h1.get? b = some { ob with slots := sl } := by
 by_cases hb : b ∈ fs
 · exact u.slot b ob q n hb hx
 · exact ⟨ob.slots, u.keep b ob q n hb hx⟩
theorem Un.trans (a : Un fs ex H H1 h h1) (b : Un fs ex H1 H2 h1 h2) : Un fs ex H H2 h h2 where
 keep := fun c ob q n hc hx => b.keep c ob (a.keep c ob q n hc hx) (a.free c ob q n hx) hc hx
 slot := fun c ob q n hc hx => by
   obtain ⟨sl, e1⟩ := a.slot c ob q n hc hx
   obtain ⟨sl', e2⟩ := b.slot c _ e1 (a.free c ob q n hx) hc hx
   exact ⟨sl', e2⟩
 free := fun c ob q n hx => by
   obtain ⟨o', e1⟩ := a.there c ob q hx
   exact b.free c o' e1 (a.free c ob q n hx) hx
 there := fun c ob q hx => by
   obtain ⟨o', e1⟩ := a.there c ob q hx
   exact b.there c o' e1 hx
 tups := fun c xs q => b.tups c xs (a.tups c xs q)
 frzs := fun c ob xs q => b.frzs c ob xs (a.frzs c ob xs q)
 tbls := fun c ps q => by
   obtain ⟨m1, e1⟩ := a.tbls c ps q
   obtain ⟨m2, e2⟩ := b.tbls c _ e1
   exact ⟨m1 ++ m2, by rw [e2, Array.append_assoc]⟩
theorem Un.kept (k : ∀ b u, h.get? b = some u → h'.get? b = some u) : Un fs ex H H h h' :=
 ⟨fun b ob q _ _ _ => k b ob q, fun b ob q _ _ _ => ⟨ob.slots, k b ob q⟩, fun _ _ _ n _ => n, fun b ob q _ => ⟨ob, k b ob q⟩, fun _ _ q => q, fun _ _ _ q => q, fun _ ps q => ⟨#[], by rw [q]; simp⟩⟩
theorem Un.refl : Un fs ex H H h h := Un.kept fun _ _ q => q
theorem Un.laid (k : ∀ b u, h.get? b = some u → h'.get? b = some u) (hp : h.objs.size ≤ a) (hn : H a = none) : Un fs ex H (upd H a o) h h' where
 keep := fun b u q _ _ _ => k b u q
 slot := fun b u q _ _ _ => ⟨u.slots, k b u q⟩
 free := fun b u q n _ => by rw [uqn (Nat.ne_of_lt (Nat.lt_of_lt_of_le (Heap.lt_size q) hp))]; exact n
 there := fun b u q _ => ⟨u, k b u q⟩
 tups := fun b xs q => by rw [uqn (nqn q hn)]; exact q
 frzs := fun b u xs q => by rw [uqn (nqn q hn)]; exact q
 tbls := fun b ps q => ⟨#[], by rw [uqn (nqn q hn), q]; simp⟩
theorem Un.write (mu : Mut (H x)) (he : e = x ∨ H e = some (.own x)) (k : ∀ b u, b ≠ e → h.get? b = some u → h'.get? b = some u) (heo : ∃ u, h'.get? e = some u) : Un fs ex H (upd H x o) h h' := by
 have hx : ∀ b, H b = none → b ≠ x := fun b n z => by subst z; rw [n] at mu; exact mu
 have hb : ∀ b, H b = none → b ≠ e := fun b n z => by
   subst z
   rcases he with r | r
   · exact hx b n r
   · rw [n] at r; cases r
 have hm : ∀ b u, H b = some u → ¬ Mut (some u) → b ≠ x := fun b u q nm z => by subst z; rw [q] at mu; exact nm mu
 refine ⟨fun b u q n _ _ => k b u (hb b n) q, fun b u q n _ _ => ⟨u.slots, k b u (hb b n) q⟩, fun b u q n _ => by rw [uqn (hx b n)]; exact n, fun b u q _ => ?_,
   fun b xs q => by rw [uqn (hm b _ q fun z => z)]; exact q, fun b u xs q => by rw [uqn (hm b _ q fun z => z)]; exact q, fun b ps q => ⟨#[], by rw [uqn (hm b _ q fun z => z), q]; simp⟩⟩
 by_cases hbe : b = e
 · subst hbe; exact heo
 · exact ⟨u, k b u hbe q⟩
theorem Un.mono (u : Un fs ex H H1 h h1) (hs : ∀ b ∈ fs, b ∈ fs') (hx : ∀ b ∈ ex, b ∈ ex') : Un fs' ex' H H1 h h1 :=
 ⟨fun b ob q n hb he => u.keep b ob q n (fun z => hb (hs b z)) fun z => he (hx b z), fun _ _ q n _ he => u.any q n fun z => he (hx _ z), fun b ob q n he => u.free b ob q n fun z => he (hx b z), fun b ob q he => u.there b ob q fun z => he (hx b z), u.tups, u.frzs, u.tbls⟩
end
def trk (h : Heap) (H : Hp) : List Addr := (List.range h.objs.size).filter fun a => (H a).isSome
def hidT (h : Heap) (H : Hp) : Heap := PySem.W.hideAll h (trk h H)
theorem hidT_size (h : Heap) (H : Hp) : (hidT h H).objs.size = h.objs.size := PySem.W.hideAll_size _ _
theorem hidT_get {h : Heap} {H : Hp} {b : Addr} {o : Obj} (e : h.get? b = some o) (n : H b = none) : (hidT h H).get? b = some o :=
 PySem.W.hideAll_get _ e fun hm => by
   have q : (H b).isSome = true := (List.mem_filter.mp hm).2
   rw [n] at q; simp at q
theorem of_hidT {h : Heap} {H : Hp} {b : Addr} {o : Obj} (e : (hidT h H).get? b = some o) : h.get? b = some o ∧ H b = none := by
 have e' : h.get? b = some o := PySem.W.of_hideAll (trk h H) e
 refine ⟨e', ?_⟩
 cases q : H b with
 | none => rfl
 | some x =>
   have hm : b ∈ trk h H := List.mem_filter.mpr ⟨List.mem_range.mpr (Heap.lt_size e'), by simp [q]⟩
   have z : (hidT h H).get? b = none := PySem.W.hideAll_none (trk h H) hm
   rw [z] at e; cases e
def allNews (g h : Heap) (L : Addr) : List (Addr × Obj) := (List.range h.objs.size).filterMap fun a => if a = L ∨ (g.get? a).isSome = true then none else (h.get? a).map fun o => (a, o)
def rest (g h : Heap) (L d : Addr) : List (Addr × Obj) := (allNews g h L).filter fun p => decide (p.1 ≠ d)
end L2
namespace L2
open PySem PySem.Spec PyProof.Rows
structure Mod (K : PySem.W.Frag) (mg : Str → Option Value) (base : Heap) : Prop where
 kin : K.In base
 glob : base.Ns mainGlobals mg
 blt : ∃ mb, base.Ns builtinsNs mb ∧ ∀ x : Str, x ≠ "__name__" → mb x = bootBuiltins x
 nolimit : base.NoLimit
structure Cx where
 prog : Program
 w : World
 K : PySem.W.Frag
 mg : Str → Option Value
 base : Heap
 A : Around
 N : List Str
 s₀ : Shared
 H₀ : Hp
 env : Env
 outer : List Env
 stack : List Env
 ex : List Addr
 fn : Str → Bool
 calm : Bool
 pn : List (Addr × Obj)
 xe : Value → Shared → Prop
def frs (l : List Env) : List Addr := l.filterMap (·.frame)
abbrev Cx.fs (X : Cx) : List Addr := frs X.outer
def Vis (sc : Scope) (x : Str) : Prop := sc.names.lookup x = some .local ∨ sc.names.lookup x = some .cell ∨ sc.names.lookup x = some .free
def Loc (sc : Scope) (x : Str) : Prop := sc.names.lookup x = some .local ∨ sc.names.lookup x = some .cell
def Look (env : Env) (h : Heap) (m : Str → Option Value) (x : Str) (u : Value) : Prop :=
 (env.kindOf x = some .local ∧ m x = some u) ∨ ((env.kindOf x = some .cell ∨ env.kindOf x = some .free) ∧ ∃ c, env.cells.lookup x = some c ∧ h.IsCell c (some u))
structure Cx.Ok (X : Cx) : Prop where
 mod : Mod X.K X.mg X.base
 kind : X.env.scope.kind = .function
 glob : X.env.globals = mainGlobals
 blt : X.env.builtins = builtinsNs
 above : X.s₀.heap.objs.size ≤ X.env.locals
 inj : ∀ x y c, X.env.cells.lookup x = some c → X.env.cells.lookup y = some c → x = y
 has : ∀ x, (X.env.kindOf x = some .cell ∨ X.env.kindOf x = some .free) → ∃ c, X.env.cells.lookup x = some c
 cab : ∀ x c, X.fn x = true → X.env.cells.lookup x = some c → X.s₀.heap.objs.size ≤ c
 hd : X.calm = true → X.A.handled = none
 frames : X.A.frames = some X.stack
 stk : X.stack = X.outer ∨ (X.stack = X.env :: X.outer ∧ X.env.frame = some X.env.locals)
 exf : ∀ b ∈ X.ex, b ≠ X.env.locals ∧ ∀ x c, X.env.cells.lookup x = some c → c ≠ b
 bs : ∀ b o, X.base.get? b = some o → X.s₀.heap.get? b = some o ∧ X.H₀ b = none
 bsz : X.base.objs.size ≤ X.s₀.heap.objs.size
 noex : ∀ b o, X.base.get? b = some o → b ∉ X.ex
 exfs : ∀ b ∈ X.ex, b ∉ X.fs
 funs : X.s₀.heap.FunFrames X.base X.outer
 frf : ∀ b ∈ X.fs, X.H₀ b = none
structure Inv (X : Cx) (pins : List (Addr × Obj)) (σ : List (Option V)) (H : Hp) (s : Shared) : Prop where
 ok : X.Ok
 os : s.os = X.s₀.os
 bare : AllBare s.gens
 base : Un X.fs X.ex X.H₀ H X.s₀.heap s.heap
 loc : ∃ m, s.heap.Ns X.env.locals m ∧ ∀ (i : Nat) (x : Str) (v : V), X.N[i]? = some x → σ[i]? = some (some v) → Vis X.env.scope x → ∃ u, RelV v u ∧ Look X.env s.heap m x u
 cell : ∀ x c, X.env.cells.lookup x = some c → ∃ v, s.heap.IsCell c v
 free : H X.env.locals = none
 freeC : ∀ x c, X.env.cells.lookup x = some c → H c = none
 pin : ∀ p ∈ X.pn ++ pins, s.heap.get? p.1 = some p.2 ∧ H p.1 = none ∧ p.1 ≠ X.env.locals ∧ p.1 ∉ X.fs ∧ ∀ v, p.2.data ≠ .cell v
 hok : HOk X.prog X.w H s.heap
 len : σ.length = X.N.length
section
variable {X : Cx} {pins : List (Addr × Obj)} {σ : List (Option V)} {H H' : Hp} {s : Shared} {h' : Heap}
theorem Cx.Ok.nofr (ok : X.Ok) {b : Addr} {o : Obj} (e : X.base.get? b = some o) : b ∉ X.fs := fun hb => by
 have := (ok.funs.mem hb).1
 rw [e] at this; cases this
theorem Inv.bs (I : Inv X pins σ H s) : ∀ b o, X.base.get? b = some o → s.heap.get? b = some o ∧ H b = none := fun b o e =>
 ⟨I.base.keep b o (I.ok.bs b o e).1 (I.ok.bs b o e).2 (I.ok.nofr e) (I.ok.noex b o e), I.base.free b o (I.ok.bs b o e).1 (I.ok.bs b o e).2 (I.ok.noex b o e)⟩
theorem Inv.bk (I : Inv X pins σ H s) : ∀ b o, X.base.get? b = some o → s.heap.get? b = some o := fun b o e => (I.bs b o e).1
theorem Inv.mod (I : Inv X pins σ H s) : Mod X.K X.mg X.base := I.ok.mod
theorem Inv.kIn (I : Inv X pins σ H s) : X.K.In s.heap := I.ok.mod.kin.keeps I.bk
theorem Inv.nolimit (I : Inv X pins σ H s) : s.heap.NoLimit := I.ok.mod.nolimit.keeps I.bk
theorem Inv.fr (I : Inv X pins σ H s) : ∃ m, Fr X.base X.env.locals s.heap m :=
 let ⟨m, hn, _⟩ := I.loc
 ⟨m, hn, I.bk, Nat.le_trans I.ok.bsz I.ok.above⟩
theorem Inv.lt (I : Inv X pins σ H s) : X.env.locals < s.heap.objs.size := let ⟨_, hn, _⟩ := I.loc; hn.lt
theorem Inv.sz (I : Inv X pins σ H s) : X.s₀.heap.objs.size ≤ s.heap.objs.size := Nat.le_trans I.ok.above (Nat.le_of_lt I.lt)
theorem Inv.nofs (I : Inv X pins σ H s) {a : Addr} (h : s.heap.objs.size ≤ a) : a ∉ X.fs := fun hb => by
 obtain ⟨_, o, ho, _⟩ := I.ok.funs.mem hb
 exact absurd (Nat.lt_of_lt_of_le (Heap.lt_size ho) (Nat.le_trans I.sz h)) (Nat.lt_irrefl _)
theorem Inv.cne (I : Inv X pins σ H s) : ∀ x c, X.env.cells.lookup x = some c → c ≠ X.env.locals := fun x c e z => by
 obtain ⟨v, o, ho, hd⟩ := I.cell x c e
 obtain ⟨m, ⟨o', es, ep, ho', hd', _⟩, _⟩ := I.loc
 rw [z, ho'] at ho; cases ho; rw [hd'] at hd; cases hd
theorem Inv.funs (I : Inv X pins σ H s) : s.heap.FunFrames X.base X.outer := by
 have all : ∀ (l : List Env), (∀ b ∈ frs l, b ∈ X.fs) → X.s₀.heap.FunFrames X.base l → s.heap.FunFrames X.base l := by
   intro l
   induction l with
   | nil => intro _ _; trivial
   | cons env r ih =>
     intro hs hl
     obtain ⟨hk, ⟨L, o, hf, hn, ho, hd⟩, hr⟩ := hl
     have hL : L ∈ X.fs := hs L (by unfold frs; rw [List.filterMap_cons, hf]; exact List.mem_cons_self)
     obtain ⟨sl, e⟩ := I.base.slot L o ho (I.ok.frf L hL) hL fun z => I.ok.exfs L z hL
     exact ⟨hk, ⟨L, _, hf, hn, e, hd⟩, ih (fun b hb => hs b (by unfold frs; rw [List.filterMap_cons, hf]; exact List.mem_cons_of_mem _ hb)) hr⟩
 exact all X.outer (fun _ hb => hb) I.ok.funs
theorem Inv.stack (I : Inv X pins σ H s) : s.heap.FunFrames X.base X.stack := by
 rcases I.ok.stk with e | ⟨e, hf⟩
 · rw [e]; exact I.funs
 · rw [e]
   obtain ⟨m, hn, _⟩ := I.loc
   refine .cons (by rw [I.ok.kind]; decide) hf hn ?_ I.funs
   exact Heap.get?_none_of_le (Nat.le_trans I.ok.bsz I.ok.above)
theorem Inv.stkSub (I : Inv X pins σ H s) : ∀ b ∈ frs X.stack, b ∈ X.env.locals :: X.fs := fun b hb => by
 rcases I.ok.stk with e | ⟨e, hf⟩
 · rw [e] at hb; exact List.mem_cons_of_mem _ hb
 · rw [e] at hb
   unfold frs at hb
   rw [List.filterMap_cons, hf] at hb
   exact hb
theorem Inv.stkFree (I : Inv X pins σ H s) : ∀ b ∈ frs X.stack, H b = none := fun b hb => by
 rcases List.mem_cons.mp (I.stkSub b hb) with e | hb
 · rw [e]; exact I.free
 · obtain ⟨_, o, ho, _⟩ := I.ok.funs.mem hb
   exact I.base.free b o ho (I.ok.frf b hb) fun z => I.ok.exfs b z hb
theorem Inv.step {g' : Array GenState} {t' : Nat} {d' : Drawn} {ch : List Addr} (I : Inv X pins σ H s)
   (hch : ∀ b ∈ ch, (b ∈ X.ex ∨ X.s₀.heap.objs.size ≤ b) ∧ b ≠ X.env.locals ∧ (∀ x c, X.env.cells.lookup x = some c → c ≠ b) ∧ ∀ p ∈ X.pn ++ pins, p.1 ≠ b)
   (keep : ∀ b o, b ≠ X.env.locals → b ∉ X.fs → b ∉ ch → s.heap.get? b = some o → H b = none → h'.get? b = some o)
   (slot : ∀ b o, b ≠ X.env.locals → b ∈ X.fs → b ∉ ch → s.heap.get? b = some o → H b = none → ∃ sl, h'.get? b = some { o with slots := sl }) (free : ∀ b o, b ∉ ch → s.heap.get? b = some o → H b = none → H' b = none)
   (there : ∀ b o, b ∉ ch → s.heap.get? b = some o → ∃ o', h'.get? b = some o')
   (tups : ∀ b xs, H b = some (.tup xs) → H' b = some (.tup xs)) (frzs : ∀ b o u, H b = some (.frz o u) → H' b = some (.frz o u)) (tbls : ∀ b ps, H b = some (.tbl ps) → ∃ more, H' b = some (.tbl (ps ++ more)))
   (ns : ∀ m, s.heap.Ns X.env.locals m → h'.Ns X.env.locals m) (hok : HOk X.prog X.w H' h') (hg : AllBare g') :
   Inv X pins σ H' { s with heap := h', gens := g', drawn := d', toks := t' } := by
 have neL : ∀ b o, X.s₀.heap.get? b = some o → b ≠ X.env.locals := fun b o e => Nat.ne_of_lt (Nat.lt_of_lt_of_le (Heap.lt_size e) I.ok.above)
 have neC : ∀ b o, X.s₀.heap.get? b = some o → b ∉ X.ex → b ∉ ch := fun b o e hx hb => by
   rcases (hch b hb).1 with z | z
   · exact hx z
   · exact absurd (Nat.lt_of_lt_of_le (Heap.lt_size e) z) (Nat.lt_irrefl _)
 have cellK : ∀ x c, X.env.cells.lookup x = some c → ∀ v, s.heap.IsCell c v → h'.IsCell c v := fun x c e v ⟨o, ho, hd⟩ => by
   have nch : c ∉ ch := fun z => (hch c z).2.2.1 x c e rfl
   by_cases hc : c ∈ X.fs
   · obtain ⟨sl, q⟩ := slot c o (I.cne x c e) hc nch ho (I.freeC x c e)
     exact ⟨_, q, hd⟩
   · exact ⟨o, keep c o (I.cne x c e) hc nch ho (I.freeC x c e), hd⟩
 refine ⟨I.ok, I.os, hg, ⟨fun b o e n hb hx => ?_, fun b o e n hb hx => ?_, fun b o e n hx => ?_, fun b o e hx => ?_, fun b xs e => tups b xs (I.base.tups b xs e), fun b o xs e => frzs b o xs (I.base.frzs b o xs e), fun b ps e => ?_⟩, ?_, fun x c e => ?_, ?_, fun x c e => ?_, fun p hp => ?_, hok, I.len⟩
 · exact keep b o (neL b o e) hb (neC b o e hx) (I.base.keep b o e n hb hx) (I.base.free b o e n hx)
 · obtain ⟨sl, e1⟩ := I.base.slot b o e n hb hx
   obtain ⟨sl', e2⟩ := slot b _ (neL b o e) hb (neC b o e hx) e1 (I.base.free b o e n hx)
   exact ⟨sl', e2⟩
 · obtain ⟨o', e1⟩ := I.base.there b o e hx
   exact free b o' (neC b o e hx) e1 (I.base.free b o e n hx)
 · obtain ⟨o', e1⟩ := I.base.there b o e hx
   exact there b o' (neC b o e hx) e1
 · obtain ⟨m1, e1⟩ := I.base.tbls b ps e
   obtain ⟨m2, e2⟩ := tbls b _ e1
   exact ⟨m1 ++ m2, by rw [e2, Array.append_assoc]⟩
 · obtain ⟨m, hn, hl⟩ := I.loc
   refine ⟨m, ns m hn, fun i x v e1 e2 e3 => ?_⟩
   obtain ⟨u, r, l⟩ := hl i x v e1 e2 e3
   refine ⟨u, r, ?_⟩
   rcases l with l | ⟨k, c, e, z⟩
   · exact .inl l
   · exact .inr ⟨k, c, e, cellK x c e _ z⟩
 · obtain ⟨v, z⟩ := I.cell x c e
   exact ⟨v, cellK x c e v z⟩
 · obtain ⟨m, ⟨o, _, _, ho, _⟩, _⟩ := I.loc
   exact free _ o (fun z => (hch _ z).2.1 rfl) ho I.free
 · obtain ⟨v, o, ho, hd⟩ := I.cell x c e
   exact free c o (fun z => (hch c z).2.2.1 x c e rfl) ho (I.freeC x c e)
 · obtain ⟨e, n, ne, nf, d⟩ := I.pin p hp
   have nch : p.1 ∉ ch := fun z => (hch p.1 z).2.2.2 p hp rfl
   exact ⟨keep p.1 p.2 ne nf nch e n, free p.1 p.2 nch e n, ne, nf, d⟩
theorem Inv.un {t' : Nat} (I : Inv X pins σ H s) (u : Un X.fs [] H H' s.heap h') (hok : HOk X.prog X.w H' h') : Inv X pins σ H' { s with heap := h', toks := t' } := by
 obtain ⟨m, ⟨o, es, ep, ho, r⟩, _⟩ := id I.loc
 obtain ⟨sl, hL⟩ := u.any ho I.free (by simp)
 exact I.step (g' := s.gens) (d' := s.drawn) (ch := []) (fun _ z => nomatch z) (fun b o _ hb _ e n => u.keep b o e n hb (by simp)) (fun b o _ hb _ e n => u.slot b o e n hb (by simp)) (fun b o _ e n => u.free b o e n (by simp)) (fun b o _ e => u.there b o e (by simp)) u.tups u.frzs u.tbls (fun m' hm => by
   obtain ⟨o', es', ep', ho', r'⟩ := hm
   rw [ho] at ho'; cases ho'
   exact ⟨_, es', ep', hL, r'⟩) hok I.bare
theorem Inv.call {g' : Array GenState} {t' : Nat} {d' : Drawn} {ch : List Addr} (I : Inv X pins σ H s) (u : Un (frs X.stack) ch H H' s.heap h') (hok : HOk X.prog X.w H' h') (hg : AllBare g')
   (hch : ∀ b ∈ ch, (b ∈ X.ex ∨ X.s₀.heap.objs.size ≤ b) ∧ b ≠ X.env.locals ∧ (∀ x c, X.env.cells.lookup x = some c → c ≠ b) ∧ ∀ p ∈ X.pn ++ pins, p.1 ≠ b) :
   Inv X pins σ H' { s with heap := h', gens := g', drawn := d', toks := t' } := by
 obtain ⟨m, ⟨o, es, ep, ho, r⟩, _⟩ := id I.loc
 obtain ⟨sl, hL⟩ := u.any ho I.free fun z => (hch _ z).2.1 rfl
 exact I.step (ch := ch) hch (fun b o hL hb hc e n => u.keep b o e n (fun z => (List.mem_cons.mp (I.stkSub b z)).elim hL hb) hc) (fun b o _ _ hc e n => u.any e n hc) (fun b o hc e n => u.free b o e n hc) (fun b o hc e => u.there b o e hc) u.tups u.frzs u.tbls (fun m' hm => by
   obtain ⟨o', es', ep', ho', r'⟩ := hm
   rw [ho] at ho'; cases ho'
   exact ⟨_, es', ep', hL, r'⟩) hok hg
theorem Inv.turned {t' : Nat} {it : Addr} (I : Inv X pins σ H s) (k : ∀ b o, b ≠ it → s.heap.get? b = some o → h'.get? b = some o) (hn : H it = none) (hL : it ≠ X.env.locals)
   (h1 : it ∈ X.ex ∨ X.s₀.heap.objs.size ≤ it) (h2 : ∀ x c, X.env.cells.lookup x = some c → c ≠ it) (h3 : ∀ p ∈ X.pn ++ pins, p.1 ≠ it) : Inv X pins σ H { s with heap := h', toks := t' } := by
 have nit : ∀ b u, H b = some u → b ≠ it := fun b u e z => by rw [z, hn] at e; cases e
 refine I.step (g' := s.gens) (d' := s.drawn) (ch := [it]) (fun b hb => ?_) (fun b o _ _ hc e _ => k b o (fun z => hc (by simp [z])) e) (fun b o _ _ hc e _ => ⟨o.slots, k b o (fun z => hc (by simp [z])) e⟩) (fun _ _ _ _ n => n)
   (fun b o hc e => ⟨o, k b o (fun z => hc (by simp [z])) e⟩) (fun _ _ e => e) (fun _ _ _ e => e) (fun b ps e => ⟨#[], by rw [e]; simp⟩) (fun m hm => ?_) (fun b u e => ?_) I.bare
 · have e : b = it := by simpa using hb
   subst e
   exact ⟨h1, hL, h2, h3⟩
 · obtain ⟨o, es, ep, ho, r⟩ := hm
   exact ⟨o, es, ep, k _ o (Ne.symm hL) ho, r⟩
 · refine (I.hok b u e).stay (fun c v hc q => k c v ?_ q) (fun _ q => q) fun _ _ q => q
   rcases hc with z | z
   · rw [z]; exact nit b u e
   · exact nit c _ z
theorem Inv.tok (I : Inv X pins σ H s) (t : Nat) : Inv X pins σ H { s with toks := t } := I.un (h' := s.heap) (t' := t) Un.refl I.hok
theorem Inv.kept {t' : Nat} (I : Inv X pins σ H s) (k : ∀ b u, s.heap.get? b = some u → h'.get? b = some u) : Inv X pins σ H { s with heap := h', toks := t' } := I.un (Un.kept k) (I.hok.kept k)
theorem Inv.laid {a : Addr} {o : HO} {t' : Nat} (I : Inv X pins σ H s) (k : ∀ b u, s.heap.get? b = some u → h'.get? b = some u) (hp : s.heap.objs.size ≤ a) (new : ObjOk X.prog X.w (upd H a o) h' a o) :
   Inv X pins σ (upd H a o) { s with heap := h', toks := t' } := I.un (Un.laid k hp (I.hok.fresh hp)) (I.hok.laid k hp new)
theorem Inv.write {x e : Addr} {o : HO} {t' : Nat} (I : Inv X pins σ H s) (mu : Mut (H x)) (he : e = x ∨ H e = some (.own x)) (k : ∀ b u, b ≠ e → s.heap.get? b = some u → h'.get? b = some u) (heo : ∃ u, h'.get? e = some u)
   (new : ObjOk X.prog X.w (upd H x o) h' x o) : Inv X pins σ (upd H x o) { s with heap := h', toks := t' } := I.un (Un.write mu he k heo) (I.hok.write mu he k heo new)
theorem Inv.pins_of {pins' : List (Addr × Obj)} (I : Inv X pins σ H s) (h : ∀ p ∈ pins', s.heap.get? p.1 = some p.2 ∧ H p.1 = none ∧ p.1 ≠ X.env.locals ∧ p.1 ∉ X.fs ∧ ∀ v, p.2.data ≠ .cell v) : Inv X pins' σ H s :=
 ⟨I.ok, I.os, I.bare, I.base, I.loc, I.cell, I.free, I.freeC, fun p hp => (List.mem_append.mp hp).elim (fun z => I.pin p (List.mem_append_left _ z)) (h p), I.hok, I.len⟩
theorem nodup_ix {N : List Str} (hN : N.Nodup) {i j : Nat} {x : Str} (a : N[i]? = some x) (b : N[j]? = some x) : i = j := by
 obtain ⟨h1, e1⟩ := List.getElem?_eq_some_iff.mp a
 obtain ⟨h2, e2⟩ := List.getElem?_eq_some_iff.mp b
 exact (List.getElem_inj hN).mp (e1.trans e2.symm)
theorem store_ok2 {M : Model} {A : Around} {E : Value → Shared → Prop} {i : Nat} {x : Str} {v : V} {u : Value} {Q : Unit → Shared → Prop} (I : Inv X pins σ H s) (hN : X.N.Nodup) (hi : X.N[i]? = some x) (hx : Loc X.env.scope x) (r : RelV v u)
   (h : ∀ s', Inv X pins (σ.set i (some v)) H s' → (∃ a, Heap.SameBut a s.heap s'.heap ∧ (a = X.env.locals ∨ X.env.cells.lookup x = some a)) → Q () s') (hf : X.fn x = true ∨ X.env.scope.names.lookup x = some .local := by first | exact .inl rfl | exact .inr rfl | assumption) : wpAny M A (storeName X.env x u) Q E s := by
 obtain ⟨m, hn, hl⟩ := id I.loc
 have hcls : (X.env.scope.kind == .class || (X.env.scope.kind == .module && X.env.locals != X.env.globals)) = false := by rw [I.ok.kind]; rfl
 have hiσ : i < σ.length := by rw [I.len]; exact (List.getElem?_eq_some_iff.mp hi).1
 have cne := I.cne
 have tracked : ∀ {a : Addr} {h' : Heap}, (∃ o, s.heap.get? a = some o ∧ H a = none) → Heap.SameBut a s.heap h' → HOk X.prog X.w H h' := fun {a h'} ha hs b ob e => by
   obtain ⟨_, _, hfree⟩ := ha
   refine (I.hok b ob e).stay (fun c w' hc q => (hs.2 c ?_).trans q) (fun _ q => q) fun _ _ q => q
   rintro rfl
   rcases hc with rfl | hc
   · rw [hfree] at e; cases e
   · rw [hfree] at hc; cases hc
 rcases hx with hk | hk
 · refine wpAny_storeName_local hk hn (fun h' hn' hs => ?_) hcls
   obtain ⟨oL, _, _, hoL, _⟩ := id hn
   refine h _ ⟨I.ok, I.os, I.bare, ⟨fun b o e n hb hx => ?_, fun b o e n hb hx => ?_, I.base.free, fun b o e hx => ?_, I.base.tups, I.base.frzs, I.base.tbls⟩, ⟨_, hn', fun j y v' e1 e2 e3 => ?_⟩, fun y c e => ?_, I.free, I.freeC, fun p hp => ?_, tracked ⟨oL, hoL, I.free⟩ hs, by simpa using I.len⟩ ⟨_, hs, .inl rfl⟩
   · exact (hs.2 b (Nat.ne_of_lt (Nat.lt_of_lt_of_le (Heap.lt_size e) I.ok.above))).trans (I.base.keep b o e n hb hx)
   · obtain ⟨sl, e1⟩ := I.base.slot b o e n hb hx
     exact ⟨sl, (hs.2 b (Nat.ne_of_lt (Nat.lt_of_lt_of_le (Heap.lt_size e) I.ok.above))).trans e1⟩
   · obtain ⟨o', e1⟩ := I.base.there b o e hx
     exact ⟨o', (hs.2 b (Nat.ne_of_lt (Nat.lt_of_lt_of_le (Heap.lt_size e) I.ok.above))).trans e1⟩
   · by_cases hj : j = i
     · subst hj
       rw [hi] at e1; cases e1
       rw [List.getElem?_set_self hiσ] at e2
       cases e2
       exact ⟨u, r, .inl ⟨hk, by simp⟩⟩
     · rw [List.getElem?_set_ne (Ne.symm hj)] at e2
       obtain ⟨u', r', q⟩ := hl j y v' e1 e2 e3
       refine ⟨u', r', ?_⟩
       rcases q with ⟨k, e⟩ | ⟨k, c, e, z⟩
       · refine .inl ⟨k, ?_⟩
         have : y ≠ x := fun e => hj (nodup_ix hN e1 (e ▸ hi))
         simp [this, e]
       · exact .inr ⟨k, c, e, z.sameBut hs (cne y c e)⟩
   · obtain ⟨w', z⟩ := I.cell y c e
     exact ⟨w', z.sameBut hs (cne y c e)⟩
   · obtain ⟨e, n, ne, nf, d⟩ := I.pin p hp
     exact ⟨(hs.2 p.1 ne).trans e, n, ne, nf, d⟩
 · have hfn : X.fn x = true := by
     rcases hf with z | z
     · exact z
     · rw [z] at hk; cases hk
   obtain ⟨c, hc⟩ := I.ok.has x (.inl hk)
   obtain ⟨w', z⟩ := I.cell x c hc
   refine wpAny_storeName_cell I.ok.kind hk hc z (fun h' hc' hs => ?_)
   obtain ⟨oc, hoc, hocd⟩ := id z
   refine h { s with heap := h' } ⟨I.ok, I.os, I.bare, ⟨fun b o e n hb hx => ?_, fun b o e n hb hx => ?_, I.base.free, fun b o e hx => ?_, I.base.tups, I.base.frzs, I.base.tbls⟩, ⟨m, hn.sameBut hs (Ne.symm (cne x c hc)), fun j y v' e1 e2 e3 => ?_⟩, fun y c' e => ?_, I.free, I.freeC, fun p hp => ?_, tracked ⟨oc, hoc, I.freeC x c hc⟩ hs, by simpa using I.len⟩ ⟨c, hs, .inr hc⟩
   · exact (hs.2 b (Nat.ne_of_lt (Nat.lt_of_lt_of_le (Heap.lt_size e) (I.ok.cab x c hfn hc)))).trans (I.base.keep b o e n hb hx)
   · obtain ⟨sl, e1⟩ := I.base.slot b o e n hb hx
     exact ⟨sl, (hs.2 b (Nat.ne_of_lt (Nat.lt_of_lt_of_le (Heap.lt_size e) (I.ok.cab x c hfn hc)))).trans e1⟩
   · obtain ⟨o', e1⟩ := I.base.there b o e hx
     exact ⟨o', (hs.2 b (Nat.ne_of_lt (Nat.lt_of_lt_of_le (Heap.lt_size e) (I.ok.cab x c hfn hc)))).trans e1⟩
   · by_cases hj : j = i
     · subst hj
       rw [hi] at e1; cases e1
       rw [List.getElem?_set_self hiσ] at e2
       cases e2
       exact ⟨u, r, .inr ⟨.inl hk, c, hc, hc'⟩⟩
     · rw [List.getElem?_set_ne (Ne.symm hj)] at e2
       obtain ⟨u', r', q⟩ := hl j y v' e1 e2 e3
       refine ⟨u', r', ?_⟩
       rcases q with q | ⟨k, c', e, z'⟩
       · exact .inl q
       · refine .inr ⟨k, c', e, z'.sameBut hs ?_⟩
         rintro rfl
         exact hj (nodup_ix hN e1 (I.ok.inj _ _ _ e hc ▸ hi))
   · by_cases hcc : c' = c
     · subst hcc; exact ⟨_, hc'⟩
     · obtain ⟨w2, z2⟩ := I.cell y c' e
       exact ⟨w2, z2.sameBut hs hcc⟩
   · obtain ⟨e, n, ne, nf, d⟩ := I.pin p hp
     refine ⟨(hs.2 p.1 ?_).trans e, n, ne, nf, d⟩
     intro q
     rw [q, hoc] at e
     have q' : oc = p.2 := Option.some.inj e
     exact d w' (by rw [← q']; exact hocd)
theorem store_ok {M : Model} {A : Around} {E : Value → Shared → Prop} {i : Nat} {x : Str} {v : V} {u : Value} {Q : Unit → Shared → Prop} (I : Inv X pins σ H s) (hN : X.N.Nodup) (hi : X.N[i]? = some x) (hx : Loc X.env.scope x) (r : RelV v u)
   (h : ∀ s', Inv X pins (σ.set i (some v)) H s' → Q () s') (hf : X.fn x = true ∨ X.env.scope.names.lookup x = some .local := by first | exact .inl rfl | exact .inr rfl | assumption) : wpAny M A (storeName X.env x u) Q E s :=
 store_ok2 I hN hi hx r (fun s' I' _ => h s' I') hf
theorem Inv.call' {s' : Shared} {ch : List Addr} (I : Inv X pins σ H s) (ho : s'.os = s.os) (u : Un (frs X.stack) ch H H' s.heap s'.heap) (hok : HOk X.prog X.w H' s'.heap) (hg : AllBare s'.gens)
   (hch : ∀ b ∈ ch, (b ∈ X.ex ∨ X.s₀.heap.objs.size ≤ b) ∧ b ≠ X.env.locals ∧ (∀ x c, X.env.cells.lookup x = some c → c ≠ b) ∧ ∀ p ∈ X.pn ++ pins, p.1 ≠ b) : Inv X pins σ H' s' := by
 obtain ⟨h', g', d', t', o'⟩ := s'
 have e : o' = s.os := ho
 subst e
 exact I.call (g' := g') (t' := t') (d' := d') u hok hg hch
end
abbrev XK := Value → Option Addr → Hp → Prop
abbrev St := List (Option V)
abbrev VK := V → Hp → Prop
abbrev TE := St → Hp → VK → Prop
abbrev TT := St → Hp → (Bool → Hp → Prop) → Prop
abbrev TA := St → Hp → (List V → Hp → Prop) → Prop
structure Ends where
 nx : St → Hp → Prop
 rt : VK
 bk : St → Hp → Prop := fun _ _ => False
 ct : St → Hp → Prop := fun _ _ => False
abbrev TS := Ends → St → Hp → Prop
def EP (X : Cx) (pins : List (Addr × Obj)) (σ : St) (Q : VK) (u : Value) (s' : Shared) : Prop := ∃ v H', Inv X pins σ H' s' ∧ RelV v u ∧ Q v H'
def TP (X : Cx) (pins : List (Addr × Obj)) (σ : St) (Q : Bool → Hp → Prop) (b : Bool) (s' : Shared) : Prop := ∃ H', Inv X pins σ H' s' ∧ Q b H'
def AP (X : Cx) (pins : List (Addr × Obj)) (σ : St) (Q : List V → Hp → Prop) (us : List Value) (s' : Shared) : Prop := ∃ vs H', Inv X pins σ H' s' ∧ Vals vs us ∧ Q vs H'
def SP (X : Cx) (pins : List (Addr × Obj)) (D : Ends) (f : Flow) (s' : Shared) : Prop :=
 match f with
 | .next => ∃ σ' H', Inv X pins σ' H' s' ∧ D.nx σ' H'
 | .brk => ∃ σ' H', Inv X pins σ' H' s' ∧ D.bk σ' H'
 | .cont => ∃ σ' H', Inv X pins σ' H' s' ∧ D.ct σ' H'
 | .ret u => ∃ v σ' H', Inv X pins σ' H' s' ∧ RelV v u ∧ D.rt v H'
def PE (X : Cx) (e : Expr) (t : TE) : Prop :=
 ∀ (pins : List (Addr × Obj)) (s : Shared) (σ : St) (H : Hp) (Q : VK), Inv X pins σ H s → t σ H Q → wpAny (model X.prog X.w) X.A (eval e X.env) (EP X pins σ Q) X.xe s
def PT (X : Cx) (e : Expr) (t : TT) : Prop :=
 ∀ (pins : List (Addr × Obj)) (s : Shared) (σ : St) (H : Hp) (Q : Bool → Hp → Prop), Inv X pins σ H s → t σ H Q → wpAny (model X.prog X.w) X.A (isTrue e X.env (eval e X.env)) (TP X pins σ Q) X.xe s
def PW (X : Cx) (e : Expr) (t : TT) : Prop :=
 ∀ (whole : Sem Value) (pins : List (Addr × Obj)) (s : Shared) (σ : St) (H : Hp) (Q : Bool → Hp → Prop), Inv X pins σ H s → t σ H Q → wpAny (model X.prog X.w) X.A (isTrue e X.env whole) (TP X pins σ Q) X.xe s
theorem PW.pt {X : Cx} {e : Expr} {t : TT} (h : PW X e t) : PT X e t := h _
def PA (X : Cx) (es : List Expr) (t : TA) : Prop :=
 ∀ (pos : Pos) (pins : List (Addr × Obj)) (s : Shared) (σ : St) (H : Hp) (Q : List V → Hp → Prop), Inv X pins σ H s → t σ H Q → wpAny (model X.prog X.w) X.A (spliced (backTo pos (starEach es X.env))) (AP X pins σ Q) X.xe s
def PS (X : Cx) (st : Stmt) (t : TS) : Prop :=
 ∀ (pins : List (Addr × Obj)) (s : Shared) (σ : St) (H : Hp) (D : Ends), Inv X pins σ H s → t D σ H → wpAny (model X.prog X.w) X.A (exec st X.env) (SP X pins D) X.xe s
def PSs (X : Cx) (st : List Stmt) (t : TS) : Prop :=
 ∀ (pins : List (Addr × Obj)) (s : Shared) (σ : St) (H : Hp) (D : Ends), Inv X pins σ H s → t D σ H → wpAny (model X.prog X.w) X.A (execs st X.env) (SP X pins D) X.xe s
theorem thn {α : Type} {t : Sem α} {Q Q' : α → Shared → Prop} {M : Model} {A : Around} {E : Value → Shared → Prop} {s : Shared} (h : wpAny M A t Q E s) (hQ : ∀ a s, Q a s → Q' a s) : wpAny M A t Q' E s := wpAny_mono h hQ fun _ _ x => x
end L2
namespace L2
open PySem PySem.Spec PyProof.Rows
section
variable {X : Cx}
def tVar (i : Nat) : TE := fun σ H Q => ∃ v, σ[i]? = some (some v) ∧ Q v H
def tC (v : V) : TE := fun _ H Q => Q v H
theorem pe_var {i : Nat} {x : Str} {pos : Pos} (hN : X.N[i]? = some x) (hv : Vis X.env.scope x) (hd : (x == ("__debug__" : Str)) = false := by decide) (hcd : (x == ("__classdict__" : Str)) = false := by decide) : PE X (.Name x pos) (tVar i) := by
 intro pins s σ H Q I h
 obtain ⟨v, e, h⟩ := h
 obtain ⟨m, hn, hl⟩ := I.loc
 obtain ⟨u, r, l⟩ := hl i x v hN e hv
 have fin : EP X pins σ Q u s := ⟨v, H, I, r, h⟩
 rcases l with ⟨hk, hm⟩ | ⟨hk, c, hc, hcell⟩
 · exact wpAny_Name (wpAny_loadName_local I.ok.kind hk hn hm fin) hd
 · rcases hk with hk | hk
   · exact wpAny_Name (wpAny_loadName_cell I.ok.kind hk hc hcell fin) hd
   · exact wpAny_Name (wpAny_loadName_free I.ok.kind hk hc hcell fin hcd) hd
theorem pqi {i j pos} : PE X (.Constant (.int i) j pos) (tC (.int i)) := fun _ _ _ H _ I h => wpAny_Constant_int ⟨.int i, H, I.tok _, ⟨_, rfl⟩, h⟩
theorem pe_bl {b j pos} : PE X (.Constant (.bool b) j pos) (tC (.bl b)) := fun _ _ _ H _ I h => Constant_bool ⟨.bl b, H, I, rfl, h⟩
theorem pe_non {j pos} : PE X (.Constant .none j pos) (tC .non) := fun _ _ _ H _ I h => Constant_none ⟨.non, H, I, rfl, h⟩
theorem pe_str {x j pos} : PE X (.Constant (.str x) j pos) (tC (.str x)) := fun _ _ _ H _ I h => Calls.Constant_str ⟨.str x, H, I.tok _, ⟨_, rfl⟩, h⟩
def Gl (X : Cx) (x : Str) : Prop := X.env.kindOf x = some .globalImplicit
theorem ld_glob {E : Value → Shared → Prop} {pins : List (Addr × Obj)} {s : Shared} {σ : St} {H : Hp} {x : Str} {u : Value} {pos : Pos} {Q : Value → Shared → Prop} (I : Inv X pins σ H s) (hg : Gl X x) (hm : X.mg x = some u) (h : Q u s)
   (hd : (x == ("__debug__" : Str)) = false := by decide) : wpAny (model X.prog X.w) X.A (eval (.Name x pos) X.env) Q E s :=
 Calls.Name_function_global I.ok.kind hg (Calls.loadGlobal_global (by rw [I.ok.glob]; exact I.mod.glob.keeps I.bk) hm h) hd
theorem ld_blt {E : Value → Shared → Prop} {pins : List (Addr × Obj)} {s : Shared} {σ : St} {H : Hp} {x : Str} {u : Value} {pos : Pos} {Q : Value → Shared → Prop} (I : Inv X pins σ H s) (hg : Gl X x) (hm : X.mg x = none) (hv : bootBuiltins x = some u) (h : Q u s)
   (hn : x ≠ "__name__" := by decide) (hd : (x == ("__debug__" : Str)) = false := by decide) : wpAny (model X.prog X.w) X.A (eval (.Name x pos) X.env) Q E s := by
 obtain ⟨mb, h1, h2⟩ := I.mod.blt
 exact Calls.Name_function_global I.ok.kind hg (Calls.loadGlobal_builtin (by rw [I.ok.glob]; exact I.mod.glob.keeps I.bk) hm (by rw [I.ok.blt]; exact h1.keeps I.bk) ((h2 x hn).trans hv) h) hd
theorem pe_glob {x : Str} {v : V} {u : Value} {pos : Pos} (hg : Gl X x) (hm : X.mg x = some u) (r : RelV v u) (hd : (x == ("__debug__" : Str)) = false := by decide) : PE X (.Name x pos) (tC v) :=
 fun _ _ _ H _ I h => ld_glob I hg hm ⟨v, H, I, r, h⟩ hd
theorem pe_bltn {x : Str} {v : V} {u : Value} {pos : Pos} (hg : Gl X x) (hm : X.mg x = none) (hv : bootBuiltins x = some u) (r : RelV v u) (hn : x ≠ "__name__" := by decide) (hd : (x == ("__debug__" : Str)) = false := by decide) : PE X (.Name x pos) (tC v) :=
 fun _ _ _ H _ I h => ld_blt I hg hm hv ⟨v, H, I, r, h⟩ hn hd
variable {a b : Expr} {ta tb : TE} {pos : Pos}
def PC (X : Cx) (op : CmpOp) (a b : Expr) (t : TE) : Prop :=
 ∀ (pins : List (Addr × Obj)) (s : Shared) (σ : St) (H : Hp) (Q : VK), Inv X pins σ H s → t σ H Q →
   wpAny (model X.prog X.w) X.A (eval a X.env) (fun v s₁ => wpAny (model X.prog X.w) X.A (eval b X.env) (fun u s₂ => wpAny (model X.prog X.w) X.A (compareOp op v u) (EP X pins σ Q) X.xe s₂) X.xe s₁) X.xe s
theorem nobehind (b : Expr) {op : CmpOp} (h : op ≠ .In) (h2 : op ≠ .NotIn) : behindInMarks op b = false := by
 have e1 : (op == CmpOp.In) = false := by cases op <;> first | rfl | exact absurd rfl h
 have e2 : (op == CmpOp.NotIn) = false := by cases op <;> first | rfl | exact absurd rfl h2
 cases b <;> simp [behindInMarks, e1, e2]
def tB (t : TE) : TT := fun σ H Q => t σ H fun x H1 => ∃ c, x = .bl c ∧ Q c H1
theorem pt_cmp {op : CmpOp} {t : TE} (h : PC X op a b t) (h1 : behindInMarks op b = false := by first | exact nobehind _ (by decide) (by decide) | rfl) : PT X (.Compare a [op] [b] pos) (tB t) := by
 intro pins s σ H Q I hw
 refine wpAny_isTrue_Compare1 (thn (h pins s σ H _ I hw) fun v s1 h1 => thn h1 fun u s2 h2 => thn h2 fun c s3 ⟨x, H1, I1, r1, q1⟩ => ?_) h1
 obtain ⟨d, rfl, q⟩ := q1
 cases r1
 exact wpAny_truthy_bool ⟨H1, I1, q⟩
theorem pt_val {e : Expr} {t : TE} (h : PE X e t) (he : ∀ whole, isTrue e X.env whole = (do let v ← whole; standAt e.pos; holding [v] (truthy v)) := by intro _; rfl) : PT X e (tB t) := by
 intro pins s σ H Q I hw
 refine isTrue_plain (thn (h pins s σ H _ I hw) fun v s1 ⟨x, H1, I1, r1, q1⟩ => ?_) (he _)
 obtain ⟨d, rfl, q⟩ := q1
 cases r1
 exact wpAny_truthy_bool ⟨H1, I1, q⟩
variable {tA tB' : TT} {rest : List Expr}
def tAnd (t u : TT) : TT := fun σ H Q => t σ H fun c H1 => if c = true then u σ H1 Q else Q false H1
def tOr (t u : TT) : TT := fun σ H Q => t σ H fun c H1 => if c = true then Q true H1 else u σ H1 Q
def tNot (t : TT) : TT := fun σ H Q => t σ H fun c H1 => Q (!c) H1
theorem pw_and1 (ha : PT X a tA) : PW X (.BoolOp .And [a] pos) tA := by
 intro wh pins s σ H Q I h
 refine isTrue_and (thn (ha pins s σ H Q I h) fun c s1 e => ?_)
 cases c with
 | true => exact isTrue_and_nil e
 | false => exact e
theorem pw_or1 (ha : PT X a tA) : PW X (.BoolOp .Or [a] pos) tA := by
 intro wh pins s σ H Q I h
 refine isTrue_or (thn (ha pins s σ H Q I h) fun c s1 e => ?_)
 cases c with
 | false => exact isTrue_or_nil e
 | true => exact e
theorem pw_and (ha : PT X a tA) (hb : PW X (.BoolOp .And (b :: rest) pos) tB') : PW X (.BoolOp .And (a :: b :: rest) pos) (tAnd tA tB') := by
 intro wh pins s σ H Q I h
 refine isTrue_and (thn (ha pins s σ H _ I h) fun c s1 ⟨H1, I1, q1⟩ => ?_)
 cases c with
 | true => exact hb wh pins s1 σ H1 Q I1 q1
 | false => exact ⟨H1, I1, q1⟩
theorem pw_or (ha : PT X a tA) (hb : PW X (.BoolOp .Or (b :: rest) pos) tB') : PW X (.BoolOp .Or (a :: b :: rest) pos) (tOr tA tB') := by
 intro wh pins s σ H Q I h
 refine isTrue_or (thn (ha pins s σ H _ I h) fun c s1 ⟨H1, I1, q1⟩ => ?_)
 cases c with
 | true => exact ⟨H1, I1, q1⟩
 | false => exact hb wh pins s1 σ H1 Q I1 q1
theorem pt_not (ha : PT X a tA) : PT X (.UnaryOp .Not a pos) (tNot tA) := by
 intro pins s σ H Q I h
 exact isTrue_not (ha pins s σ H (fun c H1 => Q (!c) H1) I h)
def tAndV (ta tb : TE) : TE := fun σ H Q => ta σ H fun x H1 => ∃ c, x = .bl c ∧ if c = true then tb σ H1 Q else Q (.bl false) H1
def tNotV (ta : TE) : TE := fun σ H Q => ta σ H fun x H1 => ∃ c, x = .bl c ∧ Q (.bl (!c)) H1
theorem pe_one {op} {t : TE} (h : PE X a t) : PE X (.BoolOp op [a] pos) t := fun pins s σ H Q I hw => BoolOp_one (h pins s σ H Q I hw)
theorem pe_and (ha : PE X a ta) (hb : PE X (.BoolOp .And (b :: rest) pos) tb) : PE X (.BoolOp .And (a :: b :: rest) pos) (tAndV ta tb) := by
 intro pins s σ H Q I h
 refine BoolOp_and (thn (ha pins s σ H _ I h) fun v s1 ⟨x, H1, I1, r1, q1⟩ => ?_)
 obtain ⟨c, rfl, q1⟩ := q1
 cases r1
 refine wpAny_truthy_bool ?_
 cases c with
 | true => exact hb pins s1 σ H1 Q I1 q1
 | false => exact ⟨.bl false, H1, I1, rfl, q1⟩
theorem pe_not (ha : PE X a ta) : PE X (.UnaryOp .Not a pos) (tNotV ta) := by
 intro pins s σ H Q I h
 refine UnaryOp_ (thn (ha pins s σ H _ I h) fun v s1 ⟨x, H1, I1, r1, q1⟩ => ?_)
 obtain ⟨c, rfl, q1⟩ := q1
 cases r1
 exact not_of (wpAny_truthy_bool ⟨.bl (!c), H1, I1, rfl, q1⟩)
end
end L2
namespace L2
open PySem PySem.Spec PyProof.Rows
def SqL (K : PySem.W.Frag) (H : Hp) (a : Addr) (xs : List V) : Prop :=
 Rd H a (.lst xs) ∨
   ∃ (o : Obj) (its : Array Value) (n : Nat), K.lookup a = some o ∧ o.cls = .type "list" ∧ o.dict = none ∧ o.data = .seq its n ∧ its.size ≤ sizeLine ∧ Vals xs its.toList
def SqT (K : PySem.W.Frag) (H : Hp) (a : Addr) (xs : List V) : Prop :=
 Rd H a (.tup xs) ∨
   ∃ (o : Obj) (its : Array Value) (n : Nat), K.lookup a = some o ∧ o.cls = .type "tuple" ∧ o.data = .seq its n ∧ its.size ≤ sizeLine ∧ Vals xs its.toList
def absV : Value → Option V
 | .none => some .non
 | .bool b => some (.bl b)
 | .int i _ => some (.int i)
 | .str x _ => some (.str x)
 | .bytes b _ => some (.byt b)
 | .float b _ => some (.flt b)
 | .ref a => some (.ref a)
 | .type n => some (.ty n)
 | _ => none
theorem RelV.abs {x : V} {u : Value} (r : RelV x u) : absV u = some x := by
 cases x with
 | non => cases r; rfl
 | bl _ => cases r; rfl
 | int _ => obtain ⟨t, rfl⟩ := r; rfl
 | str _ => obtain ⟨t, rfl⟩ := r; rfl
 | byt _ => obtain ⟨t, rfl⟩ := r; rfl
 | flt _ => obtain ⟨t, rfl⟩ := r; rfl
 | ref _ => cases r; rfl
 | ty _ => cases r; rfl
theorem RelV.inj {x y : V} {u : Value} (r : RelV x u) (q : RelV y u) : x = y := Option.some.inj (r.abs.symm.trans q.abs)
theorem Vals.inj : ∀ {xs ys : List V} {us : List Value}, Vals xs us → Vals ys us → xs = ys
 | _, _, _, .nil, .nil => rfl
 | _, _, _, .cons r t, .cons r' t' => by rw [r.inj r', Vals.inj t t']
section
variable {X : Cx} {pins : List (Addr × Obj)} {σ : St} {H : Hp} {s : Shared} {a : Addr} {xs ys : List V}
theorem SqL.of {K : PySem.W.Frag} (h : H a = some (.lst xs)) : SqL K H a xs := .inl (.inl h)
theorem SqT.of {K : PySem.W.Frag} (h : H a = some (.tup xs)) : SqT K H a xs := .inl (.inl h)
theorem Inv.list (I : Inv X pins σ H s) (h : SqL X.K H a xs) : ∃ its : List Value, Vals xs its ∧ PlainL s.heap a its.toArray ∧ xs.length ≤ sizeLine := by
 rcases h with h | ⟨o, its, n, hk, hc, hd, hs, hz, r⟩
 · obtain ⟨z, its, n, r, e⟩ := h.ok I.hok
   exact ⟨its, r, ⟨_, n, e, rfl, rfl, rfl⟩, z⟩
 · refine ⟨its.toList, r, ⟨o, n, I.kIn a o hk, hc, hd, by simpa using hs⟩, ?_⟩
   have e := r.length
   simp only [Array.length_toList] at e
   omega
theorem Inv.tuple (I : Inv X pins σ H s) (h : SqT X.K H a xs) : ∃ its : List Value, Vals xs its ∧ IsTup s.heap a its.toArray ∧ xs.length ≤ sizeLine := by
 rcases h with h | ⟨o, its, n, hk, hc, hs, hz, r⟩
 · obtain ⟨z, its, r, p⟩ := h.ok I.hok
   exact ⟨its, r, p, z⟩
 · refine ⟨its.toList, r, ⟨o, I.kIn a o hk, hc, n, by simpa using hs⟩, ?_⟩
   have e := r.length
   simp only [Array.length_toList] at e
   omega
theorem Inv.list_inj (I : Inv X pins σ H s) (h : SqL X.K H a xs) (h' : SqL X.K H a ys) : xs = ys := by
 obtain ⟨its, r, ⟨o, n, e, _, _, d⟩, _⟩ := I.list h
 obtain ⟨its', r', ⟨o', n', e', _, _, d'⟩, _⟩ := I.list h'
 rw [e] at e'; cases e'
 rw [d] at d'
 injection d' with d1 _
 have : its = its' := by simpa using congrArg Array.toList d1
 subst this
 exact r.inj r'
end
abbrev Cx.wish (X : Cx) (E : Value → Shared → Prop) : Cx := { X with xe := E }
abbrev Cx.nox (X : Cx) : Cx := X.wish fun _ _ => False
theorem Cx.Ok.wish {X : Cx} (ok : X.Ok) (E : Value → Shared → Prop) : (X.wish E).Ok :=
 ⟨ok.mod, ok.kind, ok.glob, ok.blt, ok.above, ok.inj, ok.has, ok.cab, ok.hd, ok.frames, ok.stk, ok.exf, ok.bs, ok.bsz, ok.noex, ok.exfs, ok.funs, ok.frf⟩
theorem Cx.Ok.unwish {X : Cx} {E : Value → Shared → Prop} (ok : (X.wish E).Ok) : X.Ok :=
 ⟨ok.mod, ok.kind, ok.glob, ok.blt, ok.above, ok.inj, ok.has, ok.cab, ok.hd, ok.frames, ok.stk, ok.exf, ok.bs, ok.bsz, ok.noex, ok.exfs, ok.funs, ok.frf⟩
section
variable {X : Cx} {pins : List (Addr × Obj)} {σ : St} {H : Hp} {s : Shared} {E : Value → Shared → Prop}
theorem Inv.wish (I : Inv X pins σ H s) (E : Value → Shared → Prop) : Inv (X.wish E) pins σ H s := ⟨I.ok.wish E, I.os, I.bare, I.base, I.loc, I.cell, I.free, I.freeC, I.pin, I.hok, I.len⟩
theorem Inv.unwish (I : Inv (X.wish E) pins σ H s) : Inv X pins σ H s := ⟨I.ok.unwish, I.os, I.bare, I.base, I.loc, I.cell, I.free, I.freeC, I.pin, I.hok, I.len⟩
theorem SP.unwish {D : Ends} {f : Flow} {s' : Shared} (h : SP (X.wish E) pins D f s') : SP X pins D f s' := by
 cases f with
 | next => obtain ⟨σ', H', I, q⟩ := h; exact ⟨σ', H', I.unwish, q⟩
 | brk => obtain ⟨σ', H', I, q⟩ := h; exact ⟨σ', H', I.unwish, q⟩
 | cont => obtain ⟨σ', H', I, q⟩ := h; exact ⟨σ', H', I.unwish, q⟩
 | ret u => obtain ⟨v, σ', H', I, r, q⟩ := h; exact ⟨v, σ', H', I.unwish, r, q⟩
theorem PE.nox {e : Expr} {t : TE} (h : PE X.nox e t) : PE X e t := fun pins s σ H Q I hw =>
 wpAny_mono (h pins s σ H Q (I.wish _) hw) (fun _ _ ⟨v, H', I', r, q⟩ => ⟨v, H', I'.unwish, r, q⟩) fun _ _ z => False.elim z
theorem PT.nox {e : Expr} {t : TT} (h : PT X.nox e t) : PT X e t := fun pins s σ H Q I hw =>
 wpAny_mono (h pins s σ H Q (I.wish _) hw) (fun _ _ ⟨H', I', q⟩ => ⟨H', I'.unwish, q⟩) fun _ _ z => False.elim z
theorem PSs.nox {st : List Stmt} {t : TS} (h : PSs X.nox st t) : PSs X st t := fun pins s σ H D I hw =>
 wpAny_mono (h pins s σ H D (I.wish _) hw) (fun _ _ q => q.unwish) fun _ _ z => False.elim z
end
section
variable {X : Cx} {st : Stmt} {rest : List Stmt} {t u : TS} {e : Expr} {te : TE} {pos : Pos}
def tNext : TS := fun D σ H => D.nx σ H
def tSeq (t u : TS) : TS := fun D σ H => t { D with nx := u D } σ H
theorem pss_nil : PSs X [] tNext := fun _ _ σ H _ I h => wpAny_execs_nil ⟨σ, H, I, h⟩
theorem pqc (h1 : PS X st t) (h2 : PSs X rest u) : PSs X (st :: rest) (tSeq t u) := by
 intro pins s σ H D I h
 refine wpAny_execs_cons (thn (h1 pins s σ H { D with nx := u D } I h) fun f s1 q => ?_)
 cases f with
 | next =>
   obtain ⟨σ', H', I', q⟩ := q
   exact h2 pins s1 σ' H' D I' q
 | ret v => exact q
 | brk => exact q
 | cont => exact q
theorem pqo (h1 : PS X st t) : PSs X [st] t := by
 intro pins s σ H D I h
 refine wpAny_execs_cons (thn (h1 pins s σ H D I h) fun f s1 q => ?_)
 cases f with
 | next => exact wpAny_execs_nil q
 | ret v => exact q
 | brk => exact q
 | cont => exact q
theorem Inv.quiet {pins : List (Addr × Obj)} {σ : St} {H : Hp} {s : Shared} (I : Inv X pins σ H s) : interactive X.env = false := by simp [interactive, I.ok.kind]
def tDrop (te : TE) : TS := fun D σ H => te σ H fun _ H1 => D.nx σ H1
theorem ps_expr (he : PE X e te) (hs : swapsWith e none pos.line X.env = pure false := by rfl) : PS X (.Expr e pos) (tDrop te) := by
 intro pins s σ H D I h
 exact wpAny_Expr_any (thn (he pins s σ H _ I h) fun v s1 ⟨x, H1, I1, r1, q1⟩ => ⟨σ, H1, I1, q1⟩) I.quiet hs
def tRet (te : TE) : TS := fun D σ H => te σ H D.rt
theorem ps_ret (he : PE X e te) : PS X (.Return (some e) pos) (tRet te) := by
 intro pins s σ H D I h
 exact wpAny_Return_some (thn (he pins s σ H _ I h) fun v s1 ⟨x, H1, I1, r1, q1⟩ => ⟨x, σ, H1, I1, r1, q1⟩)
def tIfS (c : TT) (t u : TS) : TS := fun D σ H => c σ H fun b H1 => if b = true then t D σ H1 else u D σ H1
theorem ps_if {c : Expr} {a b : List Stmt} {tc : TT} (hc : PT X c tc) (ha : PSs X a t) (hb : PSs X b u) : PS X (.If c a b pos) (tIfS tc t u) := by
 intro pins s σ H D I h
 refine wpAny_If (thn (hc pins s σ H _ I h) fun d s1 ⟨H1, I1, q1⟩ => ?_)
 cases d with
 | true => exact ha pins s1 σ H1 D I1 q1
 | false => exact hb pins s1 σ H1 D I1 q1
def tNever : TS := fun _ _ _ => False
theorem ps_never : PS X st tNever := fun _ _ _ _ _ _ h => h.elim
end
abbrev TG := V → St → Hp → (St → Hp → Prop) → Prop
abbrev TGs := List V → St → Hp → (St → Hp → Prop) → Prop
def PG (X : Cx) (target : Expr) (t : TG) : Prop :=
 ∀ (pins : List (Addr × Obj)) (s : Shared) (σ : St) (H : Hp) (v : V) (u : Value) (Q : St → Hp → Prop), Inv X pins σ H s → RelV v u → t v σ H Q →
   wpAny (model X.prog X.w) X.A (assign target X.env u) (fun _ s' => ∃ σ' H', Inv X pins σ' H' s' ∧ Q σ' H') X.xe s
def PGs (X : Cx) (ts : List Expr) (t : TGs) : Prop :=
 ∀ (pins : List (Addr × Obj)) (s : Shared) (σ : St) (H : Hp) (vs : List V) (us : List Value) (Q : St → Hp → Prop), Inv X pins σ H s → Vals vs us → t vs σ H Q →
   wpAny (model X.prog X.w) X.A (assignInOrder ((assignEach ts X.env).map (·.2)) us) (fun _ s' => ∃ σ' H', Inv X pins σ' H' s' ∧ Q σ' H') X.xe s
section
variable {X : Cx} {pos : Pos}
def gName (i : Nat) : TG := fun v σ H Q => Q (σ.set i (some v)) H
theorem pg_name {i : Nat} {x : Str} (hN : X.N.Nodup) (hi : X.N[i]? = some x) (hx : Loc X.env.scope x) (hf : X.fn x = true ∨ X.env.scope.names.lookup x = some .local := by first | exact .inl rfl | exact .inr rfl | assumption) : PG X (.Name x pos) (gName i) := by
 intro pins s σ H v u Q I r h
 exact wpAny_assign_Name (store_ok I hN hi hx r (fun s' I' => ⟨_, H, I', h⟩) hf)
def gNil : TGs := fun vs σ H Q => vs = [] ∧ Q σ H
def gCons (t : TG) (u : TGs) : TGs := fun vs σ H Q => ∃ v r, vs = v :: r ∧ t v σ H fun σ' H' => u r σ' H' Q
theorem pgs_nil : PGs X [] gNil := by
 intro pins s σ H vs us Q I r h
 obtain ⟨e, h⟩ := h
 subst e
 cases r
 exact assignInOrder_nil ⟨σ, H, I, h⟩
theorem pgs_cons {e : Expr} {es : List Expr} {t : TG} {u : TGs} (h1 : PG X e t) (h2 : PGs X es u)
   (hs : (assignEach (e :: es) X.env).map (·.2) = assign e X.env :: (assignEach es X.env).map (·.2) := by rfl) : PGs X (e :: es) (gCons t u) := by
 intro pins s σ H vs us Q I r h
 obtain ⟨v, vr, e1, h⟩ := h
 subst e1
 cases r with
 | cons r rr =>
   rw [hs]
   refine assignInOrder_cons (thn (h1 pins s σ H _ _ _ I r h) fun _ s1 ⟨σ1, H1, I1, q1⟩ => ?_)
   exact h2 pins s1 σ1 H1 _ _ Q I1 rr q1
def gTup (K : PySem.W.Frag) (n : Nat) (t : TGs) : TG := fun v σ H Q => ∃ a xs, v = .ref a ∧ SqT K H a xs ∧ xs.length = n ∧ t xs σ H Q
theorem pg_tup {es : List Expr} {k : Nat} {t : TGs} {n : Nat} (hc : X.calm = true) (h : PGs X es t)
   (hn : (assignEach es X.env).length = n := by rfl) (hst : (assignEach es X.env).findIdx? (·.1) = none := by rfl) : PG X (.Tuple es k pos) (gTup X.K n t) := by
 intro pins s σ H v u Q I r hw
 obtain ⟨a, xs, e1, hq, hl, hw⟩ := hw
 subst e1
 cases r
 obtain ⟨its, rv, ht, hz⟩ := I.tuple hq
 refine assign_Tuple_tuple (I.ok.hd hc) ht (by simp [hn, ← hl, rv.length]) hst fun h' hx => ?_
 have I1 : Inv X pins σ H { s with heap := h' } := I.kept (t' := s.toks) fun b o e => hx b o (Nat.ne_of_lt (Heap.lt_size e)) e
 exact h pins _ σ H xs _ Q I1 (by simpa using rv) hw
def tAsg (te : TE) (g : TG) : TS := fun D σ H => te σ H fun x H1 => g x σ H1 D.nx
theorem ps_set {i : Nat} {x : Str} {e : Expr} {te : TE} {pos' : Pos} (hN : X.N.Nodup) (hi : X.N[i]? = some x) (hx : Loc X.env.scope x) (he : PE X e te) (hs : swapsWith e (some (.Name x pos')) pos.line X.env = pure false := by rfl) (hf : X.fn x = true ∨ X.env.scope.names.lookup x = some .local := by first | exact .inl rfl | exact .inr rfl | assumption) :
   PS X (.Assign [.Name x pos'] e pos) (tAsg te (gName i)) := by
 intro pins s σ H D I h
 refine wpAny_Assign_Name (thn (he pins s σ H _ I h) fun v s1 ⟨y, H1, I1, r1, q1⟩ => ?_) hs
 exact store_ok I1 hN hi hx r1 (fun s2 I2 => ⟨_, H1, I2, q1⟩) hf
end
section
variable {X : Cx} {pos : Pos}
def tWhile (c : TT) (tb : TS) : TS := fun D σ H => ∃ W : Nat → St → Hp → Prop, (∃ m, W m σ H) ∧ ∀ m σ H, W m σ H →
 c σ H fun b H1 => if b = true then ∃ N : St → Hp → Prop, (∀ σ' H', N σ' H' → ∃ m', m' < m ∧ W m' σ' H') ∧ tb { D with nx := N, ct := N, bk := D.nx } σ H1 else D.nx σ H1
theorem ps_while {c : Expr} {body : List Stmt} {tc : TT} {tb : TS} (hp : PassesOwn (model X.prog X.w) X.A X.env X.xe) (hc : PT X c tc) (hb : PSs X body tb) : PS X (.While c body [] pos) (tWhile tc tb) := by
 intro pins s σ H D I h
 obtain ⟨W, ⟨m0, w0⟩, turn⟩ := h
 refine wpAny_While (codeAny_whileLoop (fun n s' => ∃ σ' H', Inv X pins σ' H' s' ∧ W n σ' H') ?_ m0 ⟨σ, H, I, w0⟩)
 rintro n s1 ⟨σ1, H1, I1, w1⟩
 refine wpAny_passesOwn hp (thn (hc pins s1 σ1 H1 _ I1 (turn n σ1 H1 w1)) fun b s2 ⟨H2, I2, q2⟩ => ?_)
 cases b with
 | true =>
   obtain ⟨N, hN, q2⟩ := q2
   rw [if_pos rfl]
   refine wpAny_passesOwn hp (thn (hb pins s2 σ1 H2 _ I2 q2) fun f s3 q3 => ?_)
   cases f with
   | next =>
     obtain ⟨σ3, H3, I3, n3⟩ := q3
     obtain ⟨m', hm, w3⟩ := hN σ3 H3 n3
     exact ⟨m', hm, σ3, H3, I3, w3⟩
   | cont =>
     obtain ⟨σ3, H3, I3, n3⟩ := q3
     obtain ⟨m', hm, w3⟩ := hN σ3 H3 n3
     exact ⟨m', hm, σ3, H3, I3, w3⟩
   | brk => exact q3
   | ret v => exact q3
 | false =>
   rw [if_neg Bool.false_ne_true]
   exact wpAny_execs_nil ⟨σ1, H2, I2, q2⟩
end
structure It where
 go : Nat → Hp → Prop
 yld : Nat → Hp → V → Hp → Prop
 stop : Nat → Hp → Prop
def FpOk (X : Cx) (pins : List (Addr × Obj)) (H : Hp) (b : Addr) : Prop :=
 H b = none ∧ b ≠ X.env.locals ∧ b ∉ X.fs ∧ (b ∈ X.ex ∨ X.s₀.heap.objs.size ≤ b) ∧ (∀ x c, X.env.cells.lookup x = some c → c ≠ b) ∧ ∀ p ∈ X.pn ++ pins, p.1 ≠ b
theorem Inv.fpOk {X : Cx} {pins : List (Addr × Obj)} {σ : St} {H H' : Hp} {s : Shared} {b : Addr} (I : Inv X pins σ H s) (hb : s.heap.objs.size ≤ b) (hn : H' b = none) : FpOk X pins H' b := by
 refine ⟨hn, Nat.ne_of_gt (Nat.lt_of_lt_of_le I.lt hb), I.nofs hb, .inr (Nat.le_trans I.sz hb), fun x c e z => ?_, fun p hp z => ?_⟩
 · obtain ⟨v, q⟩ := I.cell x c e
   exact absurd (Nat.lt_of_lt_of_le q.lt (by rw [z]; exact hb)) (Nat.lt_irrefl _)
 · exact absurd (Nat.lt_of_lt_of_le (Heap.lt_size (I.pin p hp).1) (by rw [z]; exact hb)) (Nat.lt_irrefl _)
structure Turn (P : Program) (w : World) (K : PySem.W.Frag) (tg : Expr) (J : It) (fp : List Addr) (it : Addr) (tn : Nat → Heap → Prop) : Prop where
 mem : it ∈ fp
 obj : ∀ i h, tn i h → ∀ b ∈ fp, ∃ o, h.get? b = some o ∧ ∀ v, o.data ≠ .cell v
 keep : ∀ i h h', tn i h → (∀ b ∈ fp, ∀ o, h.get? b = some o → h'.get? b = some o) → tn i h'
 item : ∀ (X : Cx), X.prog = P → X.w = w → X.K = K → X.calm = true → ∀ (i : Nat) (pins : List (Addr × Obj)) (s : Shared) (σ : St) (H : Hp) (E : Value → Shared → Prop), Inv X pins σ H s → (∀ b ∈ fp, FpOk X pins H b) → tn i s.heap → J.go i H →
   wpAny (model P w) X.A (pyNext (.ref it)) (fun r s1 => ∃ u, r = some u ∧
     wpAny (model P w) X.A (letOwnedTupleGo tg (.ref it) u) (fun _ s2 => ∃ x H', Inv X pins σ H' s2 ∧ RelV x u ∧ J.yld i H x H' ∧ tn (i + 1) s2.heap ∧ ∀ b ∈ fp, H' b = none) E s1) E s
 done : ∀ (X : Cx), X.prog = P → X.w = w → X.K = K → X.calm = true → ∀ (i : Nat) (pins : List (Addr × Obj)) (s : Shared) (σ : St) (H : Hp) (E : Value → Shared → Prop), Inv X pins σ H s → (∀ b ∈ fp, FpOk X pins H b) → tn i s.heap → J.stop i H →
   wpAny (model P w) X.A (pyNext (.ref it)) (fun r s1 => r = none ∧ Inv X pins σ H s1) E s
 self : ∀ (A : Around) (i : Nat) (s : Shared) (Q : Value → Shared → Prop) (E : Value → Shared → Prop), tn i s.heap → Q (.ref it) s → wpAny (model P w) A (pyIter (.ref it)) Q E s
abbrev TI := St → Hp → (It → Hp → Prop) → Prop
def PIE (X : Cx) (pins : List (Addr × Obj)) (σ : St) (tg : Expr) (R : It → Hp → Prop) (itv : Value) (s2 : Shared) : Prop :=
 ∃ (it : Addr) (fp : List Addr) (tn : Nat → Heap → Prop) (J : It) (H' : Hp), itv = .ref it ∧ Inv X pins σ H' s2 ∧ Turn X.prog X.w X.K tg J fp it tn ∧ tn 0 s2.heap ∧ (∀ b ∈ fp, FpOk X pins H' b) ∧ R J H'
def PI (X : Cx) (tg iter : Expr) (wi : TI) : Prop :=
 ∀ (pins : List (Addr × Obj)) (s : Shared) (σ : St) (H : Hp) (R : It → Hp → Prop), Inv X pins σ H s → wi σ H R →
   wpAny (model X.prog X.w) X.A (eval iter X.env) (fun v s1 => wpAny (model X.prog X.w) X.A (pyIter v) (PIE X pins σ tg R) X.xe s1) X.xe s
theorem go_of {M : Model} {A : Around} {E : Value → Shared → Prop} {s : Shared} {tg : Expr} {it : Addr} {u : Value} {o : Obj} {n : String} {vs : Array Value} {Q : Unit → Shared → Prop} (ho : s.heap.get? it = some o) (hc : o.cls = .type n) (hd : o.data = .fields vs)
   (hn : ["enumerate", "zip", "dict_itemiterator", "dict_reverseitemiterator", "odict_iterator", "itertools.zip_longest", "itertools.pairwise"].contains n = false) (hQ : Q () s) : wpAny M A (letOwnedTupleGo tg (.ref it) u) Q E s := by
 unfold letOwnedTupleGo
 cases tg <;> first
   | exact wpAny_pure hQ
   | (cases u <;> first
       | exact wpAny_pure hQ
       | (refine wpAny_bind (wpAny_load ho ?_)
          rw [hc, hd]
          show wpAny M A (if (["enumerate", "zip", "dict_itemiterator", "dict_reverseitemiterator", "odict_iterator", "itertools.zip_longest", "itertools.pairwise"].contains n && vs[0]? == some (rawInt _)) = true then _ else _) Q E s
          rw [if_neg (by intro h; rw [hn, Bool.false_and] at h; cases h)]
          exact wpAny_pure hQ))
def Itl (K : PySem.W.Frag) (a : Addr) : It :=
 ⟨fun i H => ∃ xs x, SqL K H a xs ∧ xs[i]? = some x, fun i H x H' => H' = H ∧ ∀ xs, SqL K H a xs → xs[i]? = some x, fun i H => ∃ xs, SqL K H a xs ∧ xs.length ≤ i⟩
def Itr (lo : Int) (n : Nat) : It := ⟨fun i _ => i < n, fun i H x H' => H' = H ∧ x = .int (lo + i), fun i _ => n ≤ i⟩
theorem turn_list {P : Program} {w : World} {K : PySem.W.Frag} {tg : Expr} (a it : Addr) : Turn P w K tg (Itl K a) [it] it (fun i h => h.IsListIter it a i) where
 mem := by simp
 obj := fun i h st b hb => by
   have e : b = it := by simpa using hb
   subst e
   obtain ⟨o, e, c, d⟩ := st
   exact ⟨o, e, fun v z => by rw [d] at z; cases z⟩
 keep := fun i h h' st k => st.at fun o e => k it (by simp) o e
 item := by
   intro X hP hw hK hc i pins s σ H E I hf st hg
   subst hP hw hK
   obtain ⟨xs, x, hq, hx⟩ := hg
   obtain ⟨its, rv, p, hz⟩ := I.list hq
   obtain ⟨u, hu, ru⟩ := rv.get hx
   obtain ⟨f0, f1, f2, f3, f4, f5⟩ := hf it (by simp)
   refine wpAny_pyNext_list_item st p.isList (x := u) (by simpa using hu) fun h' st' sb => ?_
   have I1 : Inv X pins σ H { s with heap := h' } := I.turned (t' := s.toks) (fun b o hb e => (sb.2 b hb).trans e) f0 f1 f3 f4 f5
   obtain ⟨o, e, c, d⟩ := id st'
   exact ⟨u, rfl, go_of (s := { s with heap := h' }) e c d (by decide) ⟨x, H, I1, ru, ⟨rfl, fun ys hy => by rw [I.list_inj hy hq]; exact hx⟩, st', fun b hb => (hf b hb).1⟩⟩
 done := by
   intro X hP hw hK hc i pins s σ H E I hf st hg
   subst hP hw hK
   obtain ⟨xs, hq, hx⟩ := hg
   obtain ⟨its, rv, p, hz⟩ := I.list hq
   obtain ⟨f0, f1, f2, f3, f4, f5⟩ := hf it (by simp)
   have hl := rv.length
   exact wpAny_pyNext_list_end (I.ok.hd hc) st p.isList (by simp; omega) fun h' eb => ⟨rfl, I.turned (t' := s.toks) (fun b o hb e => eb b o hb e) f0 f1 f3 f4 f5⟩
 self := fun _ _ _ _ _ st h => wpAny_pyIter_listiter st h
theorem turn_range {P : Program} {w : World} {K : PySem.W.Frag} {tg : Expr} (it : Addr) (lo : Int) (n : Nat) : Turn P w K tg (Itr lo n) [it] it (fun i h => IsRangeIter h it (lo + (i : Nat) * 1) ((n : Int) - (i : Nat)) 1) where
 mem := by simp
 obj := fun i h st b hb => by
   have e : b = it := by simpa using hb
   subst e
   exact ⟨_, st, fun v z => by
     have z' : Data.fields _ = Data.cell v := z
     cases z'⟩
 keep := fun i h h' st k => k it (by simp) _ st
 item := by
   intro X hP hw hK hc i pins s σ H E I hf st hg
   subst hP hw hK
   obtain ⟨f0, f1, f2, f3, f4, f5⟩ := hf it (by simp)
   have W := Walks.range (prog := X.prog) (w := X.w) (I.ok.hd hc) it lo 1 n
   refine W.item i s _ _ hg st fun v h' tk hv st' kk => ?_
   obtain ⟨t, rfl⟩ := hv
   have I1 : Inv X pins σ H { s with heap := h', toks := tk } := I.turned (fun b o hb e => kk b o (by simpa using hb) e) f0 f1 f3 f4 f5
   refine ⟨_, rfl, go_of (s := { s with heap := h', toks := tk }) (n := "range_iterator") st' rfl rfl (by decide) ⟨.int (lo + i), H, I1, ⟨t, ?_⟩, ⟨rfl, rfl⟩, st', fun b hb => (hf b hb).1⟩⟩
   rw [Int.mul_one]
 done := by
   intro X hP hw hK hc i pins s σ H E I hf st hg
   subst hP hw hK
   obtain ⟨f0, f1, f2, f3, f4, f5⟩ := hf it (by simp)
   exact wpAny_pyNext_range_end (I.ok.hd hc) st (by have : n ≤ i := hg; omega) fun h' eb => ⟨rfl, I.turned (t' := s.toks) (fun b o hb e => eb b o hb e) f0 f1 f3 f4 f5⟩
 self := fun _ _ _ _ _ st h => wpAny_pyIter_rangeiter st h
end L2
namespace L2
open PySem PySem.Spec PyProof.Rows
section
variable {X : Cx} {tg : Expr}
def iList (K : PySem.W.Frag) (tl : TE) : TI := fun σ H R => tl σ H fun x H1 => ∃ a, x = .ref a ∧ (∃ xs, SqL K H1 a xs) ∧ R (Itl K a) H1
theorem pi_list {l : Expr} {tl : TE} (hl : PE X l tl) : PI X tg l (iList X.K tl) := by
 intro pins s σ H R I h
 refine thn (hl pins s σ H _ I h) fun v s1 ⟨x, H1, I1, r1, q1⟩ => ?_
 obtain ⟨a, e, ⟨xs, hq⟩, q⟩ := q1
 subst e
 cases r1
 obtain ⟨its, rv, p, hz⟩ := I1.list hq
 refine wpAny_pyIter_list p.isList ?_
 refine ⟨s1.heap.objs.size, [s1.heap.objs.size], _, _, H1, rfl, I1.kept (t' := s1.toks) fun b o e => Heap.get?_push_of_some _ e, turn_list a _, ⟨_, Heap.get?_push_size _ rfl, rfl, rfl⟩, fun b hb => ?_, q⟩
 have e : b = s1.heap.objs.size := by simpa using hb
 subst e
 exact I1.fpOk (Nat.le_refl _) (I1.hok.fresh (Nat.le_refl _))
theorem range_it {pins : List (Addr × Obj)} {σ : St} {H : Hp} {s : Shared} {R : It → Hp → Prop} {E : Value → Shared → Prop} {lo hi : Int} {t u v : Tok} {tk : Nat} (I : Inv X pins σ H s) (h1 : -(2 ^ 62) ≤ lo) (h2 : lo < 2 ^ 62) (h3 : -(2 ^ 62) ≤ hi) (h4 : hi < 2 ^ 62)
   (q : R (Itr lo (hi - lo).toNat) H) : wpAny (model X.prog X.w) X.A (pyIter (.ref s.heap.objs.size)) (PIE X pins σ tg R) E { s with heap := s.heap.push { cls := .type "range", data := .fields #[.int lo t, .int hi u, .int 1 v] }, toks := tk } := by
 refine wpAny_pyIter_range (IsRange.new ..) (small_one h1 h2 h3 h4) ?_
 have I1 : Inv X pins σ H { s with heap := s.heap.push { cls := .type "range", data := .fields #[.int lo t, .int hi u, .int 1 v] }, toks := tk } := I.kept fun b o e => Heap.get?_push_of_some _ e
 refine ⟨(s.heap.push { cls := .type "range", data := .fields #[.int lo t, .int hi u, .int 1 v] }).objs.size, [(s.heap.push { cls := .type "range", data := .fields #[.int lo t, .int hi u, .int 1 v] }).objs.size], _, _, H, rfl,
   I1.kept (t' := tk) fun b o e => Heap.get?_push_of_some _ e, turn_range _ lo (hi - lo).toNat, ?_, fun b hb => ?_, q⟩
 · have e1 : lo + ((0 : Nat) : Int) * 1 = lo := by simp
   have e2 : (((hi - lo).toNat : Nat) : Int) - ((0 : Nat) : Int) = Builtin.Range.rangeSize lo hi 1 := by rw [rangeSize_one]; split <;> omega
   show IsRangeIter _ _ (lo + ((0 : Nat) : Int) * 1) ((((hi - lo).toNat : Nat) : Int) - ((0 : Nat) : Int)) 1
   rw [e1, e2]
   exact Heap.get?_push_size _ rfl
 · have e : b = (s.heap.push { cls := .type "range", data := .fields #[.int lo t, .int hi u, .int 1 v] }).objs.size := by simpa using hb
   subst e
   exact I1.fpOk (Nat.le_refl _) (I1.hok.fresh (Nat.le_refl _))
def iRng1 (ta : TA) : TI := fun σ H R => ta σ H fun vs H1 => ∃ j : Int, vs = [.int j] ∧ -(2 ^ 62) ≤ j ∧ j < 2 ^ 62 ∧ R (Itr 0 j.toNat) H1
theorem pi_range1 {a : Expr} {ta : TA} {p pos : Pos} (hg : Gl X "range") (hm : X.mg "range" = none) (ha : PA X [a] ta) (hs : starEach [a] X.env = [(false, eval a X.env)] := by rfl) : PI X tg (.Call (.Name "range" p) [a] [] pos) (iRng1 ta) := by
 intro pins s σ H R I h
 refine Call_ (ld_blt I hg hm boot_range (PyProof.Rows.callWith_type1 (thn (ha pos pins s σ H _ I h) fun us s1 ⟨vs, H1, I1, r1, q1⟩ => ?_) hs rfl))
 obtain ⟨j, e, q1, q2, q⟩ := q1
 subst e
 cases r1 with
 | cons r rr =>
   cases rr
   obtain ⟨t, rfl⟩ := r
   exact call_range_1 (range_it I1 (by omega) (by omega) q1 q2 (by simpa using q))
def tFor (wi : TI) (g : TG) (tb : TS) : TS := fun D σ H => wi σ H fun J H1 => ∃ W : Nat → Nat → St → Hp → Prop, (∃ m, W 0 m σ H1) ∧ ∀ i m σ H, W i m σ H →
 (J.stop i H ∧ D.nx σ H) ∨ (J.go i H ∧ ∃ N : St → Hp → Prop, (∀ σ' H', N σ' H' → ∃ m', m' < m ∧ W (i + 1) m' σ' H') ∧ ∀ x H', J.yld i H x H' → g x σ H' fun σ2 H2 => tb { D with nx := N, ct := N, bk := D.nx } σ2 H2)
def pinsAt (fp : List Addr) (h : Heap) : List (Addr × Obj) := fp.filterMap fun b => (h.get? b).map fun o => (b, o)
theorem mem_pinsAt {fp : List Addr} {h : Heap} {b : Addr} {o : Obj} (hb : b ∈ fp) (e : h.get? b = some o) : (b, o) ∈ pinsAt fp h := List.mem_filterMap.mpr ⟨b, hb, by rw [e]; rfl⟩
theorem of_pinsAt {fp : List Addr} {h : Heap} {p : Addr × Obj} (hp : p ∈ pinsAt fp h) : p.1 ∈ fp ∧ h.get? p.1 = some p.2 := by
 obtain ⟨b, hb, e⟩ := List.mem_filterMap.mp hp
 cases q : h.get? b with
 | none => rw [q] at e; cases e
 | some o =>
   rw [q] at e
   have e' : (b, o) = p := Option.some.inj e
   subst e'
   exact ⟨hb, q⟩
theorem Inv.pinned {pins : List (Addr × Obj)} {σ : St} {H : Hp} {s : Shared} {fp : List Addr} (I : Inv X pins σ H s) (hf : ∀ b ∈ fp, FpOk X pins H b) (ho : ∀ b ∈ fp, ∃ o, s.heap.get? b = some o ∧ ∀ v, o.data ≠ .cell v) : Inv X (pins ++ pinsAt fp s.heap) σ H s :=
 I.pins_of fun p hp => (List.mem_append.mp hp).elim (fun z => I.pin p (List.mem_append_right _ z)) fun z => by
   obtain ⟨hb, e⟩ := of_pinsAt z
   obtain ⟨f0, f1, f2, _⟩ := hf p.1 hb
   obtain ⟨o, e', d⟩ := ho p.1 hb
   rw [e] at e'; cases e'
   exact ⟨e, f0, f1, f2, d⟩
theorem Inv.unpinned {pins pl : List (Addr × Obj)} {σ : St} {H : Hp} {s : Shared} (I : Inv X (pins ++ pl) σ H s) : Inv X pins σ H s := I.pins_of fun p hp => I.pin p (List.mem_append_right _ (List.mem_append_left _ hp))
theorem ps_for {iter : Expr} {body : List Stmt} {wi : TI} {g : TG} {tb : TS} {pos : Pos} (hp : PassesOwn (model X.prog X.w) X.A X.env X.xe) (hc : X.calm = true) (hi : PI X tg iter wi) (hg : PG X tg g) (hb : PSs X body tb)
   (hs : ∀ x, foldedSetIterable iter X.env x = pure x := by intro _; rfl) : PS X (.For tg iter body [] pos) (tFor wi g tb) := by
 intro pins s σ H D I h
 refine wpAny_For (thn (hi pins s σ H _ I h) fun v s1 h1 => thn h1 fun itv s2 h2 => ?_) hs
 obtain ⟨it, fp, tn, J, H2, e, I2, T, st2, f2, W, ⟨m0, w0⟩, turn⟩ := h2
 subst e
 -- what stays true of the iterator's objects through the loop
 have stat : ∀ {H' : Hp}, (∀ b ∈ fp, H' b = none) → ∀ b ∈ fp, FpOk X pins H' b := fun hn b hb => ⟨hn b hb, (f2 b hb).2⟩
 refine codeAny_forLoop_any (fun n s' => ∃ i σ' H', Inv X pins σ' H' s' ∧ tn i s'.heap ∧ (∀ b ∈ fp, H' b = none) ∧ W i n σ' H') ?_ m0 ⟨0, σ, H2, I2, st2, fun b hb => (f2 b hb).1, w0⟩
 rintro n s3 ⟨i, σ3, H3, I3, st3, fr3, w3⟩
 rcases turn i n σ3 H3 w3 with ⟨stop, qn⟩ | ⟨go, N, hN, step⟩
 · refine wpAny_passesOwn hp (thn (T.done X rfl rfl rfl hc i pins s3 σ3 H3 X.xe I3 (stat fr3) st3 stop) fun r s4 ⟨hr, I4⟩ => ?_)
   subst hr
   exact wpAny_execs_nil ⟨σ3, H3, I4, qn⟩
 · refine wpAny_passesOwn hp (thn (T.item X rfl rfl rfl hc i pins s3 σ3 H3 X.xe I3 (stat fr3) st3 go) fun r s4 ⟨u, hr, h4⟩ => ?_)
   subst hr
   refine wpAny_passesOwn hp (thn h4 fun _ s5 ⟨x, H5, I5, r5, y5, st5, fr5⟩ => ?_)
   have I5' := I5.pinned (stat fr5) (T.obj _ _ st5)
   refine wpAny_passesOwn hp (thn (hg _ s5 σ3 H5 x u _ I5' r5 (step x H5 y5)) fun _ s6 ⟨σ6, H6, I6, q6⟩ => ?_)
   refine wpAny_passesOwn hp (thn (hb _ s6 σ6 H6 _ I6 q6) fun f s7 q7 => ?_)
   have again : ∀ {σ7 : St} {H7 : Hp}, Inv X (pins ++ pinsAt fp s5.heap) σ7 H7 s7 → N σ7 H7 → ∃ m, m < n ∧ ∃ i σ' H', Inv X pins σ' H' s7 ∧ tn i s7.heap ∧ (∀ b ∈ fp, H' b = none) ∧ W i m σ' H' := fun {σ7 H7} I7 n7 => by
     obtain ⟨m', hm, w7⟩ := hN σ7 H7 n7
     refine ⟨m', hm, i + 1, σ7, H7, I7.unpinned, T.keep _ _ _ st5 fun b hb o e => (I7.pin (b, o) (List.mem_append_right _ (List.mem_append_right _ (mem_pinsAt hb e)))).1, fun b hb => ?_, w7⟩
     obtain ⟨o, e, d⟩ := T.obj _ _ st5 b hb
     exact (I7.pin (b, o) (List.mem_append_right _ (List.mem_append_right _ (mem_pinsAt hb e)))).2.1
   cases f with
   | next => obtain ⟨σ7, H7, I7, n7⟩ := q7; exact again I7 n7
   | cont => obtain ⟨σ7, H7, I7, n7⟩ := q7; exact again I7 n7
   | brk => obtain ⟨σ7, H7, I7, q7⟩ := q7; exact ⟨σ7, H7, I7.unpinned, q7⟩
   | ret v => obtain ⟨x7, σ7, H7, I7, r7, q7⟩ := q7; exact ⟨x7, σ7, H7, I7.unpinned, r7, q7⟩
end
theorem for_list {K : PySem.W.Frag} {a : Addr} {xs : List V} {g : TG} {tb : TS} {D : Ends} {σ : St} {H : Hp} (Pv : Nat → St → Hp → Prop) (h0 : Pv 0 σ H) (hl : ∀ i σ H, i ≤ xs.length → Pv i σ H → SqL K H a xs)
   (hs : ∀ i x σ H, xs[i]? = some x → Pv i σ H → g x σ H fun σ2 H2 => tb { D with nx := Pv (i + 1), ct := Pv (i + 1), bk := D.nx } σ2 H2) (hd : ∀ σ H, Pv xs.length σ H → D.nx σ H) :
   ∃ W : Nat → Nat → St → Hp → Prop, (∃ m, W 0 m σ H) ∧ ∀ i m σ H, W i m σ H →
     ((Itl K a).stop i H ∧ D.nx σ H) ∨ ((Itl K a).go i H ∧ ∃ N : St → Hp → Prop, (∀ σ' H', N σ' H' → ∃ m', m' < m ∧ W (i + 1) m' σ' H') ∧ ∀ x H', (Itl K a).yld i H x H' → g x σ H' fun σ2 H2 => tb { D with nx := N, ct := N, bk := D.nx } σ2 H2) := by
 refine ⟨fun i m σ H => m = xs.length - i ∧ i ≤ xs.length ∧ Pv i σ H, ⟨xs.length, by simp, Nat.zero_le _, h0⟩, ?_⟩
 rintro i m σ H ⟨rfl, hi, p⟩
 have q := hl i σ H hi p
 by_cases hlt : i < xs.length
 · refine .inr ⟨⟨xs, xs[i], q, by simp [hlt]⟩, Pv (i + 1), fun σ' H' p' => ⟨xs.length - (i + 1), by omega, rfl, hlt, p'⟩, fun x H' y => ?_⟩
   obtain ⟨e, y⟩ := y
   subst e
   exact hs i x σ _ (y xs q) p
 · have e : i = xs.length := by omega
   subst e
   exact .inl ⟨⟨xs, q, Nat.le_refl _⟩, hd σ H p⟩
theorem for_range {lo : Int} {n : Nat} {g : TG} {tb : TS} {D : Ends} {σ : St} {H : Hp} (Pv : Nat → St → Hp → Prop) (h0 : Pv 0 σ H)
   (hs : ∀ i σ H, i < n → Pv i σ H → g (.int (lo + i)) σ H fun σ2 H2 => tb { D with nx := Pv (i + 1), ct := Pv (i + 1), bk := D.nx } σ2 H2) (hd : ∀ σ H, Pv n σ H → D.nx σ H) :
   ∃ W : Nat → Nat → St → Hp → Prop, (∃ m, W 0 m σ H) ∧ ∀ i m σ H, W i m σ H →
     ((Itr lo n).stop i H ∧ D.nx σ H) ∨ ((Itr lo n).go i H ∧ ∃ N : St → Hp → Prop, (∀ σ' H', N σ' H' → ∃ m', m' < m ∧ W (i + 1) m' σ' H') ∧ ∀ x H', (Itr lo n).yld i H x H' → g x σ H' fun σ2 H2 => tb { D with nx := N, ct := N, bk := D.nx } σ2 H2) := by
 refine ⟨fun i m σ H => m = n - i ∧ i ≤ n ∧ Pv i σ H, ⟨n, by simp, Nat.zero_le _, h0⟩, ?_⟩
 rintro i m σ H ⟨rfl, hi, p⟩
 by_cases hlt : i < n
 · refine .inr ⟨hlt, Pv (i + 1), fun σ' H' p' => ⟨n - (i + 1), by omega, rfl, hlt, p'⟩, fun x H' y => ?_⟩
   obtain ⟨e, y⟩ := y
   subst e y
   exact hs i σ _ hlt p
 · have e : i = n := by omega
   subst e
   exact .inl ⟨Nat.le_refl _, hd σ H p⟩
theorem while_by {c : TT} {tb : TS} {D : Ends} {σ : St} {H : Hp} (Pv : St → Hp → Prop) (μ : St → Hp → Nat) (h0 : Pv σ H)
   (hs : ∀ σ H, Pv σ H → c σ H fun b H1 => if b = true then tb { D with nx := fun σ' H' => Pv σ' H' ∧ μ σ' H' < μ σ H, ct := fun σ' H' => Pv σ' H' ∧ μ σ' H' < μ σ H, bk := D.nx } σ H1 else D.nx σ H1)
   (mono : ∀ σ H Q Q', (∀ b H1, Q b H1 → Q' b H1) → c σ H Q → c σ H Q') : tWhile c tb D σ H := by
 refine ⟨fun m σ H => m = μ σ H ∧ Pv σ H, ⟨_, rfl, h0⟩, ?_⟩
 rintro m σ H ⟨rfl, p⟩
 refine mono σ H _ _ (fun b H1 q => ?_) (hs σ H p)
 cases b with
 | true => exact ⟨_, fun σ' H' ⟨p', l⟩ => ⟨_, l, rfl, p'⟩, q⟩
 | false => exact q
end L2
namespace L2
open PySem PySem.Spec PyProof.Rows
abbrev R2 := V → V → Hp → VK → Prop
def OpR (X : Cx) (f : Value → Value → Sem Value) (r : R2) : Prop :=
 ∀ (pins : List (Addr × Obj)) (s : Shared) (σ : St) (H : Hp) (x y : V) (v u : Value) (Q : VK), Inv X pins σ H s → RelV x v → RelV y u → r x y H Q →
   wpAny (model X.prog X.w) X.A (f v u) (EP X pins σ Q) X.xe s
def UnR (X : Cx) (f : Value → Sem Value) (r : V → Hp → VK → Prop) : Prop :=
 ∀ (pins : List (Addr × Obj)) (s : Shared) (σ : St) (H : Hp) (x : V) (v : Value) (Q : VK), Inv X pins σ H s → RelV x v → r x H Q →
   wpAny (model X.prog X.w) X.A (f v) (EP X pins σ Q) X.xe s
def CallR (X : Cx) (f : Value) (r : List V → Hp → VK → Prop) : Prop :=
 ∀ (pins : List (Addr × Obj)) (s : Shared) (σ : St) (H : Hp) (xs : List V) (us : List Value) (Q : VK), Inv X pins σ H s → Vals xs us → r xs H Q →
   wpAny (model X.prog X.w) X.A (call f us) (EP X pins σ Q) X.xe s
def tOp (r : R2) (ta tb : TE) : TE := fun σ H Q => ta σ H fun x H1 => tb σ H1 fun y H2 => r x y H2 Q
def tUn (r : V → Hp → VK → Prop) (ta : TE) : TE := fun σ H Q => ta σ H fun x H1 => r x H1 Q
def rI (C : Int → Int → Prop) (g : Int → Int → V) : R2 := fun x y H Q => ∃ i j, x = .int i ∧ y = .int j ∧ C i j ∧ Q (g i j) H
def rI0 (g : Int → Int → V) : R2 := fun x y H Q => ∃ i j, x = .int i ∧ y = .int j ∧ Q (g i j) H
def rU (g : Int → V) : V → Hp → VK → Prop := fun x H Q => ∃ i, x = .int i ∧ Q (g i) H
section
variable {X : Cx} {a b c : Expr} {ta tb tc : TE} {pos : Pos}
theorem binT (ha : PE X a ta) (hb : PE X b tb) {pins : List (Addr × Obj)} {s : Shared} {σ : St} {H : Hp} {R : V → V → Hp → Prop} (I : Inv X pins σ H s)
   (h : ta σ H fun x H1 => tb σ H1 fun y H2 => R x y H2) {Q : Value → Shared → Prop} {f : Value → Value → Sem Value}
   (hf : ∀ v u s2 x y H2, Inv X pins σ H2 s2 → RelV x v → RelV y u → R x y H2 → wpAny (model X.prog X.w) X.A (f v u) Q X.xe s2) :
   wpAny (model X.prog X.w) X.A (eval a X.env) (fun v s₁ => wpAny (model X.prog X.w) X.A (eval b X.env) (fun u s₂ => wpAny (model X.prog X.w) X.A (f v u) Q X.xe s₂) X.xe s₁) X.xe s := by
 refine thn (ha pins s σ H _ I h) fun v s1 ⟨x, H1, I1, r1, q1⟩ => ?_
 refine thn (hb pins s1 σ H1 _ I1 q1) fun u s2 ⟨y, H2, I2, r2, q2⟩ => ?_
 exact hf v u s2 x y H2 I2 r1 r2 q2
theorem pe_op {op : Operator} {r : R2} (ho : OpR X (binaryOp op) r) (ha : PE X a ta) (hb : PE X b tb) : PE X (.BinOp a op b pos) (tOp r ta tb) := by
 intro pins s σ H Q I h
 exact wpAny_BinOp (binT ha hb I h fun v u s2 x y H2 I2 rx ry q => ho pins s2 σ H2 x y v u Q I2 rx ry q)
theorem pe_un {op : UnaryOp} {r : V → Hp → VK → Prop} (ho : UnR X (unaryOp op) r) (ha : PE X a ta) : PE X (.UnaryOp op a pos) (tUn r ta) := by
 intro pins s σ H Q I h
 exact UnaryOp_ (thn (ha pins s σ H _ I h) fun v s1 ⟨x, H1, I1, r1, q1⟩ => ho pins s1 σ H1 x v Q I1 r1 q1)
theorem opI {f : Value → Value → Sem Value} {C : Int → Int → Prop} {g : Int → Int → Int}
   (rule : ∀ (i j : Int) (t u : Tok) (s : Shared) (Q : Value → Shared → Prop) (E : Value → Shared → Prop), C i j → Q (.int (g i j) s.toks) { s with toks := s.toks + 1 } → wpAny (model X.prog X.w) X.A (f (.int i t) (.int j u)) Q E s) :
   OpR X f (rI C fun i j => .int (g i j)) := by
 intro pins s σ H x y v u Q I rx ry h
 obtain ⟨i, j, rfl, rfl, hc, q⟩ := h
 obtain ⟨t, rfl⟩ := rx
 obtain ⟨t', rfl⟩ := ry
 exact rule i j t t' s _ _ hc ⟨.int (g i j), H, I.tok _, ⟨_, rfl⟩, q⟩
theorem opI0 {f : Value → Value → Sem Value} {g : Int → Int → Int}
   (rule : ∀ (i j : Int) (t u : Tok) (s : Shared) (Q : Value → Shared → Prop) (E : Value → Shared → Prop), Q (.int (g i j) s.toks) { s with toks := s.toks + 1 } → wpAny (model X.prog X.w) X.A (f (.int i t) (.int j u)) Q E s) :
   OpR X f (rI0 fun i j => .int (g i j)) := by
 intro pins s σ H x y v u Q I rx ry h
 obtain ⟨i, j, rfl, rfl, q⟩ := h
 obtain ⟨t, rfl⟩ := rx
 obtain ⟨t', rfl⟩ := ry
 exact rule i j t t' s _ _ ⟨.int (g i j), H, I.tok _, ⟨_, rfl⟩, q⟩
theorem opB0 {f : Value → Value → Sem Value} {g : Int → Int → Bool}
   (rule : ∀ (i j : Int) (t u : Tok) (s : Shared) (Q : Value → Shared → Prop) (E : Value → Shared → Prop), Q (.bool (g i j)) s → wpAny (model X.prog X.w) X.A (f (.int i t) (.int j u)) Q E s) :
   OpR X f (rI0 fun i j => .bl (g i j)) := by
 intro pins s σ H x y v u Q I rx ry h
 obtain ⟨i, j, rfl, rfl, q⟩ := h
 obtain ⟨t, rfl⟩ := rx
 obtain ⟨t', rfl⟩ := ry
 exact rule i j t t' s _ _ ⟨.bl (g i j), H, I, rfl, q⟩
def CDiv (i j : Int) : Prop := 0 < j ∧ j < 1073741824
def CPow (i j : Int) : Prop := 0 ≤ j ∧ j ≤ 1000000 ∧ i.natAbs < 2 ^ 64
def CMul (i j : Int) : Prop := (-(2 ^ 64) < i ∧ i < 2 ^ 64) ∨ (-(2 ^ 64) < j ∧ j < 2 ^ 64)
theorem CMul.ok {i j : Int} (h : CMul i j) : IntMulOk i j := by
 rcases h with ⟨h1, h2⟩ | ⟨h1, h2⟩
 · exact .of_left (intBits_le_64 h1 h2)
 · exact .of_right (intBits_le_64 h1 h2)
theorem op_add : OpR X (binaryOp .Add) (rI0 fun i j => .int (i + j)) := opI0 fun _ _ _ _ _ _ _ q => add_int q
theorem op_sub : OpR X (binaryOp .Sub) (rI0 fun i j => .int (i - j)) := opI0 fun _ _ _ _ _ _ _ q => sub_int q
theorem op_fdiv : OpR X (binaryOp .FloorDiv) (rI CDiv fun i j => .int (i / j)) := opI fun i j _ _ _ _ _ hc q => by
 have h1 : (0 : Int) < j := hc.1
 have h2 : j < 1073741824 := hc.2
 exact floordiv_int (by omega) (by rw [Int.fdiv_eq_ediv_of_nonneg i (by omega)]; exact q) (.inl (PyProof.noPylong_small (by omega)))
theorem op_mod : OpR X (binaryOp .Mod) (rI (fun _ j => 0 < j) fun i j => .int (i % j)) := opI fun i j _ _ _ _ _ hc q => by
 have h1 : (0 : Int) < j := hc
 exact mod_int' (by omega) (by rw [Int.fmod_eq_emod_of_nonneg i (by omega)]; exact q)
theorem op_pow : OpR X (binaryOp .Pow) (rI CPow fun i j => .int (i ^ j.toNat)) := opI fun _ _ _ _ _ _ _ hc q => pow_int_small hc.1 hc.2.1 hc.2.2 q
theorem unI {f : Value → Sem Value} {g : Int → Int}
   (rule : ∀ (i : Int) (t : Tok) (s : Shared) (Q : Value → Shared → Prop) (E : Value → Shared → Prop), Q (.int (g i) s.toks) { s with toks := s.toks + 1 } → wpAny (model X.prog X.w) X.A (f (.int i t)) Q E s) :
   UnR X f (rU fun i => .int (g i)) := by
 intro pins s σ H x v Q I rx h
 obtain ⟨i, rfl, q⟩ := h
 obtain ⟨t, rfl⟩ := rx
 exact rule i t s _ _ ⟨.int (g i), H, I.tok _, ⟨_, rfl⟩, q⟩
theorem un_neg : UnR X (unaryOp .USub) (rU fun i => .int (-i)) := unI fun _ _ _ _ _ q => neg_int q
end
def scal : V → V → Bool
 | .non, .non => true | .non, .int _ => true | .int _, .non => true | .non, .bl _ => true | .bl _, .non => true | .non, .str _ => true | .str _, .non => true
 | .int _, .int _ => true | .bl _, .bl _ => true | .str _, .str _ => true | .byt _, .byt _ => true
 | .int _, .str _ => true | .str _, .int _ => true | .bl _, .str _ => true | .str _, .bl _ => true
 | _, _ => false
def rEq : R2 := fun x y H Q => scal x y = true ∧ Q (.bl (decide (x = y))) H
def rNe : R2 := fun x y H Q => scal x y = true ∧ Q (.bl (!decide (x = y))) H
theorem dec_int {i j : Int} : decide (V.int i = V.int j) = (i == j) := by
 rw [Bool.eq_iff_iff]
 simp
theorem dec_bl {i j : Bool} : decide (V.bl i = V.bl j) = (i == j) := by
 rw [Bool.eq_iff_iff]
 simp
theorem dec_str {i j : Str} : decide (V.str i = V.str j) = (i == j) := by
 rw [Bool.eq_iff_iff]
 simp
theorem dec_byt {i j : Array UInt8} : decide (V.byt i = V.byt j) = (i.toList == j.toList) := by
 rw [Bool.eq_iff_iff]
 cases i
 cases j
 simp
section
variable {X : Cx} {a b c : Expr} {ta tb tc : TE} {pos : Pos}
theorem fin_bl {pins : List (Addr × Obj)} {σ : St} {H : Hp} {s : Shared} {Q : VK} {k k' : Bool} (I : Inv X pins σ H s) (q : Q (.bl k) H) (e : k = k') : EP X pins σ Q (.bool k') s := by
 subst e
 exact ⟨.bl k, H, I, rfl, q⟩
theorem op_eq : OpR X (compareOp .Eq) rEq := by
 intro pins s σ H x y v u Q I rx ry h
 obtain ⟨hs, q⟩ := h
 cases x with
 | non =>
   cases rx
   cases y with
   | non => cases ry; exact PySem.EqNone.eq_none_none (fin_bl I q (by simp))
   | bl j => cases ry; exact PySem.EqNone.eq_none_bool (fin_bl I q (by simp))
   | int j => obtain ⟨t', rfl⟩ := ry; exact PySem.EqNone.eq_none_int (fin_bl I q (by simp))
   | str j => obtain ⟨t', rfl⟩ := ry; exact PySem.EqNone.eq_none_str (fin_bl I q (by simp))
   | _ => exact absurd (show false = true from hs) Bool.false_ne_true
 | bl i =>
   cases rx
   cases y with
   | non => cases ry; exact PySem.EqNone.eq_bool_none (fin_bl I q (by simp))
   | bl j => cases ry; exact eq_bool (fin_bl I q dec_bl)
   | str j => obtain ⟨t', rfl⟩ := ry; exact PySem.EqMixed.eq_bool_str (fin_bl I q (by simp))
   | _ => exact absurd (show false = true from hs) Bool.false_ne_true
 | int i =>
   obtain ⟨t, rfl⟩ := rx
   cases y with
   | non => cases ry; exact PySem.EqNone.eq_int_none (fin_bl I q (by simp))
   | int j => obtain ⟨t', rfl⟩ := ry; exact eq_int (fin_bl I q dec_int)
   | str j => obtain ⟨t', rfl⟩ := ry; exact PySem.EqMixed.eq_int_str (fin_bl I q (by simp))
   | _ => exact absurd (show false = true from hs) Bool.false_ne_true
 | str i =>
   obtain ⟨t, rfl⟩ := rx
   cases y with
   | non => cases ry; exact PySem.EqNone.eq_str_none (fin_bl I q (by simp))
   | bl j => cases ry; exact PySem.EqMixed.eq_str_bool (fin_bl I q (by simp))
   | int j => obtain ⟨t', rfl⟩ := ry; exact PySem.EqMixed.eq_str_int (fin_bl I q (by simp))
   | str j => obtain ⟨t', rfl⟩ := ry; exact eq_str (fin_bl I q dec_str)
   | _ => exact absurd (show false = true from hs) Bool.false_ne_true
 | byt i =>
   obtain ⟨t, rfl⟩ := rx
   cases y with
   | byt j => obtain ⟨t', rfl⟩ := ry; exact PySem.W.eq_bytes (fin_bl I q dec_byt)
   | _ => exact absurd (show false = true from hs) Bool.false_ne_true
 | _ => cases y <;> exact absurd (show false = true from hs) Bool.false_ne_true
theorem op_ne : OpR X (compareOp .NotEq) rNe := by
 intro pins s σ H x y v u Q I rx ry h
 obtain ⟨hs, q⟩ := h
 cases x with
 | non =>
   cases rx
   cases y with
   | non => cases ry; exact PySem.EqNone.ne_none_none (fin_bl I q (by simp))
   | bl j => cases ry; exact PySem.EqNone.ne_none_bool (fin_bl I q (by simp))
   | int j => obtain ⟨t', rfl⟩ := ry; exact PySem.EqNone.ne_none_int (fin_bl I q (by simp))
   | str j => obtain ⟨t', rfl⟩ := ry; exact PySem.EqNone.ne_none_str (fin_bl I q (by simp))
   | _ => exact absurd (show false = true from hs) Bool.false_ne_true
 | bl i =>
   cases rx
   cases y with
   | non => cases ry; exact PySem.EqNone.ne_bool_none (fin_bl I q (by simp))
   | bl j => cases ry; exact ne_bool (fin_bl I q (congrArg not dec_bl))
   | str j => obtain ⟨t', rfl⟩ := ry; exact PySem.EqMixed.ne_bool_str (fin_bl I q (by simp))
   | _ => exact absurd (show false = true from hs) Bool.false_ne_true
 | int i =>
   obtain ⟨t, rfl⟩ := rx
   cases y with
   | non => cases ry; exact PySem.EqNone.ne_int_none (fin_bl I q (by simp))
   | int j => obtain ⟨t', rfl⟩ := ry; exact ne_int (fin_bl I q (congrArg not dec_int))
   | str j => obtain ⟨t', rfl⟩ := ry; exact PySem.EqMixed.ne_int_str (fin_bl I q (by simp))
   | _ => exact absurd (show false = true from hs) Bool.false_ne_true
 | str i =>
   obtain ⟨t, rfl⟩ := rx
   cases y with
   | non => cases ry; exact PySem.EqNone.ne_str_none (fin_bl I q (by simp))
   | bl j => cases ry; exact PySem.EqMixed.ne_str_bool (fin_bl I q (by simp))
   | int j => obtain ⟨t', rfl⟩ := ry; exact PySem.EqMixed.ne_str_int (fin_bl I q (by simp))
   | str j => obtain ⟨t', rfl⟩ := ry; exact ne_str (fin_bl I q (congrArg not dec_str))
   | _ => exact absurd (show false = true from hs) Bool.false_ne_true
 | byt i =>
   obtain ⟨t, rfl⟩ := rx
   cases y with
   | byt j => obtain ⟨t', rfl⟩ := ry; exact PySem.W.ne_bytes (fin_bl I q (congrArg not dec_byt))
   | _ => exact absurd (show false = true from hs) Bool.false_ne_true
 | _ => cases y <;> exact absurd (show false = true from hs) Bool.false_ne_true
theorem op_lt : OpR X (compareOp .Lt) (rI0 fun i j => .bl (decide (i < j))) := opB0 fun _ _ _ _ _ _ _ q => lt_int q
theorem op_le : OpR X (compareOp .LtE) (rI0 fun i j => .bl (decide (i ≤ j))) := opB0 fun _ _ _ _ _ _ _ q => le_int q
theorem op_gt : OpR X (compareOp .Gt) (rI0 fun i j => .bl (decide (j < i))) := opB0 fun _ _ _ _ _ _ _ q => gt_int q
theorem op_ge : OpR X (compareOp .GtE) (rI0 fun i j => .bl (decide (j ≤ i))) := opB0 fun _ _ _ _ _ _ _ q => ge_int q
theorem OpR.or {f : Value → Value → Sem Value} {r r' : R2} (h : OpR X f r) (h' : OpR X f r') : OpR X f (fun x y H Q => r x y H Q ∨ r' x y H Q) := by
 intro pins s σ H x y v u Q I rx ry q
 rcases q with q | q
 · exact h pins s σ H x y v u Q I rx ry q
 · exact h' pins s σ H x y v u Q I rx ry q
theorem nomark (b : Expr) {op : CmpOp} (h : op ≠ .In := by decide) (h2 : op ≠ .NotIn := by decide) : behindInMarks op b = false := by
 have e1 : (op == CmpOp.In) = false := by cases op <;> first | rfl | exact absurd rfl h
 have e2 : (op == CmpOp.NotIn) = false := by cases op <;> first | rfl | exact absurd rfl h2
 cases b <;> simp [behindInMarks, e1, e2]
theorem pe_cmpR {op : CmpOp} {r : R2} (ho : OpR X (compareOp op) r) (ha : PE X a ta) (hb : PE X b tb) (hm : behindInMarks op b = false) : PE X (.Compare a [op] [b] pos) (tOp r ta tb) := by
 intro pins s σ H Q I h
 exact wpAny_Compare1 (binT ha hb I h fun v u s2 x y H2 I2 rx ry q => ho pins s2 σ H2 x y v u Q I2 rx ry q) hm
def tTest (t : TE) : TT := fun σ H Q => t σ H fun x H' => ∃ k, x = .bl k ∧ Q k H'
theorem pt_cmpR {op : CmpOp} {r : R2} (ho : OpR X (compareOp op) r) (ha : PE X a ta) (hb : PE X b tb) (hm : behindInMarks op b = false) : PT X (.Compare a [op] [b] pos) (tTest (tOp r ta tb)) := by
 intro pins s σ H Q I h
 refine wpAny_isTrue_Compare1 (thn (ha pins s σ H _ I h) fun v s1 ⟨x, H1, I1, r1, q1⟩ => thn (hb pins s1 σ H1 _ I1 q1) fun u s2 ⟨y, H2, I2, r2, q2⟩ =>
   thn (ho pins s2 σ H2 x y v u _ I2 r1 r2 q2) fun c s3 ⟨z, H3, I3, r3, k, e, q3⟩ => ?_) hm
 subst e
 cases r3
 exact wpAny_truthy_bool ⟨H3, I3, q3⟩
theorem line63 : (sizeLine : Nat) < 2 ^ 63 := by rw [sizeLine_eq]; decide
theorem op_add_str : OpR X (binaryOp .Add) (fun x y H Q => ∃ i j, x = .str i ∧ y = .str j ∧ i.length + j.length ≤ sizeLine ∧ Q (.str (i ++ j)) H) := by
 intro pins s σ H x y v u Q I rx ry h
 obtain ⟨i, j, rfl, rfl, hz, q⟩ := h
 obtain ⟨t, rfl⟩ := rx
 obtain ⟨t', rfl⟩ := ry
 exact add_str (fun t' tk => ⟨.str (i ++ j), H, I.tok _, ⟨_, rfl⟩, q⟩) hz
theorem vals1 {x : V} {us : List Value} (r : Vals [x] us) : ∃ u, us = [u] ∧ RelV x u := by
 cases r with
 | cons r1 r2 => cases r2; exact ⟨_, rfl, r1⟩
theorem vals2 {x y : V} {us : List Value} (r : Vals [x, y] us) : ∃ u w', us = [u, w'] ∧ RelV x u ∧ RelV y w' := by
 cases r with
 | cons r1 r2 =>
   cases r2 with
   | cons r3 r4 => cases r4; exact ⟨_, _, rfl, r1, r3⟩
theorem call_max2 (hc : X.calm = true) : CallR X (.builtin "max") (fun xs H Q => ∃ i j, xs = [.int i, .int j] ∧ Q (.int (if j > i then j else i)) H) := by
 intro pins s σ H xs us Q I r h
 obtain ⟨i, j, rfl, q⟩ := h
 obtain ⟨u, w', rfl, ⟨t, rfl⟩, ⟨t', rfl⟩⟩ := vals2 r
 refine max_two_ints (I.ok.hd hc) fun h' tk k => ⟨_, H, I.kept k, ?_, q⟩
 by_cases hj : j > i
 · rw [if_pos hj, if_pos hj]; exact ⟨_, rfl⟩
 · rw [if_neg hj, if_neg hj]; exact ⟨_, rfl⟩
theorem call_int1 : CallR X (.type "int") (fun xs H Q => (∃ i, xs = [.int i] ∧ Q (.int i) H) ∨ ∃ k, xs = [.bl k] ∧ Q (.int (if k then 1 else 0)) H) := by
 intro pins s σ H xs us Q I r h
 rcases h with ⟨i, rfl, q⟩ | ⟨k, rfl, q⟩
 · obtain ⟨u, rfl, t, rfl⟩ := vals1 r
   exact call_int_int ⟨.int i, H, I, ⟨_, rfl⟩, q⟩
 · obtain ⟨u, rfl, r1⟩ := vals1 r
   cases r1
   exact call_int_bool ⟨.int (if k then 1 else 0), H, I.tok _, ⟨_, rfl⟩, q⟩
end
end L2
namespace L2
open PySem PySem.Spec PyProof.Rows
structure ObjM (h : Heap) (x dx C : Addr) (mA : Str → Option Value) : Prop where
 obj : h.get? x = some (PySem.W.instObj C dx)
 ns : h.Ns1 dx mA
 ne : dx ≠ x
theorem lookIn_ns {h : Heap} {dx : Addr} {mA : Str → Option Value} (n : h.Ns1 dx mA) : ∃ od, h.get? dx = some od ∧ ∀ name, PySem.W.lookIn name od = some (mA name) := by
 obtain ⟨o, es, ep, ho, hd, hk, _, hm⟩ := n
 refine ⟨o, ho, fun name => ?_⟩
 have e := hm name
 unfold nsFind findBy at e
 rw [← Array.find?_toList] at e
 unfold PySem.W.lookIn
 rw [hd]
 dsimp only
 split
 · rename_i y q
   rw [q] at e
   exact congrArg some e
 · rename_i q
   rw [q] at e
   have a : es.toList.any (·.refKey) = false := by
     rw [List.any_eq_false]
     intro y hy
     obtain ⟨z, t, hkey⟩ := hk y (Array.mem_toList_iff.mp hy)
     simp [DictEntry.refKey, hkey]
   have a' : ¬ es.toList.any (·.refKey) = true := by rw [a]; exact Bool.false_ne_true
   rw [if_neg a']
   exact congrArg some e
theorem ObjM.look {h : Heap} {x dx C : Addr} {mA : Str → Option Value} (I : ObjM h x dx C mA) : ∃ od, PySem.W.InstAt h x (PySem.W.instObj C dx) C (some od) ∧ ∀ name, PySem.W.lookIn name od = some (mA name) :=
 let ⟨od, ho, hl⟩ := lookIn_ns I.ns
 ⟨od, ⟨I.obj, rfl, rfl, ho⟩, hl⟩
section
variable {prog : Program} {w : World} {A : Around} {E : Value → Shared → Prop} {s : Shared} {K : PySem.W.Frag} {x dx C f : Addr} {mA : Str → Option Value} {name : Str} {v : Value}
theorem get_map {expr : Bool} {Q : Value → Shared → Prop} (X : K.In s.heap) (I : ObjM s.heap x dx C mA) (hg : PySem.W.plainGet K C name = true) (hh : PySem.W.hasDictIn K C = true)
   (ha : PySem.W.findIn K (.ref C) name = some none) (hv : mA name = some v) (hv' : PySem.W.handedIn v = true) (h : Q v { s with toks := s.toks + 1 }) :
   wpAny (model prog w) A (getAttr (.ref x) name expr) Q E s := by
 obtain ⟨od, J, hl⟩ := I.look
 exact PySem.W.get_value X J (PySem.W.plainGet_of hg).1 (PySem.W.findObj_own hh ha rfl (by rw [hl, hv])) hv' h
theorem get_meth {pl : Sem Bool} {Q : Value × List Value → Shared → Prop} (X : K.In s.heap) (I : ObjM s.heap x dx C mA) (hg : PySem.W.plainGet K C name = true)
   (hf : PySem.W.findIn K (.ref C) name = some (some (.ref f))) (ht : PySem.W.isFn K (.ref f) = true) (hv : mA name = none) (h : Q (.ref f, [.ref x]) s) :
   wpAny (model prog w) A (getMethod (.ref x) name pl) Q E s := by
 obtain ⟨od, J, hl⟩ := I.look
 exact PySem.W.method_fn X J (PySem.W.plainGet_of hg).1 (PySem.W.plainGet_of hg).2 hf (beq_iff_eq.mp ht) (by show (PySem.W.lookIn name od).map (·.isSome) = some false; rw [hl, hv]; rfl) h
theorem set_map {ns : List Str} {Q : Unit → Shared → Prop} (X : K.In s.heap) (I : ObjM s.heap x dx C mA)
   (hs : PySem.W.findIn K (.ref C) "__setattr__" = some (some (.builtin "object.__setattr__"))) (hp : PySem.W.plainOver K C = true) (ht : PySem.W.takerIn K C name = some none) (hh : PySem.W.hasDictIn K C = true)
   (hw : PySem.Within mA ns) (hsz : ns.length ≤ sizeLine)
   (h : ∀ h', ObjM h' x dx C (fun y => if y = name then some v else mA y) → Heap.SameBut dx s.heap h' → Q () { s with heap := h', toks := s.toks + 2 }) :
   wpAny (model prog w) A (setAttr (.ref x) name v) Q E s := by
 obtain ⟨od, J, hl⟩ := I.look
 refine PySem.W.set_plain X J hs (PySem.W.osa_open (s := { s with toks := s.toks + 1 }) (r := none) X J hp ht fun b => ?_)
 obtain ⟨cd, hc, hd'⟩ := PySem.W.any_some hh
 have hx : s.heap.get? x = some ⟨.ref C, some dx, .plain, #[]⟩ := I.obj
 refine wpAny_bind (wpAny_pure (wpAny_bind (wpAny_bind (wpAny_loadPart hx (wpAny_bind (PySem.W.Looks.here (s := { s with toks := s.toks + 1 }) (PySem.W.looks_clsIn X hc) ?_))))))
 rw [hd']
 refine wpAny_pure (a := some dx) (wpAny_bind (wpAny_pure (wpAny_bind ?_)))
 refine wpAny_nsSet1 (s := { s with toks := s.toks + 1 }) I.ns fun h' hn2 hs2 => ?_
 obtain ⟨oD, esD, epD, hoD, hdD, hcD⟩ := hn2.count (PySem.Within.cons name v hw)
 refine wpAny_bind (wpAny_lookBehind hoD (by rw [hdD]; exact pastItsLine_dict (Nat.le_trans hcD (by rw [List.length_cons]; omega))) ?_)
 exact wpAny_pure (h _ ⟨(hs2.2 _ (Ne.symm I.ne)).trans I.obj, hn2, I.ne⟩ hs2)
theorem make_map {R : Result → Shared → Prop} {vs : List Value} {kw : List (Str × Value)} (X : K.In s.heap) (hm : PySem.W.makesIn K C = true)
   (hi : PySem.W.findIn K (.ref C) "__init__" = some (some (.ref f))) (hf : PySem.W.typeIn K (.ref f) = some (.type "function"))
   (h : codeAny (model prog w) (A.under (.builtin "type.__call__" ⟨.ref C :: vs, kw⟩)) (.call (.ref f) ⟨.ref (s.heap.objs.size + 1) :: vs, kw⟩) (PySem.W.InitBack (s.heap.objs.size + 1) R)
     { s with heap := (s.heap.push PySem.W.emptyDict).push (PySem.W.instObj C s.heap.objs.size) }) :
   codeAny (model prog w) A (.call (.ref C) ⟨vs, kw⟩) R s := by
 obtain ⟨hh, g, d, t, os⟩ := s
 exact PySem.W.make_core (PySem.W.makes_of X hm) (PySem.W.looks_findIn X hi) (fun self => PySem.W.bind_fn X self hf) (.inl rfl) h
end
def putF (f : Str) (v : V) : List (Str × V) → List (Str × V)
 | [] => [(f, v)]
 | (g, x) :: r => if g = f then (g, v) :: r else (g, x) :: putF f v r
theorem lookup_putF (f g : Str) (v : V) : ∀ fs : List (Str × V), (putF f v fs).lookup g = if g = f then some v else fs.lookup g
 | [] => by
   show List.lookup g [(f, v)] = _
   by_cases h : g = f
   · have hb : (g == f) = true := beq_iff_eq.mpr h
     simp only [List.lookup, hb, if_pos h]
   · have hb : (g == f) = false := beq_eq_false_iff_ne.mpr h
     simp only [List.lookup, hb, if_neg h]
 | (k, x) :: r => by
   have ih := lookup_putF f g v r
   rw [show putF f v ((k, x) :: r) = (if k = f then (k, v) :: r else (k, x) :: putF f v r) from rfl]
   by_cases hk : k = f
   · rw [if_pos hk]
     by_cases h : g = k
     · have hb : (g == k) = true := beq_iff_eq.mpr h
       simp only [List.lookup, hb, if_pos (h.trans hk)]
     · have hb : (g == k) = false := beq_eq_false_iff_ne.mpr h
       simp only [List.lookup, hb, if_neg (fun e : g = f => h (e.trans hk.symm))]
   · rw [if_neg hk]
     by_cases h : g = k
     · have hb : (g == k) = true := beq_iff_eq.mpr h
       simp only [List.lookup, hb, if_neg (fun e : g = f => hk (h.symm.trans e))]
     · have hb : (g == k) = false := beq_eq_false_iff_ne.mpr h
       simp only [List.lookup, hb]
       exact ih
theorem keys_putF (f : Str) (v : V) : ∀ fs : List (Str × V), f ∈ (putF f v fs).map (·.1) ∧ ∀ g, g ∈ fs.map (·.1) → g ∈ (putF f v fs).map (·.1)
 | [] => ⟨by simp [putF], fun g h => by simp at h⟩
 | (k, x) :: r => by
   obtain ⟨i1, i2⟩ := keys_putF f v r
   rw [show putF f v ((k, x) :: r) = (if k = f then (k, v) :: r else (k, x) :: putF f v r) from rfl]
   by_cases hk : k = f
   · rw [if_pos hk]
     subst hk
     exact ⟨by simp, fun g h => by simpa using h⟩
   · rw [if_neg hk]
     refine ⟨?_, fun g h => ?_⟩
     · rw [List.map_cons]
       exact List.mem_cons_of_mem _ i1
     · rw [List.map_cons] at h ⊢
       rcases List.mem_cons.mp h with e | e
       · exact List.mem_cons.mpr (.inl e)
       · exact List.mem_cons_of_mem _ (i2 g e)
theorem length_putF (f : Str) (v : V) : ∀ fs : List (Str × V), (putF f v fs).length ≤ fs.length + 1
 | [] => by simp [putF]
 | (k, x) :: r => by
   have ih := length_putF f v r
   rw [show putF f v ((k, x) :: r) = (if k = f then (k, v) :: r else (k, x) :: putF f v r) from rfl]
   by_cases hk : k = f
   · rw [if_pos hk, List.length_cons, List.length_cons]; omega
   · rw [if_neg hk, List.length_cons, List.length_cons]; omega
theorem RelO.some_of {v : V} {o : Option Value} (r : RelO (some v) o) : ∃ u, o = some u ∧ RelV v u := by
 cases o with
 | none => exact (show False from r).elim
 | some u => exact ⟨u, rfl, r⟩
theorem RelO.none_of {o : Option Value} (r : RelO none o) : o = none := by
 cases o with
 | none => rfl
 | some u => exact (show False from r).elim
theorem handed_of {v : V} {u : Value} (r : RelV v u) : PySem.W.handedIn u = true := by
 cases v with
 | non => cases (show u = Value.none from r); rfl
 | bl b => cases (show u = Value.bool b from r); rfl
 | int i => obtain ⟨t, e⟩ := (show ∃ t, u = Value.int i t from r); cases e; rfl
 | str x => obtain ⟨t, e⟩ := (show ∃ t, u = Value.str x t from r); cases e; rfl
 | byt b => obtain ⟨t, e⟩ := (show ∃ t, u = Value.bytes b t from r); cases e; rfl
 | flt b => obtain ⟨t, e⟩ := (show ∃ t, u = Value.float b t from r); cases e; rfl
 | ref a => cases (show u = Value.ref a from r); rfl
 | ty n => cases (show u = Value.type n from r); rfl
section
variable {P : Program} {w : World} {H H' : Hp} {h h' : Heap} {a C dx : Addr} {fs fs' : List (Str × V)}
theorem ins_get (hok : HOk P w H h) (e : H a = some (.ins C dx fs)) : ∃ mA, ObjM h a dx C mA ∧ (∀ f, RelO (fs.lookup f) (mA f)) ∧ PySem.Within mA (fs.map (·.1)) ∧ fs.length ≤ 1000 ∧ H dx = some (.own a) := by
 obtain ⟨d, z, ne, ob, mA, n, r, q⟩ := (show ObjOk P w H h a (.ins C dx fs) from hok a _ e)
 exact ⟨mA, ⟨ob, n, ne⟩, r, q, z, d⟩
end
structure Cls (K : PySem.W.Frag) (C : Addr) : Prop where
 pg : PySem.W.plainGet K C Str.empty = true
 hd : PySem.W.hasDictIn K C = true
 po : PySem.W.plainOver K C = true
 sa : PySem.W.findIn K (.ref C) "__setattr__" = some (some (.builtin "object.__setattr__"))
theorem Cls.get {K : PySem.W.Frag} {C : Addr} (c : Cls K C) (f : Str) : PySem.W.plainGet K C f = true := c.pg
def NoAttr (K : PySem.W.Frag) (C : Addr) (f : Str) : Prop := PySem.W.findIn K (.ref C) f = some none
theorem NoAttr.taker {K : PySem.W.Frag} {C : Addr} {f : Str} (n : NoAttr K C f) : PySem.W.takerIn K C f = some none := by
 unfold PySem.W.takerIn
 rw [show PySem.W.findIn K (.ref C) f = some none from n]
 rfl
structure Meth (K : PySem.W.Frag) (C : Addr) (m : Str) (f : Addr) : Prop where
 at_ : PySem.W.findIn K (.ref C) m = some (some (.ref f))
 fn : PySem.W.isFn K (.ref f) = true
 kp : PySem.W.keepIn K (.ref f) = true
section
variable {X : Cx} {pins : List (Addr × Obj)} {σ : St} {H : Hp} {s : Shared} {a C dx : Addr} {fs : List (Str × V)} {f : Str} {v : V} {A : Around} {E : Value → Shared → Prop}
theorem getattr_ok {b : Bool} {Q : Value → Shared → Prop} (I : Inv X pins σ H s) (e : H a = some (.ins C dx fs)) (c : Cls X.K C) (n : NoAttr X.K C f) (l : fs.lookup f = some v)
   (h : ∀ u s', Inv X pins σ H s' → RelV v u → Q u s') : wpAny (model X.prog X.w) A (getAttr (.ref a) f b) Q E s := by
 obtain ⟨mA, O, r, _, _, _⟩ := ins_get I.hok e
 obtain ⟨u, hu, ru⟩ := RelO.some_of (v := v) (o := mA f) (by rw [← l]; exact r f)
 exact get_map I.kIn O (c.get f) c.hd n hu (handed_of ru) (h u _ (I.tok _) ru)
theorem getmeth_ok {m : Str} {g : Addr} {pl : Sem Bool} {Q : Value × List Value → Shared → Prop} (I : Inv X pins σ H s) (e : H a = some (.ins C dx fs)) (c : Cls X.K C) (k : Meth X.K C m g) (l : fs.lookup m = none)
   (h : Q (.ref g, [.ref a]) s) : wpAny (model X.prog X.w) A (getMethod (.ref a) m pl) Q E s := by
 obtain ⟨mA, O, r, _, _, _⟩ := ins_get I.hok e
 have hn : mA m = none := RelO.none_of (by rw [← l]; exact r m)
 exact get_meth I.kIn O (c.get m) k.at_ k.fn hn h
theorem setattr_ok {y : V} {u : Value} {Q : Unit → Shared → Prop} (I : Inv X pins σ H s) (e : H a = some (.ins C dx fs)) (c : Cls X.K C) (n : NoAttr X.K C f) (hl : fs.length < 1000) (ry : RelV y u)
   (h : ∀ s', Inv X pins σ (upd H a (.ins C dx (putF f y fs))) s' → Q () s') : wpAny (model X.prog X.w) A (setAttr (.ref a) f u) Q E s := by
 obtain ⟨mA, O, r, wi, _, ho⟩ := ins_get I.hok e
 have hz : (fs.map (·.1)).length ≤ sizeLine := by rw [List.length_map, sizeLine_eq]; omega
 refine set_map I.kIn O c.sa c.po n.taker c.hd wi hz fun h' O' sb => h _ ?_
 have hd : ∃ o, h'.get? dx = some o := let ⟨o, _, _, e', _⟩ := O'.ns; ⟨o, e'⟩
 refine I.write (x := a) (e := dx) (by rw [e]; exact True.intro) (.inr ho) (fun b q hb z => (sb.2 b hb).trans z) hd ?_
 refine ⟨by rw [uqn O.ne]; exact ho, ?_, O.ne, O'.obj, _, O'.ns, fun g => ?_, fun g hg => ?_⟩
 · have := length_putF f y fs; omega
 · show RelO ((putF f y fs).lookup g) (if g = f then some u else mA g)
   rw [lookup_putF]
   by_cases q : g = f
   · rw [if_pos q, if_pos q]; exact ry
   · rw [if_neg q, if_neg q]; exact r g
 · by_cases q : g = f
   · rw [q]; exact (keys_putF f y fs).1
   · refine (keys_putF f y fs).2 g (wi g fun z => hg ?_)
     show (if g = f then some u else mA g) = none
     rw [if_neg q]; exact z
theorem Inv.made (I : Inv X pins σ H s) : Inv X pins σ (upd (upd H s.heap.objs.size (.own (s.heap.objs.size + 1))) (s.heap.objs.size + 1) (.ins C s.heap.objs.size []))
   { s with heap := (s.heap.push PySem.W.emptyDict).push (PySem.W.instObj C s.heap.objs.size) } := by
 have e1 : (s.heap.push PySem.W.emptyDict).get? s.heap.objs.size = some PySem.W.emptyDict := Heap.get?_push_size s.heap rfl
 have e2 : ((s.heap.push PySem.W.emptyDict).push (PySem.W.instObj C s.heap.objs.size)).get? (s.heap.objs.size + 1) = some (PySem.W.instObj C s.heap.objs.size) := by
   have := Heap.get?_push_size (s.heap.push PySem.W.emptyDict) (o := PySem.W.instObj C s.heap.objs.size) rfl
   rwa [Heap.size_push] at this
 have e3 : (s.heap.push PySem.W.emptyDict).Ns s.heap.objs.size (fun _ => none) := ⟨PySem.W.emptyDict, #[], _, e1, rfl, (fun e he => absurd he (by simp)), fun _ => rfl⟩
 have I1 := I.laid (a := s.heap.objs.size) (o := .own (s.heap.objs.size + 1)) (h' := s.heap.push PySem.W.emptyDict) (t' := s.toks) (fun b u q => Heap.get?_push_of_some _ q) (Nat.le_refl _) ⟨_, e1⟩
 refine I1.laid (a := s.heap.objs.size + 1) (o := .ins C s.heap.objs.size []) (t' := s.toks) (fun b u q => Heap.get?_push_of_some _ q) (Nat.le_of_eq (Heap.size_push _ _)) ?_
 have ne : s.heap.objs.size ≠ s.heap.objs.size + 1 := Nat.ne_of_lt (Nat.lt_succ_self _)
 refine ⟨by rw [uqn ne, uqs], Nat.zero_le _, ne, e2, fun _ => none, (Heap.Ns1.of_empty e3).at fun o q => Heap.get?_push_of_some _ q, fun _ => True.intro, fun y hy => absurd rfl hy⟩
theorem attr_of {prog : Program} {w : World} {env : Env} {e : Expr} {f : Str} {pos : Pos} {s : Shared} {Q : Value → Shared → Prop} (hb : attributeBase e f env (eval e env) = eval e env)
   (h : wpAny (model prog w) A (eval e env) (fun o s₁ => wpAny (model prog w) A (getAttr o f true) Q E s₁) E s) : wpAny (model prog w) A (eval (.Attribute e f pos) env) Q E s :=
 Attribute_any_ h (by rw [arm_eval_Attribute, hb])
end
def tFld (K : PySem.W.Frag) (ta : TE) (f : Str) : TE := fun σ H Q => ta σ H fun x H1 => ∃ a C dx fs v, x = .ref a ∧ H1 a = some (.ins C dx fs) ∧ Cls K C ∧ NoAttr K C f ∧ fs.lookup f = some v ∧ Q v H1
def sFld (K : PySem.W.Frag) (ta tv : TE) (f : Str) : TS := fun D σ H => tv σ H fun y H1 => ta σ H1 fun x H2 => ∃ a C dx fs, x = .ref a ∧ H2 a = some (.ins C dx fs) ∧ Cls K C ∧ NoAttr K C f ∧ fs.length < 1000 ∧
 D.nx σ (upd H2 a (.ins C dx (putF f y fs)))
section
variable {X : Cx} {o e value : Expr} {f : Str} {pos pos' tpos : Pos} {ta tv : TE}
theorem pe_fld (he : PE X e ta) (hb : attributeBase e f X.env (eval e X.env) = eval e X.env) : PE X (.Attribute e f pos) (tFld X.K ta f) := by
 intro pins s σ H Q I h
 refine attr_of hb (thn (he pins s σ H _ I h) fun u s1 ⟨x, H1, I1, rx, a, C, dx, fs, v, ex, ea, c, n, l, q⟩ => ?_)
 subst ex
 obtain rfl : u = Value.ref a := rx
 exact getattr_ok I1 ea c n l fun u' s2 I2 ru => ⟨v, H1, I2, ru, q⟩
theorem ps_fld (ha : PE X o ta) (hv : PE X value tv) (hs : swapsWith value (some (.Attribute o f pos')) pos.line X.env = pure false) : PS X (.Assign [.Attribute o f pos'] value pos) (sFld X.K ta tv f) := by
 intro pins s σ H D I h
 refine plainObj_wpAny_Assign_Attribute (thn (hv pins s σ H _ I h) fun u s1 ⟨y, H1, I1, ry, q⟩ => thn (ha pins s1 σ H1 _ I1 q) fun ov s2 ⟨x, H2, I2, rx, a, C, dx, fs, ex, ea, c, n, l, q2⟩ => ?_) hs
 subst ex
 obtain rfl : ov = Value.ref a := rx
 exact setattr_ok I2 ea c n l ry fun s3 I3 => ⟨σ, _, I3, q2⟩
end
section
variable {X : Cx} {pins : List (Addr × Obj)} {σ : St} {H : Hp} {s : Shared} {A : Around} {E : Value → Shared → Prop} {Q : Value → Shared → Prop} {c : Value} {b : Bool}
inductive TyOf (K : PySem.W.Frag) (H : Hp) : V → Value → Prop where
 | non : TyOf K H .non (.type "NoneType")
 | bl (x : Bool) : TyOf K H (.bl x) (.type "bool")
 | int (i : Int) : TyOf K H (.int i) (.type "int")
 | str (x : Str) : TyOf K H (.str x) (.type "str")
 | flt (x : UInt64) : TyOf K H (.flt x) (.type "float")
 | lst {a : Addr} {xs : List V} (e : H a = some (.lst xs)) : TyOf K H (.ref a) (.type "list")
 | frz {a : Addr} {o : Obj} {xs : List V} (e : H a = some (.frz o (.lst xs))) : TyOf K H (.ref a) (.type "list")
 | tup {a : Addr} {xs : List V} (e : H a = some (.tup xs)) : TyOf K H (.ref a) (.type "tuple")
 | dK {a : Addr} {kvs : List (Key × V)} (e : H a = some (.dK kvs)) : TyOf K H (.ref a) (.type "dict")
 | dT {a : Addr} {kvs : List (List Key × V)} (e : H a = some (.dT kvs)) : TyOf K H (.ref a) (.type "dict")
 | ins {a C dx : Addr} {fs : List (Str × V)} (e : H a = some (.ins C dx fs)) (cl : Cls K C) (ha : PySem.W.findIn K (.ref C) "__class__" = some (some (.builtin "object.__class__")))
     (hn : PySem.W.specialIn K (.builtin "object.__class__") "__get__" = some (some (.builtin "getset_descriptor.__get__"))) (htk : PySem.W.takesIn K (.builtin "object.__class__") = some true)
     (hm : PySem.W.mroIn K C (.type "object") = some true) : TyOf K H (.ref a) (.ref C)
theorem isinst_ok {x : V} {u t : Value} (I : Inv X pins σ H s) (rx : RelV x u) (ty : TyOf X.K H x t) (e : PySem.W.kitOne X.K t c = some b) (h : ∀ tk, Q (.bool b) { s with toks := tk }) :
   wpAny (model X.prog X.w) A (call (.builtin "isinstance") [u, c]) Q E s := by
 cases ty with
 | non => cases (show u = Value.none from rx); exact PySem.W.kia_one PySem.W.kitx_none I.kIn True.intro e (fun z => nomatch z) h
 | bl y => cases (show u = Value.bool y from rx); exact PySem.W.kia_one PySem.W.kitx_bool I.kIn True.intro e (fun z => nomatch z) h
 | int i => obtain ⟨t, q⟩ := (show ∃ t, u = Value.int i t from rx); cases q; exact PySem.W.kia_one PySem.W.kitx_int I.kIn True.intro e (fun z => nomatch z) h
 | str y => obtain ⟨t, q⟩ := (show ∃ t, u = Value.str y t from rx); cases q; exact PySem.W.kia_one PySem.W.kitx_str I.kIn True.intro e (fun z => nomatch z) h
 | flt y => obtain ⟨t, q⟩ := (show ∃ t, u = Value.float y t from rx); cases q; exact PySem.W.kia_one PySem.W.kitx_float I.kIn True.intro e (fun z => nomatch z) h
 | @lst a xs ea =>
   cases (show u = Value.ref a from rx)
   obtain ⟨_, _, n, _, h1⟩ := (show ObjOk X.prog X.w H s.heap a (.lst xs) from I.hok a _ ea)
   exact PySem.W.kia_one PySem.W.kitx_list I.kIn ⟨_, h1, rfl⟩ e (fun z => nomatch z) h
 | @frz a ob xs ea =>
   cases (show u = Value.ref a from rx)
   obtain ⟨_, _, _, n, _, h1⟩ := (show ObjOk X.prog X.w H s.heap a (.frz ob (.lst xs)) from I.hok a _ ea)
   exact PySem.W.kia_one PySem.W.kitx_list I.kIn ⟨_, h1, rfl⟩ e (fun z => nomatch z) h
 | @tup a xs ea =>
   cases (show u = Value.ref a from rx)
   obtain ⟨_, _, _, p⟩ := (show ObjOk X.prog X.w H s.heap a (.tup xs) from I.hok a _ ea)
   obtain ⟨o, h1, h2, _⟩ := p
   exact PySem.W.kia_one PySem.W.kitx_tuple I.kIn ⟨o, h1, h2⟩ e (fun z => nomatch z) h
 | @dK a kvs ea =>
   cases (show u = Value.ref a from rx)
   obtain ⟨_, _, vs, _, p⟩ := (show ObjOk X.prog X.w H s.heap a (.dK kvs) from I.hok a _ ea)
   obtain ⟨o, es, ep, h1, h2, _⟩ := p
   exact PySem.W.kia_one PySem.W.kitx_dict I.kIn ⟨o, h1, h2.1⟩ e (fun z => nomatch z) h
 | @dT a kvs ea =>
   cases (show u = Value.ref a from rx)
   obtain ⟨_, _, xs, _, o, es, ep, h1, h2, _⟩ := (show ObjOk X.prog X.w H s.heap a (.dT kvs) from I.hok a _ ea)
   exact PySem.W.kia_one PySem.W.kitx_dict I.kIn ⟨o, h1, h2.1⟩ e (fun z => nomatch z) h
 | @ins a C dx fs ea cl ha hn htk hm =>
   cases (show u = Value.ref a from rx)
   obtain ⟨mA, O, _⟩ := ins_get I.hok ea
   obtain ⟨od, J, _⟩ := O.look
   exact PySem.W.kia_one (PySem.W.kitx_own (cl.get _) cl.hd ha hn htk hm) I.kIn J e (fun z => nomatch z) h
end
end L2
namespace L2
open PySem PySem.Spec PyProof.Rows
structure Room (cm : Bool) (k : Nat) (A : Around) : Prop where
 hd : cm = true → A.handled = none
 dp : A.depth + 3 * k + 5 < recursionLimit
 un : A.units + 16 * k + 200 < cLine
theorem Room.mono {cm : Bool} {j k : Nat} {A : Around} (r : Room cm k A) (h : j ≤ k) : Room cm j A := ⟨r.hd, by have := r.dp; omega, by have := r.un; omega⟩
theorem Room.deeper {cm : Bool} {k : Nat} {A : Around} (r : Room cm (k + 1) A) (env : Env) : Room cm k (A.deeper env) :=
 ⟨r.hd, by have := r.dp; show A.depth + 1 + 3 * k + 5 < _; omega, by have := r.un; show A.units + 3 + 16 * k + 200 < _; omega⟩
theorem Room.in1 {cm : Bool} {k : Nat} {A : Around} (r : Room cm (k + 1) A) : Room cm k A.in1 :=
 ⟨r.hd, by have := r.dp; show A.depth + 3 * k + 5 < _; omega, by have := r.un; show A.units + 1 + 16 * k + 200 < _; omega⟩
theorem make_depth {A : Around} {C : Addr} {us : List Value} {kw : List (Str × Value)} : (A.under (.builtin "type.__call__" ⟨.ref C :: us, kw⟩)).depth = A.depth + 1 := by
 first | rfl | simp [Around.under, Code.weight, Code.isCreation, Code.isGuard, Code.isCaller, Code.frames, Code.isFrame, guardIds]
theorem make_units {A : Around} {C : Addr} {us : List Value} {kw : List (Str × Value)} : (A.under (.builtin "type.__call__" ⟨.ref C :: us, kw⟩)).units = A.units + 1 := by
 first | rfl | simp [Around.under, Code.cUnits, Code.frames, Code.isFrame]
theorem Room.make {cm : Bool} {k : Nat} {A : Around} (r : Room cm (k + 1) A) (C : Addr) (us : List Value) (kw : List (Str × Value)) : Room cm k (A.under (.builtin "type.__call__" ⟨.ref C :: us, kw⟩)) :=
 ⟨r.hd, by have := r.dp; rw [make_depth]; omega, by have := r.un; rw [make_units]; omega⟩
theorem Room.depth {cm : Bool} {k : Nat} {A : Around} (r : Room cm k A) : A.depth < recursionLimit := by have := r.dp; omega
theorem Room.units {cm : Bool} {k : Nat} {A : Around} (r : Room cm k A) : A.units + 64 < cLine := by have := r.un; omega
def tNil : TA := fun _ H Q => Q [] H
def tCons (ta : TE) (tr : TA) : TA := fun σ H Q => ta σ H fun x H1 => tr σ H1 fun xs H2 => Q (x :: xs) H2
section
variable {X : Cx} {e : Expr} {es : List Expr} {te : TE} {t : TA} {pos : Pos}
theorem pnx : PA X [] tNil := fun _ _ _ _ H Q I h => Calls.spliced_nil ⟨[], H, I, .nil, h⟩
theorem pcx (ha : PE X e te) (hr : PA X es t) (hs : starEach (e :: es) X.env = (false, eval e X.env) :: starEach es X.env := by rfl) : PA X (e :: es) (tCons te t) := by
 intro pos pins s σ H Q I h
 rw [hs]
 show wpAny _ _ (spliced ((false, eval e X.env) :: backTo pos (starEach es X.env))) _ _ s
 refine Calls.spliced_cons (thn (ha pins s σ H _ I h) fun u s1 ⟨x, H1, I1, r1, q1⟩ => ?_)
 exact thn (hr pos pins s1 σ H1 _ I1 q1) fun us s2 ⟨xs, H2, I2, r2, q2⟩ => ⟨x :: xs, H2, I2, .cons r1 r2, q2⟩
def tTup (t : TA) : TE := fun σ H Q => t σ H fun xs H1 => xs.length ≤ sizeLine ∧ ∀ p, H1 p = none → Q (.ref p) (upd H1 p (.tup xs))
def tLst (t : TA) : TE := fun σ H Q => t σ H fun xs H1 => xs.length ≤ sizeLine ∧ ∀ p, H1 p = none → Q (.ref p) (upd H1 p (.lst xs))
theorem pe_tup {x1} (h : PA X es t) : PE X (.Tuple es x1 pos) (tTup t) := by
 intro pins s σ H Q I hq
 refine wpAny_Tuple_spliced (thn (h pos pins s σ H _ I hq) fun us s1 ⟨xs, H1, I1, r, z, q⟩ => ⟨by rw [← r.length]; exact z, ?_⟩)
 have hf : H1 s1.heap.objs.size = none := I1.hok.fresh (Nat.le_refl _)
 refine ⟨.ref s1.heap.objs.size, upd H1 s1.heap.objs.size (.tup xs), I1.laid (t' := s1.toks) (fun b u e => Heap.get?_push_of_some _ e) (Nat.le_refl _) ?_, rfl, q _ hf⟩
 exact ⟨z, us, r, ⟨_, Heap.get?_push_size _ rfl, rfl, _, rfl⟩⟩
theorem pe_lst (h : PA X es t) : PE X (.List es pos) (tLst t) := by
 intro pins s σ H Q I hq
 refine wpAny_List_spliced (thn (h pos pins s σ H _ I hq) fun us s1 ⟨xs, H1, I1, r, z, q⟩ => ⟨by rw [← r.length]; exact z, ?_⟩)
 have hf : H1 s1.heap.objs.size = none := I1.hok.fresh (Nat.le_refl _)
 refine ⟨.ref s1.heap.objs.size, upd H1 s1.heap.objs.size (.lst xs), I1.laid (t' := s1.toks) (fun b u e => Heap.get?_push_of_some _ e) (Nat.le_refl _) ?_, rfl, q _ hf⟩
 exact ⟨z, us, 0, r, Heap.get?_push_size _ rfl⟩
end
abbrev Sp := List V → Hp → VK → XK → Prop
abbrev CXT := List Env → Hp → Shared → XK → Value → Shared → Prop
structure Env0 (P : Program) (w : World) (K : PySem.W.Frag) (mg : Str → Option Value) (base : Heap) (A : Around) (outer : List Env) (s : Shared) (H : Hp) : Prop where
 frames : A.frames = some outer
 mod : Mod K mg base
 bs : ∀ b o, base.get? b = some o → s.heap.get? b = some o ∧ H b = none
 bsz : base.objs.size ≤ s.heap.objs.size
 funs : s.heap.FunFrames base outer
 frf : ∀ b ∈ frs outer, H b = none
 hok : HOk P w H s.heap
 bare : AllBare s.gens
def CE (outer : List Env) (P : Program) (w : World) (H : Hp) (s : Shared) (Q : VK) (u : Value) (s' : Shared) : Prop :=
 ∃ v H', s'.os = s.os ∧ AllBare s'.gens ∧ Un (frs outer) [] H H' s.heap s'.heap ∧ HOk P w H' s'.heap ∧ RelV v u ∧ Q v H'
def CR (CX : CXT) (outer : List Env) (P : Program) (w : World) (H : Hp) (s : Shared) (Q : VK) (E : XK) (r : Result) (s' : Shared) : Prop :=
 match r with
 | .ok (.ret u) => CE outer P w H s Q u s'
 | .ok _ => False
 | .error e => CX outer H s E e s'
structure FnOk (P : Program) (w : World) (K : PySem.W.Frag) (mg : Str → Option Value) (base : Heap) (CX : CXT) (cm : Bool) (k : Nat) (f : Addr) (fd : FuncData) (ps : List Str) (sp : Sp) : Prop where
 len : ∀ vs H Q E, sp vs H Q E → vs.length = ps.length
 run : ∀ (A : Around) (outer : List Env) (s : Shared) (H : Hp) (args : Args) (us : List Value) (vs : List V) (Q : VK) (E : XK), Room cm k A → Env0 P w K mg base A outer s H → BindsTo s fd args (ps.zip us) → Vals vs us → sp vs H Q E →
   codeAny (model P w) A (.call (.ref f) args) (CR CX outer P w H s Q E) s
theorem FnOk.mono {cm : Bool} {P : Program} {w : World} {K : PySem.W.Frag} {mg : Str → Option Value} {base : Heap} {CX : CXT} {j k : Nat} {f : Addr} {fd : FuncData} {ps : List Str} {sp : Sp} (F : FnOk P w K mg base CX cm j f fd ps sp) (h : j ≤ k) :
   FnOk P w K mg base CX cm k f fd ps sp := ⟨F.len, fun A outer s H args us vs Q E hr => F.run A outer s H args us vs Q E (hr.mono h)⟩
theorem FnOk.imp {cm : Bool} {P : Program} {w : World} {K : PySem.W.Frag} {mg : Str → Option Value} {base : Heap} {CX : CXT} {k : Nat} {f : Addr} {fd : FuncData} {ps : List Str} {sp sp' : Sp} (F : FnOk P w K mg base CX cm k f fd ps sp)
   (h : ∀ vs H Q E, sp' vs H Q E → sp vs H Q E) : FnOk P w K mg base CX cm k f fd ps sp' :=
 ⟨fun vs H Q E q => F.len vs H Q E (h _ _ _ _ q), fun A outer s H args us vs Q E hr he hb hv hs => F.run A outer s H args us vs Q E hr he hb hv (h _ _ _ _ hs)⟩
theorem Env0.make {P : Program} {w : World} {K : PySem.W.Frag} {mg : Str → Option Value} {base : Heap} {A : Around} {outer : List Env} {s : Shared} {H : Hp} (e : Env0 P w K mg base A outer s H) (C : Addr) (us : List Value) (kw : List (Str × Value)) :
   Env0 P w K mg base (A.under (.builtin "type.__call__" ⟨.ref C :: us, kw⟩)) outer s H := ⟨by first | exact e.frames | (simpa [Around.under, Code.envs, Code.isFrame, pushEnvs] using e.frames), e.mod, e.bs, e.bsz, e.funs, e.frf, e.hok, e.bare⟩
theorem Env0.in1 {P : Program} {w : World} {K : PySem.W.Frag} {mg : Str → Option Value} {base : Heap} {A : Around} {outer : List Env} {s : Shared} {H : Hp} (e : Env0 P w K mg base A outer s H) :
   Env0 P w K mg base A.in1 outer s H := ⟨e.frames, e.mod, e.bs, e.bsz, e.funs, e.frf, e.hok, e.bare⟩
section
variable {X : Cx} {pins : List (Addr × Obj)} {σ : St} {H : Hp} {s s' : Shared}
theorem Inv.env0 (I : Inv X pins σ H s) : Env0 X.prog X.w X.K X.mg X.base X.A X.stack s H :=
 ⟨I.ok.frames, I.ok.mod, I.bs, Nat.le_trans I.ok.bsz I.sz, I.stack, I.stkFree, I.hok, I.bare⟩
theorem Inv.after {Q : VK} {u : Value} (I : Inv X pins σ H s) (h : CE X.stack X.prog X.w H s Q u s') : EP X pins σ Q u s' := by
 obtain ⟨v, H', os, bare, un, hok, r, q⟩ := h
 obtain ⟨hh, g, d, t, os'⟩ := s'
 obtain rfl : os' = s.os := os
 exact ⟨v, H', I.call (h' := hh) (g' := g) (d' := d) (t' := t) (ch := []) un hok bare (fun b z => absurd z (by simp)), r, q⟩
end
def tCall (sp : Sp) (dvs : List V) (E : XK) (t : TA) : TE := fun σ H Q => t σ H fun vs H1 => sp (vs ++ dvs) H1 Q E
def tMeth (C : Addr) (m : Str) (sp : Sp) (dvs : List V) (E : XK) (ta : TE) (t : TA) : TE := fun σ H Q => ta σ H fun x H1 => ∃ a dx fs, x = .ref a ∧ H1 a = some (.ins C dx fs) ∧ fs.lookup m = none ∧
 t σ H1 fun vs H2 => sp (x :: (vs ++ dvs)) H2 Q E
def tMake (C : Addr) (sp : Sp) (dvs : List V) (E : XK) (t : TA) : TE := fun σ H Q => t σ H fun vs H1 => ∀ x dx, H1 x = none → H1 dx = none → dx ≠ x →
 sp (.ref x :: (vs ++ dvs)) (upd (upd H1 dx (.own x)) x (.ins C dx [])) (fun v H2 => v = .non ∧ Q (.ref x) H2) E
def Binds (K : PySem.W.Frag) (fd : FuncData) (ps : List Str) (ds : List Value) : Prop :=
 ∀ (s : Shared) (us : List Value), K.In s.heap → (us ++ ds).length = ps.length → BindsTo s fd ⟨us, []⟩ (ps.zip (us ++ ds))
theorem Binds.all {K : PySem.W.Frag} {fd : FuncData} {ps : List Str} (h : ∀ us : List Value, us.length = ps.length → bindArgs fd ⟨us, []⟩ = pure (ps.zip us)) : Binds K fd ps [] := fun s us _ hl => by
 rw [List.append_nil] at hl ⊢
 exact .of_eq (h us hl)
def Passes (CX : CXT) (X : Cx) (E : XK) : Prop := ∀ (pins : List (Addr × Obj)) (σ : St) (H : Hp) (s : Shared) (e : Value) (s' : Shared), Inv X pins σ H s → CX X.stack H s E e s' → X.xe e s'
section
variable {X : Cx} {CX : CXT} {cm : Bool} {k : Nat} {f C : Addr} {fd : FuncData} {ps : List Str} {sp : Sp} {dvs : List V} {ds : List Value} {E : XK} {x m : Str} {p pos apos : Pos} {e o : Expr} {es : List Expr} {ta : TE} {t : TA}
theorem run_fn {pins : List (Addr × Obj)} {σ : St} {H : Hp} {s : Shared} {Q : VK} {us : List Value} {vs : List V} (F : FnOk X.prog X.w X.K X.mg X.base CX cm k f fd ps sp) (hr : Room cm k X.A) (hb : Binds X.K fd ps ds) (hd : Vals dvs ds) (hx : Passes CX X E)
   (I : Inv X pins σ H s) (r : Vals vs us) (h : sp (vs ++ dvs) H Q E) : wpAny (model X.prog X.w) X.A (call (.ref f) us) (EP X pins σ Q) X.xe s := by
 have r2 : Vals (vs ++ dvs) (us ++ ds) := r.append hd
 have hl : (us ++ ds).length = ps.length := by rw [← r2.length]; exact F.len _ _ _ _ h
 refine wpAny_call (codeAny_mono (F.run X.A X.stack s H ⟨us, []⟩ (us ++ ds) (vs ++ dvs) Q E hr I.env0 (hb s us I.kIn hl) r2 h) fun r s' hq => ?_)
 cases r with
 | error e => exact hx pins σ H s e s' I hq
 | ok fl =>
   cases fl with
   | ret u => exact I.after hq
   | next => exact False.elim hq
   | brk => exact False.elim hq
   | cont => exact False.elim hq
theorem pe_call (F : FnOk X.prog X.w X.K X.mg X.base CX cm k f fd ps sp) (hr : Room cm k X.A) (hg : Gl X x) (hm : X.mg x = some (.ref f)) (hk : PySem.W.keepIn X.K (.ref f) = true) (hb : Binds X.K fd ps ds) (hd : Vals dvs ds) (hx : Passes CX X E)
   (ha : PA X (e :: es) t) (hdb : (x == ("__debug__" : Str)) = false := by decide) (he : starEach (e :: es) X.env = (false, eval e X.env) :: starEach es X.env := by rfl) (hpl : (backTo pos (starEach es X.env)).any (·.1) = false := by rfl) :
   PE X (.Call (.Name x p) (e :: es) [] pos) (tCall sp dvs E t) := by
 intro pins s σ H Q I h
 refine wpAny_Call_Name_kw (ld_glob I hg hm ?_ hdb)
 refine PySem.W.callWith_K (h₀ := X.base) I.ok.mod.kin hk (thn (ha pos pins s σ H _ I h) fun us s1 ⟨vs, H1, I1, r, q⟩ => ⟨I1.kIn, ?_⟩) he hpl
 exact run_fn F hr hb hd hx I1 r q
theorem pe_meth {pl : Sem Bool} (he : PE X o ta) (c : Cls X.K C) (hm : Meth X.K C m f) (F : FnOk X.prog X.w X.K X.mg X.base CX cm k f fd ps sp) (hr : Room cm k X.A) (hb : Binds X.K fd ps ds) (hd : Vals dvs ds) (hx : Passes CX X E) (ha : PA X (e :: es) t)
   (hst : starEach (e :: es) X.env = (false, eval e X.env) :: starEach es X.env := by rfl) (hpl : (backTo pos (starEach es X.env)).any (·.1) = false := by rfl)
   (ht : eval (.Call (.Attribute o m apos) (e :: es) [] pos) X.env = (do
     let ov ← eval o X.env
     standAt apos.atName
     let (f, first) ← holding [ov] (getMethod ov m pl)
     callWith pos f first (backTo pos (starEach (e :: es) X.env)) (backToKw pos (keywordEach [] X.env))) := by rfl) :
   PE X (.Call (.Attribute o m apos) (e :: es) [] pos) (tMeth C m sp dvs E ta t) := by
 intro pins s σ H Q I h
 refine PySem.W.methodCall_KW (pl := pl) (thn (he pins s σ H _ I h) fun u s1 ⟨x, H1, I1, rx, a, dx, fs, ex, ea, l, q⟩ => ?_) ht
 subst ex
 obtain rfl : u = Value.ref a := rx
 refine getmeth_ok I1 ea c hm l ?_
 refine PySem.W.callWith_K (first := [.ref a]) (h₀ := X.base) I.ok.mod.kin hm.kp (thn (ha pos pins s1 σ H1 _ I1 q) fun us s2 ⟨vs, H2, I2, r, q2⟩ => ⟨I2.kIn, ?_⟩) hst hpl
 exact run_fn (us := .ref a :: us) (vs := .ref a :: vs) F hr hb hd hx I2 (.cons rfl r) q2
structure Mk (K : PySem.W.Frag) (C f : Addr) : Prop where
 makes : PySem.W.makesIn K C = true
 init : PySem.W.findIn K (.ref C) "__init__" = some (some (.ref f))
 fn : PySem.W.isFn K (.ref f) = true
 kp : PySem.W.keepIn K (.ref C) = true
theorem run_make {pins : List (Addr × Obj)} {σ : St} {H : Hp} {s : Shared} {Q : VK} {us : List Value} {vs : List V} (M : Mk X.K C f) (F : FnOk X.prog X.w X.K X.mg X.base CX cm k f fd ps sp) (hr : Room cm (k + 1) X.A) (hb : Binds X.K fd ps ds) (hd : Vals dvs ds)
   (hx : Passes CX X E) (I : Inv X pins σ H s) (r : Vals vs us)
   (h : ∀ x dx, H x = none → H dx = none → dx ≠ x → sp (.ref x :: (vs ++ dvs)) (upd (upd H dx (.own x)) x (.ins C dx [])) (fun v H2 => v = .non ∧ Q (.ref x) H2) E) :
   wpAny (model X.prog X.w) X.A (call (.ref C) us) (EP X pins σ Q) X.xe s := by
 have hq := h (s.heap.objs.size + 1) s.heap.objs.size (I.hok.fresh (Nat.le_succ _)) (I.hok.fresh (Nat.le_refl _)) (Nat.ne_of_lt (Nat.lt_succ_self _))
 have I2 := Inv.made (C := C) I
 have r2 : Vals (V.ref (s.heap.objs.size + 1) :: (vs ++ dvs)) (Value.ref (s.heap.objs.size + 1) :: (us ++ ds)) := .cons rfl (r.append hd)
 have hl : (Value.ref (s.heap.objs.size + 1) :: us ++ ds).length = ps.length := by
   have e := r2.length
   rw [F.len _ _ _ _ hq] at e
   exact e.symm
 refine wpAny_call (make_map (f := f) I.kIn M.makes M.init (beq_iff_eq.mp M.fn) (codeAny_mono (F.run _ X.stack _ _ ⟨Value.ref (s.heap.objs.size + 1) :: us, []⟩ (Value.ref (s.heap.objs.size + 1) :: (us ++ ds)) _ _ E (hr.make C us [])
   (I2.env0.make C us []) (hb _ (Value.ref (s.heap.objs.size + 1) :: us) I2.kIn hl) r2 hq) fun r s' hq' => ?_))
 cases r with
 | error e => exact hx pins σ _ _ e s' I2 hq'
 | ok fl =>
   cases fl with
   | ret u =>
     obtain ⟨v, H', I3, rv, ev, q3⟩ := I2.after hq'
     subst ev
     exact ⟨rv, ⟨V.ref (s.heap.objs.size + 1), H', I3, rfl, q3⟩⟩
   | next => exact False.elim hq'
   | brk => exact False.elim hq'
   | cont => exact False.elim hq'
theorem pe_make (M : Mk X.K C f) (F : FnOk X.prog X.w X.K X.mg X.base CX cm k f fd ps sp) (hr : Room cm (k + 1) X.A) (hg : Gl X x) (hm : X.mg x = some (.ref C)) (hb : Binds X.K fd ps ds) (hd : Vals dvs ds) (hx : Passes CX X E)
   (ha : PA X (e :: es) t) (hdb : (x == ("__debug__" : Str)) = false := by decide) (he : starEach (e :: es) X.env = (false, eval e X.env) :: starEach es X.env := by rfl) (hpl : (backTo pos (starEach es X.env)).any (·.1) = false := by rfl) :
   PE X (.Call (.Name x p) (e :: es) [] pos) (tMake C sp dvs E t) := by
 intro pins s σ H Q I h
 refine wpAny_Call_Name_kw (ld_glob I hg hm ?_ hdb)
 refine PySem.W.callWith_K (h₀ := X.base) I.ok.mod.kin M.kp (thn (ha pos pins s σ H _ I h) fun us s1 ⟨vs, H1, I1, r, q⟩ => ⟨I1.kIn, ?_⟩) he hpl
 exact run_make M F hr hb hd hx I1 r q
theorem pe_make0 (M : Mk X.K C f) (F : FnOk X.prog X.w X.K X.mg X.base CX cm k f fd ps sp) (hr : Room cm (k + 1) X.A) (hg : Gl X x) (hm : X.mg x = some (.ref C)) (hb : Binds X.K fd ps ds) (hd : Vals dvs ds) (hx : Passes CX X E)
   (hdb : (x == ("__debug__" : Str)) = false := by decide) : PE X (.Call (.Name x p) [] [] pos) (tMake C sp dvs E tNil) := by
 intro pins s σ H Q I h
 refine wpAny_Call_Name_kw (ld_glob I hg hm ?_ hdb)
 exact PySem.W.callWith_K0 I.kIn M.kp (run_make (us := []) M F hr hb hd hx I .nil h)
end
section
variable {X : Cx} {CX : CXT} {cm : Bool} {k : Nat} {f C : Addr} {fd : FuncData} {ps ks : List Str} {sp : Sp} {E : XK} {x m : Str} {p pos apos kpos : Pos} {e o : Expr} {es : List Expr} {kws : List Keyword} {te ta : TE} {t tk : TA} {nm : Option Str}
variable {g : List Value → List Value → List Value} {gV : List V → List V → List V}
end
structure FnScope (N P : List Str) (sc : Scope) : Prop where
 kind : sc.kind = .function
 co : sc.isCoroutine = false
 gen : sc.isGenerator = false
 nd : N.Nodup
 pre : N.take P.length = P
 par : ∀ x ∈ P, sc.names.lookup x = some .local ∨ sc.names.lookup x = some .cell
 nofree : ∀ y ∈ sc.names, y.2 ≠ .free
theorem bindL_out {kindOf : Str → Option NameKind} {x : Str} : ∀ {binds : List (Str × Value)} {m : Str → Option Value}, (∀ v, (x, v) ∉ binds) → bindL kindOf binds m x = m x
 | [], _, _ => rfl
 | (n, v) :: r, m, h => by
   unfold bindL
   rw [bindL_out fun w hw => h w (List.mem_cons_of_mem _ hw)]
   split
   · have : x ≠ n := by rintro rfl; exact h v List.mem_cons_self
     simp [this]
   · rfl
theorem bindC_out {kindOf : Str → Option NameKind} {x : Str} : ∀ {binds : List (Str × Value)} {m : Str → Option Value}, (∀ v, (x, v) ∉ binds) → bindC kindOf binds m x = m x
 | [], _, _ => rfl
 | (n, v) :: r, m, h => by
   unfold bindC
   rw [bindC_out fun w hw => h w (List.mem_cons_of_mem _ hw)]
   split
   · rfl
   · have : x ≠ n := by rintro rfl; exact h v List.mem_cons_self
     simp [this]
theorem bindL_get {kindOf : Str → Option NameKind} {x : Str} {v : Value} : ∀ {P : List Str} {vs : List Value} {i : Nat} {m : Str → Option Value}, P.Nodup → P[i]? = some x → vs[i]? = some v → kindOf x = some .local →
   bindL kindOf (P.zip vs) m x = some v
 | [], _, _, _, _, h, _, _ => by simp at h
 | _ :: _, [], _, _, _, _, h, _ => by simp at h
 | p :: P, w :: vs, 0, m, nd, h1, h2, hk => by
   simp at h1 h2; subst h1; subst h2
   show bindL kindOf ((p, w) :: P.zip vs) m p = _
   unfold bindL
   rw [bindL_out fun v hv => (List.nodup_cons.mp nd).1 (List.of_mem_zip hv).1, if_pos hk]
   simp
 | p :: P, w :: vs, i + 1, m, nd, h1, h2, hk => by
   show bindL kindOf ((p, w) :: P.zip vs) m x = _
   unfold bindL
   exact bindL_get (i := i) (List.nodup_cons.mp nd).2 (by simpa using h1) (by simpa using h2) hk
theorem bindC_get {kindOf : Str → Option NameKind} {x : Str} {v : Value} : ∀ {P : List Str} {vs : List Value} {i : Nat} {m : Str → Option Value}, P.Nodup → P[i]? = some x → vs[i]? = some v → kindOf x ≠ some .local →
   bindC kindOf (P.zip vs) m x = some v
 | [], _, _, _, _, h, _, _ => by simp at h
 | _ :: _, [], _, _, _, _, h, _ => by simp at h
 | p :: P, w :: vs, 0, m, nd, h1, h2, hk => by
   simp at h1 h2; subst h1; subst h2
   show bindC kindOf ((p, w) :: P.zip vs) m p = _
   unfold bindC
   rw [bindC_out fun v hv => (List.nodup_cons.mp nd).1 (List.of_mem_zip hv).1, if_neg hk]
   simp
 | p :: P, w :: vs, i + 1, m, nd, h1, h2, hk => by
   show bindC kindOf ((p, w) :: P.zip vs) m x = _
   unfold bindC
   exact bindC_get (i := i) (List.nodup_cons.mp nd).2 (by simpa using h1) (by simpa using h2) hk
def start (N : List Str) (vs : List V) : St := vs.map some ++ List.replicate (N.length - vs.length) none
def cxOf (CX : CXT) (cm : Bool) (P : Program) (w : World) (K : PySem.W.Frag) (mg : Str → Option Value) (base : Heap) (N : List Str) (qual : Str) (scope : Scope) (f : Addr) (cd : Value) (A : Around) (outer : List Env) (s : Shared) (H : Hp) (E : XK) : Cx where
 prog := P
 w := w
 K := K
 mg := mg
 base := base
 A := A.deeper (envOfC qual scope s.heap.objs.size f cd)
 N := N
 s₀ := s
 H₀ := H
 env := envOfC qual scope s.heap.objs.size f cd
 outer := outer
 stack := envOfC qual scope s.heap.objs.size f cd :: outer
 ex := []
 calm := cm
 fn := fun _ => true
 pn := []
 xe := fun e s' => wpAny (model P w) (A.deeper (envOfC qual scope s.heap.objs.size f cd)) (leaving (envOfC qual scope s.heap.objs.size f cd) e) (fun _ s'' => CX outer H s E e s'') (fun e' s'' => CX outer H s E e' s'') s'
theorem cell_has {sc : Scope} {n : Nat} {x : Str} (h : sc.names.lookup x = some .cell) : ∃ c, (cellsFrom n sc.names []).lookup x = some c := by
 have q := PySem.W.cellsFrom_some sc.names n [] (.inl h)
 exact Option.isSome_iff_exists.mp q
theorem inv_start {CX : CXT} {cm : Bool} {P : Program} {w : World} {K : PySem.W.Frag} {mg : Str → Option Value} {base : Heap} {N ps : List Str} {qual : Str} {scope : Scope} {f : Addr} {cd : Value} {A : Around} {outer : List Env} {s s1 : Shared} {H : Hp} {E : XK} {us : List Value} {vs : List V}
   (S : FnScope N ps scope) (hd : cm = true → A.handled = none) (e0 : Env0 P w K mg base A outer s H) (hl : vs.length = ps.length) (r : Vals vs us)
   (x : InCallC s s.heap.objs.size (bindL (envOfC qual scope s.heap.objs.size f cd).kindOf (ps.zip us) fun _ => none) (cellsFrom (s.heap.objs.size + 1) scope.names []) (bindC (envOfC qual scope s.heap.objs.size f cd).kindOf (ps.zip us) fun _ => none) s1) :
   Inv (cxOf CX cm P w K mg base N qual scope f cd A outer s H E) [] (start N vs) H s1 := by
 have hpl : ps.length ≤ N.length := by have := congrArg List.length S.pre; rw [List.length_take] at this; omega
 obtain ⟨h1, tk, rfl, hk⟩ := x.done
 have noA : ∀ b : Addr, b ∉ (cxOf CX cm P w K mg base N qual scope f cd A outer s H E).ex := fun b z => absurd (show b ∈ ([] : List Addr) from z) (by simp)
 refine ⟨⟨e0.mod, S.kind, rfl, rfl, Nat.le_refl _, fun y z c h1 h2 => ?_, fun y hy => ?_, fun y c _ h => ?_, hd, Around.frames_deeper e0.frames, .inr ⟨rfl, rfl⟩, fun b z => absurd z (noA b), e0.bs, e0.bsz, fun b _ _ => noA b, fun b z => absurd z (noA b), e0.funs, e0.frf⟩,
   rfl, e0.bare, Un.kept hk, ⟨_, x.toInCall.ns, fun i y v h1 h2 h3 => ?_⟩, fun y c h => ⟨_, x.cell y c h⟩, e0.hok.fresh (Nat.le_refl _), fun y c h => ?_, fun p hp => absurd (show p ∈ ([] : List (Addr × Obj)) from hp) (by simp), e0.hok.kept hk, ?_⟩
 · exact name_of_addr x.apart (PySem.mem_of_lookup h1) (PySem.mem_of_lookup h2)
 · have hy : scope.names.lookup y = some .cell ∨ scope.names.lookup y = some .free := hy
   rcases hy with hy | hy
   · exact cell_has hy
   · exact absurd rfl (S.nofree _ (PySem.mem_of_lookup hy))
 · exact Nat.le_of_lt (x.above y c (PySem.mem_of_lookup h))
 · have hi : i < vs.length := by
     unfold start at h2
     by_cases hi : i < vs.length
     · exact hi
     · rw [List.getElem?_append_right (by simpa using hi)] at h2
       rw [List.getElem?_replicate] at h2
       split at h2 <;> cases h2
   have ha : vs[i]? = some v := by
     unfold start at h2
     rw [List.getElem?_append_left (by simpa using hi), List.getElem?_map] at h2
     cases e : vs[i]? with
     | none => rw [e] at h2; cases h2
     | some a => rw [e] at h2; cases h2; rfl
   obtain ⟨u, hu, rv⟩ := r.get ha
   have hp : ps[i]? = some y := by
     rw [← S.pre, List.getElem?_take_of_lt (by omega)]; exact h1
   have ndP : ps.Nodup := by rw [← S.pre]; exact S.nd.sublist (List.take_sublist _ _)
   refine ⟨u, rv, ?_⟩
   rcases S.par y (List.mem_of_getElem? hp) with k | k
   · exact .inl ⟨k, bindL_get ndP hp hu k⟩
   · obtain ⟨c, e⟩ := cell_has (n := s.heap.objs.size + 1) k
     refine .inr ⟨.inl k, c, e, ?_⟩
     have q := x.cell y c e
     rw [bindC_get ndP hp hu (by show scope.names.lookup y ≠ _; rw [k]; decide)] at q
     exact q
 · exact e0.hok.fresh (Nat.le_of_lt (x.above y c (PySem.mem_of_lookup h)))
 · unfold start
   show _ = N.length
   rw [List.length_append, List.length_map, List.length_replicate]
   omega
theorem fn_of {CX : CXT} {cm : Bool} {P : Program} {w : World} {K : PySem.W.Frag} {mg : Str → Option Value} {base : Heap} {k : Nat} {f : Addr} {name qual : Str} {params : Arguments} {body : List Stmt} {scope : Scope} {dV kV doc pm cdv ct oc : Value} {an od : Option Addr}
   {osl : Array (Option Value)} {N ps : List Str} {sp : Sp} (lk : K.lookup f = some ⟨oc, od, .func (PySem.W.fnOf name qual params body scope dV kV doc pm an cdv ct), osl⟩) (hcd : PySem.W.codeIn K cdv qual = true) (S : FnScope N ps scope)
   (len : ∀ vs H Q E, sp vs H Q E → vs.length = ps.length)
   (hbody : ∀ (A : Around) (outer : List Env) (s : Shared) (H : Hp) (vs : List V) (Q : VK) (E : XK), Room cm k (A.deeper (envOfC qual scope s.heap.objs.size f cdv)) → sp vs H Q E →
     ∃ t, PSs (cxOf CX cm P w K mg base N qual scope f cdv A outer s H E) body t ∧ t { nx := fun _ H' => Q .non H', rt := Q } (start N vs) H) :
   FnOk P w K mg base CX cm (k + 1) f (PySem.W.fnOf name qual params body scope dV kV doc pm an cdv ct) ps sp := by
 refine ⟨len, fun A outer s H args us vs Q E hr e0 hb r hsp => ?_⟩
 have hl := len _ _ _ _ hsp
 have KX : K.In s.heap := e0.mod.kin.keeps fun b o e => (e0.bs b o e).1
 have lim : s.heap.NoLimit := e0.mod.nolimit.keeps fun b o e => (e0.bs b o e).1
 have hkind : ∀ y ∈ ps.zip us, scope.names.lookup y.1 = some .local ∨ (scope.names.lookup y.1 = some .cell ∧ ((cellsFrom (s.heap.objs.size + 1) scope.names []).lookup y.1).isSome = true) := fun ⟨n, v⟩ hy => by
   rcases S.par n (List.of_mem_zip hy).1 with q | q
   · exact .inl q
   · exact .inr ⟨q, PySem.W.cellsFrom_some _ _ _ (.inl q)⟩
 refine codeAny_call_function hr.depth (KX _ _ lk) rfl S.co S.gen rfl (PySem.W.codeRec_of KX hcd) (hb _ _ _ _ ?_)
 refine wpAny_newFunctionEnv_cells S.kind hkind fun env he s1 x => ?_
 subst he
 refine ⟨lim.keeps x.toInCall.keep, codeAny_func ?_⟩
 obtain ⟨t, ht, hq⟩ := hbody A outer s H vs Q E (hr.deeper _) hsp
 have I : Inv (cxOf CX cm P w K mg base N qual scope f cdv A outer s H E) [] (start N vs) H s1 := inv_start S hr.hd e0 hl r x
 refine wpAny_mono (ht [] s1 (start N vs) H _ I hq) (fun fl s' hs => ?_) fun e s' hs => hs
 have fin : ∀ {σ' : St} {H' : Hp} {v : V} {u : Value}, Inv (cxOf CX cm P w K mg base N qual scope f cdv A outer s H E) [] σ' H' s' → RelV v u → Q v H' → CE outer P w H s Q u s' :=
   fun {σ' H' v u} J rv q => ⟨v, H', J.os, J.bare, J.base, J.hok, rv, q⟩
 cases fl with
 | ret u =>
   obtain ⟨v, σ', H', J, rv, q⟩ := hs
   exact fin J rv q
 | next =>
   obtain ⟨σ', H', J, q⟩ := hs
   exact fin (v := V.non) (u := Value.none) J rfl q
 | brk =>
   obtain ⟨_, _, _, q⟩ := hs
   exact False.elim q
 | cont =>
   obtain ⟨_, _, _, q⟩ := hs
   exact False.elim q
end L2
namespace L2
open PySem PySem.Spec PyProof.Rows
section
variable {X : Cx} {x : Str} {p pos : Pos} {e : Expr} {es : List Expr} {t : TA} {id T : String} {r : List V → Hp → VK → Prop}
def tCB (r : List V → Hp → VK → Prop) (t : TA) : TE := fun σ H Q => t σ H fun vs H1 => r vs H1 Q
theorem pe_callB (hc : CallR X (.builtin id) r) (hg : Gl X x) (hm : X.mg x = none) (hv : bootBuiltins x = some (.builtin id)) (ha : PA X (e :: es) t) (hn : x ≠ "__name__" := by decide) (hdb : (x == ("__debug__" : Str)) = false := by decide)
   (he : starEach (e :: es) X.env = (false, eval e X.env) :: starEach es X.env := by rfl) (hpl : (backTo pos (starEach es X.env)).any (·.1) = false := by rfl) : PE X (.Call (.Name x p) (e :: es) [] pos) (tCB r t) := by
 intro pins s σ H Q I h
 refine wpAny_Call_Name_kw (ld_blt I hg hm hv ?_ hn hdb)
 exact PyProof.Rows.callWith_builtin1 (thn (ha pos pins s σ H _ I h) fun us s1 ⟨vs, H1, I1, r1, q1⟩ => hc pins s1 σ H1 vs us Q I1 r1 q1) he hpl
theorem pe_callTy (hc : CallR X (.type T) r) (hg : Gl X x) (hm : X.mg x = none) (hv : bootBuiltins x = some (.type T)) (ha : PA X (e :: es) t) (hn : x ≠ "__name__" := by decide) (hdb : (x == ("__debug__" : Str)) = false := by decide)
   (he : starEach (e :: es) X.env = (false, eval e X.env) :: starEach es X.env := by rfl) (hpl : (backTo pos (starEach es X.env)).any (·.1) = false := by rfl) : PE X (.Call (.Name x p) (e :: es) [] pos) (tCB r t) := by
 intro pins s σ H Q I h
 refine wpAny_Call_Name_kw (ld_blt I hg hm hv ?_ hn hdb)
 exact PyProof.Rows.callWith_type1 (thn (ha pos pins s σ H _ I h) fun us s1 ⟨vs, H1, I1, r1, q1⟩ => hc pins s1 σ H1 vs us Q I1 r1 q1) he hpl
end
end L2
namespace HT
open PySem PyProof.Rows
section
open PySem.SeqAt
open PySem.AutoSeq1 (wpAny_loadPart')
open PySem.MeetsSeq PySem.MeetsSeq2 PySem.MeetsSeq3
end
section
variable {prog : Program} {w : World} {A : Around} {E : Value → Shared → Prop} {s : Shared}
theorem cat_tup {t b : Addr} {vs ws : List Value} {Q : Value → Shared → Prop} (ht : IsTup s.heap t vs.toArray) (hb : IsTup s.heap b ws.toArray) (hv : vs ≠ [])
   (h1 : ws = [] → Q (.ref t) s) (h2 : ws ≠ [] → Q (.ref s.heap.objs.size) { s with heap := s.heap.push { cls := .type "tuple", data := .seq (vs ++ ws).toArray } })
   (hsz : vs.length + ws.length ≤ sizeLine) : wpAny (model prog w) A (binaryOp .Add (.ref t) (.ref b)) Q E s := by
 obtain ⟨⟨cls, dd, data, sl⟩, ho, hc, n, hd⟩ := id ht
 obtain ⟨⟨cls2, dd2, data2, sl2⟩, ho2, hc2, n2, hd2⟩ := id hb
 simp only at hc hd hc2 hd2
 subst hc hd hc2 hd2
 have e : vs.toArray ++ ws.toArray = (vs ++ ws).toArray := by simp
 by_cases hw : ws = []
 · exact concat_meets ⟨_, ho, rfl⟩ ⟨_, ho2, rfl⟩ noFill_tuple_add seq_tuple_add PySem.F.slot_tuple_add PySem.F.entry_tuple_add (PySem.F.args_tuple_add_2 _ _)
     (tuple_addW1 t b vs.toArray ws.toArray n n2 dd dd2 sl sl2 (by simpa using hv) (by simp [hw])) ⟨ho, ho2, h1 hw⟩
 · refine concat_meets ⟨_, ho, rfl⟩ ⟨_, ho2, rfl⟩ noFill_tuple_add seq_tuple_add PySem.F.slot_tuple_add PySem.F.entry_tuple_add (PySem.F.args_tuple_add_2 _ _)
     (tuple_addW2 t b vs.toArray ws.toArray n n2 dd dd2 sl sl2 (by simpa using hv) (by simpa using hw) (by rw [List.size_toArray, List.size_toArray]; exact hsz)) ⟨ho, ho2, ?_⟩
   rw [e]
   exact h2 hw
def sIx (n d : Nat) : Option Int → Nat
 | none => d
 | some v => if v < 0 then (v + (n : Int)).toNat else min v.toNat n
theorem sIx_none (n d : Nat) : sIx n d none = d := rfl
theorem sIx_nat (n d k : Nat) : sIx n d (some (k : Int)) = min k n := by
 show (if (k : Int) < 0 then ((k : Int) + (n : Int)).toNat else min (k : Int).toNat n) = min k n
 rw [if_neg (by omega), Int.toNat_natCast]
end
end HT
namespace L2
open PySem PySem.Spec PyProof.Rows
abbrev TO := St → Hp → (Option Int → Hp → Prop) → Prop
def PO (X : Cx) (e : Option Expr) (t : TO) : Prop :=
 ∀ (pins : List (Addr × Obj)) (s : Shared) (σ : St) (H : Hp) (Q : Option Int → Hp → Prop), Inv X pins σ H s → t σ H Q →
   wpAny (model X.prog X.w) X.A (evalPart e X.env) (fun u s' => ∃ o H', Inv X pins σ H' s' ∧ IsPart u o ∧ Q o H') X.xe s
def tNoPart : TO := fun _ H Q => Q none H
def tPart (t : TE) : TO := fun σ H Q => t σ H fun x H1 => ∃ i, x = .int i ∧ Q (some i) H1
section
variable {X : Cx} {e : Expr} {te : TE} {lo hi : Option Expr} {tl th : TO} {pos p2 : Pos}
theorem po_none : PO X none tNoPart := by
 intro pins s σ H Q I h
 rw [evalPart_none]
 exact wpAny_pure ⟨none, H, I, .none, h⟩
theorem po_some (h : PE X e te) : PO X (some e) (tPart te) := by
 intro pins s σ H Q I hw
 rw [evalPart_some]
 refine thn (h pins s σ H _ I hw) fun u s1 ⟨x, H1, I1, r1, q1⟩ => ?_
 obtain ⟨i, rfl, q⟩ := q1
 obtain ⟨t, rfl⟩ := r1
 exact ⟨some i, H1, I1, .int i t, q⟩
def SlR (X : Cx) (r : V → Option Int → Option Int → Hp → VK → Prop) : Prop :=
 ∀ (pins : List (Addr × Obj)) (s : Shared) (σ : St) (H : Hp) (x : V) (v vl vu : Value) (lo hi : Option Int) (sl : Addr) (Q : VK), Inv X pins σ H s → RelV x v → s.heap.IsSliceOf sl vl vu .none → IsPart vl lo → IsPart vu hi → r x lo hi H Q →
   ∃ T id, typeLookup (.type T) "__getitem__" = pure (some (.builtin id)) ∧ s.TypeIs v T ∧ wpAny (model X.prog X.w) X.A (getItem v (.ref sl)) (EP X pins σ Q) X.xe s
theorem SlR.or {r r' : V → Option Int → Option Int → Hp → VK → Prop} (h : SlR X r) (h' : SlR X r') : SlR X (fun x lo hi H Q => r x lo hi H Q ∨ r' x lo hi H Q) := by
 intro pins s σ H x v vl vu lo hi sl Q I rx hs pl pu q
 rcases q with q | q
 · exact h pins s σ H x v vl vu lo hi sl Q I rx hs pl pu q
 · exact h' pins s σ H x v vl vu lo hi sl Q I rx hs pl pu q
def tSl (r : V → Option Int → Option Int → Hp → VK → Prop) (te : TE) (tl th : TO) : TE := fun σ H Q => te σ H fun x H1 => tl σ H1 fun l H2 => th σ H2 fun u H3 => r x l u H3 Q
theorem pe_slice {r : V → Option Int → Option Int → Hp → VK → Prop} (hr : SlR X r) (he : PE X e te) (hl : PO X lo tl) (hu : PO X hi th) : PE X (.Subscript e (.Slice lo hi none p2) pos) (tSl r te tl th) := by
 intro pins s σ H Q I h
 refine Subscript_ (thn (he pins s σ H _ I h) fun v s1 ⟨x, H1, I1, r1, q1⟩ => ?_)
 refine wpAny_Slice (thn (hl pins s1 σ H1 _ I1 q1) fun vl s2 ⟨l, H2, I2, pl, q2⟩ => thn (hu pins s2 σ H2 _ I2 q2) fun vu s3 ⟨u, H3, I3, pu, q3⟩ => ?_)
 rw [evalPart_none]
 refine wpAny_pure ?_
 have I4 : Inv X pins σ H3 { s3 with heap := s3.heap.push { cls := .type "slice", data := .fields #[vl, vu, .none] } } := I3.kept (t' := s3.toks) fun b ob q => Heap.get?_push_of_some _ q
 obtain ⟨T, id, hT, ht, hg⟩ := hr pins { s3 with heap := s3.heap.push { cls := .type "slice", data := .fields #[vl, vu, .none] } } σ H3 x v vl vu l u s3.heap.objs.size Q I4 r1 (Heap.IsSliceOf.new ..) pl pu q3
 show wpAny (model X.prog X.w) X.A (subscriptTail e (.Slice lo hi none p2) v (.ref s3.heap.objs.size)) (EP X pins σ Q) X.xe { s3 with heap := s3.heap.push { cls := .type "slice", data := .fields #[vl, vu, .none] } }
 exact tail_any (ops := [.ref s3.heap.objs.size, v]) ht hT hg (by with_unfolding_all rfl)
def cutV (xs : List V) (lo hi : Option Int) : List V := (xs.drop (HT.sIx xs.length 0 lo)).take (HT.sIx xs.length xs.length hi - HT.sIx xs.length 0 lo)
theorem cutV_length (xs : List V) (lo hi : Option Int) : (cutV xs lo hi).length ≤ xs.length := by
 unfold cutV
 rw [List.length_take, List.length_drop]
 omega
def rCatT (K : PySem.W.Frag) : R2 := fun x y H Q => ∃ a b xs ys, x = .ref a ∧ y = .ref b ∧ SqT K H a xs ∧ SqT K H b ys ∧ xs ≠ [] ∧ xs.length + ys.length ≤ sizeLine ∧
 (ys = [] → Q (.ref a) H) ∧ (ys ≠ [] → ∀ p, H p = none → Q (.ref p) (upd H p (.tup (xs ++ ys))))
theorem Vals.nil_iff {xs : List V} {us : List Value} (r : Vals xs us) : us = [] ↔ xs = [] := by
 cases r with
 | nil => simp
 | cons _ _ => simp
theorem op_catT : OpR X (binaryOp .Add) (rCatT X.K) := by
 intro pins s σ H x y v u Q I rx ry h
 obtain ⟨a, b, xs, ys, rfl, rfl, ha, hb, hx, hz, q1, q2⟩ := h
 cases rx
 cases ry
 obtain ⟨its, r1, p1, _⟩ := I.tuple ha
 obtain ⟨its2, r2, p2, _⟩ := I.tuple hb
 refine HT.cat_tup p1 p2 (fun z => hx (r1.nil_iff.mp z)) (fun z => ⟨.ref a, H, I, rfl, q1 (r2.nil_iff.mp z)⟩) (fun z => ?_) (by rw [← r1.length, ← r2.length]; exact hz)
 refine ⟨.ref s.heap.objs.size, _, I.laid (t' := s.toks) (o := .tup (xs ++ ys)) (fun b ob q => Heap.get?_push_of_some _ q) (Nat.le_refl _) ?_, rfl, q2 (fun w => z (r2.nil_iff.mpr w)) _ (I.hok.fresh (Nat.le_refl _))⟩
 exact ⟨by rw [List.length_append]; exact hz, _, r1.append r2, IsTup.new _ _⟩
end
end L2
namespace L2
open PySem PySem.Spec PyProof.Rows
def ixN (n : Nat) (i : Int) : Option Nat := if 0 ≤ i then (if i < n then some i.toNat else none) else if -(n : Int) ≤ i then some (i + n).toNat else none
def atI {α : Type} (xs : List α) (i : Int) : Option α := (ixN xs.length i).bind fun j => xs[j]?
theorem ixN_seq {n : Nat} {i : Int} {j : Nat} (h : ixN n i = some j) : seqIndex? i n = some j ∧ j < n ∧ -(n : Int) ≤ i ∧ i < n := by
 unfold ixN at h
 by_cases h0 : 0 ≤ i
 · rw [if_pos h0] at h
   by_cases h1 : i < n
   · rw [if_pos h1] at h
     have e : i.toNat = j := Option.some.inj h
     exact ⟨by rw [seqIndex_of h0 h1, e], by omega, by omega, h1⟩
   · rw [if_neg h1] at h; cases h
 · rw [if_neg h0] at h
   by_cases h1 : -(n : Int) ≤ i
   · rw [if_pos h1] at h
     have e : (i + n).toNat = j := Option.some.inj h
     exact ⟨by rw [seqIndex_neg (by omega) h1, e], by omega, h1, by omega⟩
   · rw [if_neg h1] at h; cases h
theorem atI_get {α : Type} {xs : List α} {i : Int} {v : α} (h : atI xs i = some v) : ∃ j, seqIndex? i xs.length = some j ∧ xs[j]? = some v ∧ j < xs.length ∧ -(xs.length : Int) ≤ i ∧ i < xs.length := by
 unfold atI at h
 cases e : ixN xs.length i with
 | none => rw [e] at h; cases h
 | some j =>
   rw [e] at h
   obtain ⟨h1, h2, h3, h4⟩ := ixN_seq e
   exact ⟨j, h1, h, h2, h3, h4⟩
theorem atI_nat {α : Type} {xs : List α} {j : Nat} {v : α} (h : xs[j]? = some v) : atI xs (j : Int) = some v := by
 have hj : j < xs.length := (List.getElem?_eq_some_iff.mp h).1
 have e : ixN xs.length (j : Int) = some j := by
   unfold ixN
   rw [if_pos (by omega), if_pos (by omega)]; simp
 unfold atI; rw [e]; exact h
def PlainIx (b : Expr) : Prop := ∀ o i, subscripted b false o i = operate [o, i] (getItem o i)
def IxR (X : Cx) (r : R2) : Prop :=
 ∀ (value slice : Expr) (pins : List (Addr × Obj)) (s : Shared) (σ : St) (H : Hp) (x y : V) (v u : Value) (Q : VK), Inv X pins σ H s → RelV x v → RelV y u → r x y H Q →
   subscripted slice false v u = operate [v, u] (getItem v u) → wpAny (model X.prog X.w) X.A (subscriptTail value slice v u) (EP X pins σ Q) X.xe s
def MtR (X : Cx) (id : String) (r : V → List V → Hp → VK → Prop) : Prop :=
 ∀ (pins : List (Addr × Obj)) (s : Shared) (σ : St) (H : Hp) (x : V) (xs : List V) (v : Value) (us : List Value) (Q : VK), Inv X pins σ H s → RelV x v → Vals xs us → r x xs H Q →
   wpAny (model X.prog X.w) X.A (call (.builtin id) (v :: us)) (EP X pins σ Q) X.xe s
section
variable {X : Cx} {a b : Expr} {ta tb : TE} {pos : Pos}
theorem IxR.or {r r' : R2} (h : IxR X r) (h' : IxR X r') : IxR X (fun x y H Q => r x y H Q ∨ r' x y H Q) := by
 intro value slice pins s σ H x y v u Q I rx ry q hs
 rcases q with q | q
 · exact h value slice pins s σ H x y v u Q I rx ry q hs
 · exact h' value slice pins s σ H x y v u Q I rx ry q hs
theorem MtR.or {id : String} {r r' : V → List V → Hp → VK → Prop} (h : MtR X id r) (h' : MtR X id r') : MtR X id (fun x xs H Q => r x xs H Q ∨ r' x xs H Q) := by
 intro pins s σ H x xs v us Q I rx rs q
 rcases q with q | q
 · exact h pins s σ H x xs v us Q I rx rs q
 · exact h' pins s σ H x xs v us Q I rx rs q
theorem pe_ix {r : R2} (hr : IxR X r) (ha : PE X a ta) (hb : PE X b tb) (hs : PlainIx b) : PE X (.Subscript a b pos) (tOp r ta tb) := by
 intro pins s σ H Q I h
 exact Subscript_ (binT ha hb I h fun v u s2 x y H2 I2 rx ry q => hr a b pins s2 σ H2 x y v u Q I2 rx ry q (hs _ _))
def rIxL (K : PySem.W.Frag) : R2 := fun x y H Q => ∃ p xs i v, x = .ref p ∧ y = .int i ∧ SqL K H p xs ∧ atI xs i = some v ∧ Q v H
def rIxT (K : PySem.W.Frag) : R2 := fun x y H Q => ∃ p xs i v, x = .ref p ∧ y = .int i ∧ SqT K H p xs ∧ atI xs i = some v ∧ Q v H
def rIxS : R2 := fun x y H Q => ∃ z i c, x = .str z ∧ y = .int i ∧ z.length ≤ sizeLine ∧ atI z.cps.toList i = some c ∧ Q (.str ⟨#[c]⟩) H
theorem ix_list : IxR X (rIxL X.K) := by
 intro value slice pins s σ H x y v u Q I rx ry h hs
 obtain ⟨p, xs, i, z, rfl, rfl, hq, he, q⟩ := h
 cases rx
 obtain ⟨t, rfl⟩ := ry
 obtain ⟨its, r, pl, hz⟩ := I.list hq
 obtain ⟨j, h1, h2, h3, h4, h5⟩ := atI_get he
 obtain ⟨w, ew, rw'⟩ := r.get h2
 have hl := r.length
 have hn := line63
 have fin : EP X pins σ Q w s := ⟨z, H, I, rw', q⟩
 by_cases h0 : 0 ≤ i
 · have hj : i.toNat = j := by
     rw [seqIndex_of h0 h5] at h1
     exact Option.some.inj h1
   exact item_listR pl.isList h0 (by omega) (by rw [hj]; simpa using ew) fin hs
 · have hj : (i + (its.toArray.size : Int)).toNat = j := by
     rw [seqIndex_neg (by omega) h4] at h1
     rw [List.size_toArray, ← hl]
     exact Option.some.inj h1
   exact subscriptTail_builtinR (x := w) pl.isList.typeIs slot_list_getitem.lookup
     (wpAny_getItem_list_neg (Q := fun r s' => r = w ∧ EP X pins σ Q r s') pl.isList (by omega) (by rw [List.size_toArray] <;> omega) (by omega) (by rw [hj]; simpa using ew) ⟨rfl, fin⟩) hs
theorem ix_tup : IxR X (rIxT X.K) := by
 intro value slice pins s σ H x y v u Q I rx ry h hs
 obtain ⟨p, xs, i, z, rfl, rfl, hq, he, q⟩ := h
 cases rx
 obtain ⟨t, rfl⟩ := ry
 obtain ⟨its, r, pl, hz⟩ := I.tuple hq
 obtain ⟨j, h1, h2, h3, h4, h5⟩ := atI_get he
 obtain ⟨w, ew, rw'⟩ := r.get h2
 have hl := r.length
 have hn := line63
 have fin : EP X pins σ Q w s := ⟨z, H, I, rw', q⟩
 exact subscriptTail_builtinR (x := w) pl.typeIs slot_tuple_getitem.lookup
   (getItem_tuple (j := j) (Q := fun r s' => r = w ∧ EP X pins σ Q r s') pl (by omega) (by omega) (by rw [List.size_toArray, ← hl]; exact h1) (by simpa using ew) ⟨rfl, fin⟩) hs
theorem ix_str : IxR X rIxS := by
 intro value slice pins s σ H x y v u Q I rx ry h hs
 obtain ⟨z, i, c, rfl, rfl, hz, he, q⟩ := h
 obtain ⟨t, rfl⟩ := rx
 obtain ⟨t', rfl⟩ := ry
 obtain ⟨j, h1, h2, h3, h4, h5⟩ := atI_get he
 have hl : z.cps.toList.length = z.length := by simp [Str.length]
 rw [hl] at h1 h4 h5
 have hn := line63
 exact tail_any (typeIs_str s z t) slot_str_getitem.lookup (getItem_str (c := c) (by
   have e1 : decide (i < -(2 ^ 63 : Int)) = false := decide_eq_false (by omega)
   have e2 : decide (i ≥ 2 ^ 63) = false := decide_eq_false (by omega)
   rw [e1, e2, Bool.or_false]) (by rw [h1]; simpa using h2) ⟨.str ⟨#[c]⟩, H, I.tok _, ⟨_, rfl⟩, q⟩) hs
def rIx (K : PySem.W.Frag) : R2 := fun x y H Q => rIxL K x y H Q ∨ rIxT K x y H Q ∨ rIxS x y H Q
theorem ix_seq : IxR X (rIx X.K) := ix_list.or (ix_tup.or ix_str)
theorem Inv.lst {pins : List (Addr × Obj)} {σ : St} {H : Hp} {s : Shared} {p : Addr} {xs : List V} (I : Inv X pins σ H s) (h : H p = some (.lst xs)) :
   ∃ (its : List Value) (n : Nat), Vals xs its ∧ s.heap.get? p = some { cls := .type "list", data := .seq its.toArray n } ∧ xs.length ≤ sizeLine := by
 obtain ⟨z, its, n, r, e⟩ := I.hok p _ h
 exact ⟨its, n, r, e, z⟩
theorem slice_bounds (lo hi : Option Int) (n : Nat) : (sliceBounds lo hi none n).1 = ((HT.sIx n 0 lo : Nat) : Int) ∧ (sliceBounds lo hi none n).2.1 = ((HT.sIx n n hi : Nat) : Int) ∧ (sliceBounds lo hi none n).2.2 = 1 := by
 refine ⟨?_, ?_, rfl⟩
 · cases lo with
   | none => simp [sliceBounds, HT.sIx]
   | some i =>
     simp only [sliceBounds, HT.sIx, Option.getD_none, show (1 : Int) > 0 by decide, if_true]
     by_cases h : i < 0
     · simp only [h, if_true] <;> omega
     · simp only [h, if_false] <;> omega
 · cases hi with
   | none => simp [sliceBounds, HT.sIx]
   | some i =>
     simp only [sliceBounds, HT.sIx, Option.getD_none, show (1 : Int) > 0 by decide, if_true]
     by_cases h : i < 0
     · simp only [h, if_true] <;> omega
     · simp only [h, if_false] <;> omega
theorem slicePick_cut (its : List Value) (lo hi : Option Int) : slicePick its.toArray lo hi none = ((its.drop (HT.sIx its.length 0 lo)).take (HT.sIx its.length its.length hi - HT.sIx its.length 0 lo)).toArray := by
 obtain ⟨h1, h2, h3⟩ := slice_bounds lo hi its.toArray.size
 unfold slicePick
 rw [h1, h2, h3]
 simp only [sliceRange_one, pick_run, List.size_toArray] <;> rfl
def rSlL (K : PySem.W.Frag) : V → Option Int → Option Int → Hp → VK → Prop := fun x lo hi H Q => ∃ a xs, x = .ref a ∧ SqL K H a xs ∧ ∀ p, H p = none → Q (.ref p) (upd H p (.lst (cutV xs lo hi)))
theorem sl_list : SlR X (rSlL X.K) := by
 intro pins s σ H x v vl vu lo hi sl Q I rx hs pl pu h
 obtain ⟨a, xs, rfl, hx, q⟩ := h
 cases rx
 obtain ⟨its, r, ht, hz⟩ := I.list hx
 have hlen := r.length
 refine ⟨"list", _, slot_list_getitem.lookup, ht.isList.typeIs, ?_⟩
 refine wpAny_getItem_list_slice ht.isList hs pl pu .none (by simp) ?_ (by rw [List.size_toArray] <;> omega)
 rw [slicePick_cut, ← hlen]
 refine ⟨.ref s.heap.objs.size, _, I.laid (t' := s.toks) (o := .lst (cutV xs lo hi)) (fun b ob q => Heap.get?_push_of_some _ q) (Nat.le_refl _) ?_, rfl, q _ (I.hok.fresh (Nat.le_refl _))⟩
 exact ⟨Nat.le_trans (cutV_length xs lo hi) hz, _, 0, (r.drop (HT.sIx xs.length 0 lo)).take (HT.sIx xs.length xs.length hi - HT.sIx xs.length 0 lo), Heap.get?_push_size _ rfl⟩
def flatV : V → Bool
 | .non => true
 | .bl _ => true
 | .int _ => true
 | .str _ => true
 | _ => false
def eqV : V → V → Bool
 | .non, .non => true
 | .bl a, .bl b => a == b
 | .bl a, .int b => (if a then 1 else 0) == b
 | .int a, .bl b => a == (if b then 1 else 0)
 | .int a, .int b => a == b
 | .str a, .str b => a == b
 | _, _ => false
theorem eqAt_V {A : Around} {s : Shared} {y x : V} {u v : Value} (ry : RelV y u) (rx : RelV x v) (fy : flatV y = true) (fx : flatV x = true) : SeqAt.EqAt A s u v (eqV y x) := by
 cases y with
 | non =>
   cases ry
   cases x with
   | non => cases rx; exact SeqAt.EqAt.same _
   | bl b => cases rx; exact SeqAt.EqAt.none_bool b
   | int b => obtain ⟨t, rfl⟩ := rx; exact SeqAt.EqAt.none_int b t
   | str b => obtain ⟨t, rfl⟩ := rx; exact SeqAt.EqAt.none_str b t
   | _ => exact absurd (show false = true from fx) Bool.false_ne_true
 | bl a =>
   cases ry
   cases x with
   | non => cases rx; exact SeqAt.EqAt.bool_none a
   | bl b => cases rx; exact SeqAt.EqAt.bool_bool a b
   | int b => obtain ⟨t, rfl⟩ := rx; exact SeqAt.EqAt.bool_int a b t
   | str b => obtain ⟨t, rfl⟩ := rx; exact SeqAt.EqAt.bool_str a b t
   | _ => exact absurd (show false = true from fx) Bool.false_ne_true
 | int a =>
   obtain ⟨t', rfl⟩ := ry
   cases x with
   | non => cases rx; exact SeqAt.EqAt.int_none a t'
   | bl b => cases rx; exact SeqAt.EqAt.int_bool a t' b
   | int b => obtain ⟨t, rfl⟩ := rx; exact SeqAt.EqAt.int_int a t' b t
   | str b => obtain ⟨t, rfl⟩ := rx; exact SeqAt.EqAt.int_str a t' b t
   | _ => exact absurd (show false = true from fx) Bool.false_ne_true
 | str a =>
   obtain ⟨t', rfl⟩ := ry
   cases x with
   | non => cases rx; exact SeqAt.EqAt.str_none a t'
   | bl b => cases rx; exact SeqAt.EqAt.str_bool a t' b
   | int b => obtain ⟨t, rfl⟩ := rx; exact SeqAt.EqAt.str_int a t' b t
   | str b => obtain ⟨t, rfl⟩ := rx; exact SeqAt.EqAt.str_str a t' b t
   | _ => exact absurd (show false = true from fx) Bool.false_ne_true
 | _ => exact absurd (show false = true from fy) Bool.false_ne_true
def eqU (x : V) (u : Value) : Bool := match u with
 | .none => eqV .non x
 | .bool b => eqV (.bl b) x
 | .int i _ => eqV (.int i) x
 | .str z _ => eqV (.str z) x
 | _ => false
theorem eqU_of {x y : V} {u : Value} (r : RelV y u) (f : flatV y = true) : eqU x u = eqV y x := by
 cases y with
 | non => cases r; rfl
 | bl b => cases r; rfl
 | int i => obtain ⟨t, rfl⟩ := r; rfl
 | str z => obtain ⟨t, rfl⟩ := r; rfl
 | _ => exact absurd (show false = true from f) Bool.false_ne_true
theorem any_eqU {x : V} : ∀ {xs : List V} {us : List Value}, Vals xs us → xs.all flatV = true → us.any (eqU x) = xs.any fun y => eqV y x
 | _, _, .nil, _ => rfl
 | y :: xs, u :: us, .cons r t, f => by
   rw [List.all_cons, Bool.and_eq_true] at f
   rw [List.any_cons, List.any_cons, eqU_of r f.1, any_eqU t f.2]
theorem mem_eqAt {A : Around} {s : Shared} {x : V} {v : Value} (rx : RelV x v) (fx : flatV x = true) : ∀ {xs : List V} {us : List Value}, Vals xs us → xs.all flatV = true → ∀ u ∈ us, SeqAt.EqAt A s u v (eqU x u)
 | _, _, .nil, _ => fun u hu => by cases hu
 | y :: xs, u :: us, .cons r t, f => fun u' hu => by
   rw [List.all_cons, Bool.and_eq_true] at f
   rcases List.mem_cons.mp hu with rfl | hu
   · rw [eqU_of r f.1]; exact eqAt_V r rx f.1 fx
   · exact mem_eqAt rx fx t f.2 u' hu
def inV (x : V) (xs : List V) : Bool := xs.any fun y => eqV y x
def rIn (K : PySem.W.Frag) (neg : Bool) : R2 := fun x y H Q => ∃ p xs, y = .ref p ∧ (SqL K H p xs ∨ SqT K H p xs) ∧ flatV x = true ∧ xs.all flatV = true ∧ Q (.bl (if neg then !inV x xs else inV x xs)) H
theorem op_in_seq : OpR X (compareOp .In) (rIn X.K false) := by
 intro pins s σ H x y v u Q I rx ry h
 obtain ⟨p, xs, rfl, hq, fx, fs, q⟩ := h
 cases ry
 rcases hq with hq | hq
 · obtain ⟨its, r, pl, hz⟩ := I.list hq
   refine SeqAt.in_listAt (eqU x) pl.isList (fun w hw => mem_eqAt rx fx r fs w (by simpa using hw)) ⟨.bl _, H, I, rfl, ?_⟩
   rw [show its.toArray.any (eqU x) = its.any (eqU x) by simp, any_eqU r fs]
   exact q
 · obtain ⟨its, r, pl, hz⟩ := I.tuple hq
   refine SeqAt.in_tupleAt (eqU x) pl (fun w hw => mem_eqAt rx fx r fs w (by simpa using hw)) ⟨.bl _, H, I, rfl, ?_⟩
   rw [show its.toArray.any (eqU x) = its.any (eqU x) by simp, any_eqU r fs]
   exact q
theorem op_notIn_seq : OpR X (compareOp .NotIn) (rIn X.K true) := by
 intro pins s σ H x y v u Q I rx ry h
 obtain ⟨p, xs, rfl, hq, fx, fs, q⟩ := h
 cases ry
 rcases hq with hq | hq
 · obtain ⟨its, r, pl, hz⟩ := I.list hq
   refine SeqAt.notIn_listAt (eqU x) pl.isList (fun w hw => mem_eqAt rx fx r fs w (by simpa using hw)) ⟨.bl _, H, I, rfl, ?_⟩
   rw [show its.toArray.any (eqU x) = its.any (eqU x) by simp, any_eqU r fs]
   exact q
 · obtain ⟨its, r, pl, hz⟩ := I.tuple hq
   refine SeqAt.notIn_tupleAt (eqU x) pl (fun w hw => mem_eqAt rx fx r fs w (by simpa using hw)) ⟨.bl _, H, I, rfl, ?_⟩
   rw [show its.toArray.any (eqU x) = its.any (eqU x) by simp, any_eqU r fs]
   exact q
theorem call_len_seq : CallR X (.builtin "len") (fun xs H Q => ∃ p ys, xs = [.ref p] ∧ (SqL X.K H p ys ∨ SqT X.K H p ys) ∧ Q (.int ys.length) H) := by
 intro pins s σ H xs us Q I r h
 obtain ⟨p, ys, rfl, hq, q⟩ := h
 obtain ⟨u, rfl, rx⟩ := vals1 r
 cases rx
 have hn := line63
 rcases hq with hq | hq
 · obtain ⟨its, r', pl, hz⟩ := I.list hq
   have hlen := r'.length
   exact Calls.call_len_list pl.isList (by simp only [List.size_toArray] <;> omega) ⟨.int ys.length, H, I.tok _, ⟨s.toks + 1, by rw [List.size_toArray, hlen]⟩, q⟩
 · obtain ⟨its, r', pl, hz⟩ := I.tuple hq
   have hlen := r'.length
   exact len_tuple pl (by simp only [List.size_toArray] <;> omega) ⟨.int ys.length, H, I.tok _, ⟨s.toks + 1, by rw [List.size_toArray, hlen]⟩, q⟩
theorem CallR.or {f : Value} {r r' : List V → Hp → VK → Prop} (h : CallR X f r) (h' : CallR X f r') : CallR X f (fun xs H Q => r xs H Q ∨ r' xs H Q) := by
 intro pins s σ H xs us Q I rs q
 rcases q with q | q
 · exact h pins s σ H xs us Q I rs q
 · exact h' pins s σ H xs us Q I rs q
theorem call_list_of : CallR X (.type "list") (fun xs H Q => ∃ p ys, xs = [.ref p] ∧ (SqL X.K H p ys ∨ SqT X.K H p ys) ∧ ∀ l, H l = none → Q (.ref l) (upd H l (.lst ys))) := by
 intro pins s σ H xs us Q I r h
 obtain ⟨p, ys, rfl, hq, q⟩ := h
 obtain ⟨u, rfl, rx⟩ := vals1 r
 cases rx
 have fin : ∀ (its : List Value), Vals ys its → ys.length ≤ sizeLine → ∀ (h' : Heap) (c' : Nat), (∀ b o', s.heap.get? b = some o' → h'.get? b = some o') →
     h'.get? s.heap.objs.size = some { cls := .type "list", dict := none, data := .seq its.toArray c', slots := #[] } → EP X pins σ Q (.ref s.heap.objs.size) { s with heap := h' } := fun its r' hz h' c' kp e =>
   ⟨.ref s.heap.objs.size, _, I.laid (t' := s.toks) kp (Nat.le_refl _) (show ObjOk X.prog X.w _ h' _ (.lst ys) from ⟨hz, its, c', r', e⟩), rfl, q _ (I.hok.fresh (Nat.le_refl _))⟩
 rcases hq with hq | hq
 · obtain ⟨its, r', pl, hz⟩ := I.list hq
   have hlen := r'.length
   obtain ⟨o, ho, hc, n, hd⟩ := pl.isList
   exact call_list_seq p (.inl rfl) ho hc hd (fun h' c' kp e => fin its r' hz h' c' kp e) (by simp only [List.size_toArray] <;> omega)
 · obtain ⟨its, r', pl, hz⟩ := I.tuple hq
   have hlen := r'.length
   obtain ⟨o, ho, hc, n, hd⟩ := pl
   exact call_list_seq p (.inr rfl) ho hc hd (fun h' c' kp e => fin its r' hz h' c' kp e) (by simp only [List.size_toArray] <;> omega)
def tyV (K : PySem.W.Frag) (T : String) (x : V) (H : Hp) : Prop := match x with
 | .str _ => T = "str"
 | .int _ => T = "int"
 | .ref p => (T = "list" ∧ ∃ xs, SqL K H p xs) ∨ (T = "tuple" ∧ ∃ o, K.lookup p = some o ∧ o.cls = .type "tuple" ∧ o.dict = none) ∨
     (T = "dict" ∧ ((∃ kvs, H p = some (.dK kvs)) ∨ ∃ kvs, H p = some (.dT kvs))) ∨ (T = "set" ∧ ∃ S n, H p = some (.set S n))
 | _ => False
theorem tyV_is {pins : List (Addr × Obj)} {σ : St} {H : Hp} {s : Shared} {T : String} {x : V} {v : Value} (I : Inv X pins σ H s) (r : RelV x v) (ty : tyV X.K T x H) :
   s.TypeIs v T ∧ ∀ a, v = .ref a → ∃ ob, s.heap.get? a = some ob ∧ ob.dict = none := by
 cases x with
 | str z =>
   obtain ⟨t, rfl⟩ := r
   cases (show T = "str" from ty)
   exact ⟨typeIs_str s z t, fun _ e => nomatch e⟩
 | int i =>
   obtain ⟨t, rfl⟩ := r
   cases (show T = "int" from ty)
   exact ⟨typeIs_int s i t, fun _ e => nomatch e⟩
 | ref p =>
   cases r
   rcases ty with ⟨rfl, xs, hq⟩ | ⟨rfl, o, hk, hc, hd⟩ | ⟨rfl, hk⟩ | ⟨rfl, S, n, hk⟩
   · obtain ⟨its, _, pl, _⟩ := I.list hq
     refine ⟨pl.isList.typeIs, fun a e => ?_⟩
     cases e
     obtain ⟨o, n, e, c, hd, _⟩ := pl
     exact ⟨o, e, hd⟩
   · refine ⟨⟨o, I.kIn p o hk, hc⟩, fun a e => ?_⟩
     cases e
     exact ⟨o, I.kIn _ o hk, hd⟩
   · have z : ∃ o, s.heap.get? p = some o ∧ o.ExactDict := by
       rcases hk with ⟨kvs, hk⟩ | ⟨kvs, hk⟩
       · obtain ⟨_, _, _, _, o, _, _, e, ex, _⟩ := I.hok p _ hk
         exact ⟨o, e, ex⟩
       · obtain ⟨_, _, _, _, o, _, _, e, ex, _⟩ := I.hok p _ hk
         exact ⟨o, e, ex⟩
     obtain ⟨o, e, ex⟩ := z
     refine ⟨⟨o, e, ex.1⟩, fun a e2 => ?_⟩
     cases e2
     exact ⟨o, e, ex.2.1⟩
   · obtain ⟨o, _, _, _, e, ex, _⟩ := I.hok p _ hk
     refine ⟨⟨o, e, ex.1⟩, fun a e2 => ?_⟩
     cases e2
     exact ⟨o, e, ex.2.1⟩
 | _ => exact False.elim ty
def tBM0 (K : PySem.W.Frag) (T : String) (r : V → List V → Hp → VK → Prop) (to : TE) : TE := fun σ H Q => to σ H fun x H1 => tyV K T x H1 ∧ r x [] H1 Q
def tBM (K : PySem.W.Frag) (T : String) (r : V → List V → Hp → VK → Prop) (to : TE) (t : TA) : TE := fun σ H Q => to σ H fun x H1 => tyV K T x H1 ∧ t σ H1 fun xs H2 => r x xs H2 Q
variable {o e : Expr} {es : List Expr} {to : TE} {t : TA} {name : Str} {apos cpos : Pos} {T id : String} {r : V → List V → Hp → VK → Prop}
theorem pe_bm0 (pa : PlainAttrs T) (slot : Slot T name id) (hty : typeOf (.builtin id) = pure (.type "method_descriptor")) (hm : MtR X id r) (ho : PE X o to)
   (hbase : attributeBase o name X.env (eval o X.env) = eval o X.env := by rfl) (hline : (apos.endLine == cpos.line) = true := by rfl) : PE X (.Call (.Attribute o name apos) [] [] cpos) (tBM0 X.K T r to) := by
 intro pins s σ H Q I h
 refine wpAny_Call_method0_late hbase hline (thn (ho pins s σ H _ I h) fun v s1 ⟨x, H1, I1, r1, ty, q1⟩ => ?_)
 obtain ⟨h1, h2⟩ := tyV_is I1 r1 ty
 exact ⟨T, id, pa, slot, hty, h1, h2, Calls.callWith_builtin rfl (PySem.evalArgs_none (hm pins s1 σ H1 x [] v [] Q I1 r1 .nil q1))⟩
theorem pe_bm (pa : PlainAttrs T) (slot : Slot T name id) (hty : typeOf (.builtin id) = pure (.type "method_descriptor")) (hm : MtR X id r) (ho : PE X o to) (ha : PA X (e :: es) t)
   (hbase : attributeBase o name X.env (eval o X.env) = eval o X.env := by rfl)
   (hfew : ((backTo cpos (starEach (e :: es) X.env)).all (fun x => !x.1) && (backToKw cpos (keywordEach [] X.env)).all (fun x => x.1.isSome)
     && decide ((e :: es).length + ([] : List Keyword).length + (if ([] : List Keyword).isEmpty then 0 else 1) < 30)) = true := by rfl)
   (hline : (apos.endLine == cpos.line) = true := by rfl) (hs : starEach (e :: es) X.env = (false, eval e X.env) :: starEach es X.env := by rfl) (hplain : (backTo cpos (starEach es X.env)).any (·.1) = false := by rfl) :
   PE X (.Call (.Attribute o name apos) (e :: es) [] cpos) (tBM X.K T r to t) := by
 intro pins s σ H Q I h
 refine wpAny_Call_method_late hbase hfew hline rfl (thn (ho pins s σ H _ I h) fun v s1 ⟨x, H1, I1, r1, ty, q1⟩ => ?_)
 obtain ⟨h1, h2⟩ := tyV_is I1 r1 ty
 refine ⟨T, id, pa, slot, hty, h1, h2, ?_⟩
 have hA := ha cpos pins s1 σ H1 _ I1 q1
 rw [hs] at hA ⊢
 refine Calls.callWith_builtin (by show (false || (backTo cpos (starEach es X.env)).any (·.1)) = false; rw [hplain] <;> rfl) (Calls.evalArgs_plain ?_)
 exact thn hA fun us s2 ⟨vs, H2, I2, r2, q2⟩ => hm pins s2 σ H2 x vs v us Q I2 r1 r2 q2
/- xs.append(e), list.index on a module's tuple .. are MtR facts of 06m -/
end
end L2
namespace L2
open PySem PySem.Spec PyProof.Rows
def MtM (X : Cx) (id : String) (r : V → List V → Hp → VK → Prop) : Prop :=
 ∀ (pins : List (Addr × Obj)) (s : Shared) (σ : St) (H : Hp) (x : V) (xs : List V) (v : Value) (us : List Value) (Q : VK), Inv X pins σ H s → RelV x v → Vals xs us → r x xs H Q →
   wpAny (model X.prog X.w) X.A (call (.builtin id) (v :: us)) (EP X pins σ Q) X.xe s
theorem Vals.one : ∀ {x : V} {us : List Value}, Vals [x] us → ∃ u, us = [u] ∧ RelV x u
 | _, _, .cons r .nil => ⟨_, rfl, r⟩
theorem Vals.two : ∀ {x y : V} {us : List Value}, Vals [x, y] us → ∃ u v, us = [u, v] ∧ RelV x u ∧ RelV y v
 | _, _, _, .cons r (.cons q .nil) => ⟨_, _, rfl, r, q⟩
theorem Vals.zero : ∀ {us : List Value}, Vals [] us → us = []
 | _, .nil => rfl
theorem Vals.dropLast {xs : List V} {us : List Value} (h : Vals xs us) : Vals xs.dropLast us.dropLast := by
 induction h with
 | nil => exact .nil
 | cons r t ih =>
   cases t with
   | nil => exact .nil
   | cons q t' => exact .cons r ih
section
variable {X : Cx} {pins : List (Addr × Obj)} {σ : St} {H : Hp} {s : Shared} {l b : Addr} {xs ys zs : List V}
theorem Inv.lset {its its' : List Value} {n : Nat} {f : Array Value → Array Value} {t' : Nat} (I : Inv X pins σ H s) (hH : H l = some (.lst xs))
   (e : s.heap.get? l = some { cls := .type "list", data := .seq its.toArray n }) (hf : f its.toArray = its'.toArray) (hv : Vals ys its') (hz : ys.length ≤ sizeLine) :
   Inv X pins σ (upd H l (.lst ys)) { s with heap := s.heap.update l (Obj.mapSeq f), toks := t' } := by
 have q := PySem.IsL.update e f
 rw [hf] at q
 refine I.write (x := l) (e := l) (by rw [hH]; exact trivial) (.inl rfl) (fun b' u hb hu => (Heap.get?_update_other s.heap (Obj.mapSeq f) (Ne.symm hb)).trans hu) ⟨_, q⟩ ?_
 exact ⟨hz, its', _, hv, q⟩
theorem Inv.lnew {its : List Value} {t' : Nat} (I : Inv X pins σ H s) (hv : Vals ys its) (hz : ys.length ≤ sizeLine) :
   Inv X pins σ (upd H s.heap.objs.size (.lst ys)) { s with heap := s.heap.push { cls := .type "list", data := .seq its.toArray }, toks := t' } :=
 I.laid (fun _ _ q => Heap.get?_push_of_some _ q) (Nat.le_refl _) ⟨hz, its, 0, hv, Heap.get?_push_size _ rfl⟩
theorem Inv.fresh (I : Inv X pins σ H s) : H s.heap.objs.size = none := I.hok.fresh (Nat.le_refl _)
theorem Inv.lstM (I : Inv X pins σ H s) (hH : H l = some (.lst xs)) : xs.length ≤ sizeLine ∧ ∃ (its : List Value) (n : Nat), Vals xs its ∧ xs.length = its.length ∧ s.heap.get? l = some { cls := .type "list", data := .seq its.toArray n } := by
 obtain ⟨z, its, n, r, e⟩ := I.hok l _ hH
 exact ⟨z, its, n, r, r.length, e⟩
end
section
variable {X : Cx}
def rAppend : V → List V → Hp → VK → Prop := fun x vs H Q => ∃ l xs y, x = .ref l ∧ vs = [y] ∧ H l = some (.lst xs) ∧ xs.length < sizeLine ∧ Q .non (upd H l (.lst (xs ++ [y])))
theorem mt_append : MtM X "list.append" rAppend := by
 intro pins s σ H x vs v us Q I rx rv h
 obtain ⟨l, xs, y, rfl, rfl, hH, hz, q⟩ := h
 cases rx
 obtain ⟨u, rfl, ru⟩ := rv.one
 obtain ⟨z, its, n, r, hl, e⟩ := I.lstM hH
 refine call_meets F.slot_list_append ⟨_, e, rfl⟩ F.entry_list_append (F.args_list_append_2 _ _) (PySem.list_append l its.toArray n u (by rw [List.size_toArray]; omega)) ⟨e, ?_⟩
 refine ⟨.non, _, I.lset (its' := its ++ [u]) hH e (by simp) (r.append (.cons ru .nil)) ?_, rfl, q⟩
 rw [List.length_append, List.length_singleton]
 omega
def rCat : R2 := fun x y H Q => ∃ l b xs zs, x = .ref l ∧ y = .ref b ∧ H l = some (.lst xs) ∧ H b = some (.lst zs) ∧ xs.length + zs.length ≤ sizeLine ∧ ∀ p, H p = none → Q (.ref p) (upd H p (.lst (xs ++ zs)))
theorem op_cat : OpR X (binaryOp .Add) rCat := by
 intro pins s σ H x y v u Q I rx ry h
 obtain ⟨l, b, xs, zs, rfl, rfl, hH, hB, hz, q⟩ := h
 cases rx
 cases ry
 obtain ⟨z, its, n, r, hl, e⟩ := I.lstM hH
 obtain ⟨z2, its2, n2, r2, hl2, e2⟩ := I.lstM hB
 refine PySem.P.add_list e e2 ?_ (by rw [List.size_toArray, List.size_toArray]; omega)
 have ea : its.toArray ++ its2.toArray = (its ++ its2).toArray := by simp
 rw [ea]
 exact ⟨.ref _, _, I.lnew (t' := s.toks) (r.append r2) (by rw [List.length_append]; omega), rfl, q _ I.fresh⟩
end
section
variable {prog : Program} {w : World} {A : Around} {E : Value → Shared → Prop} {s : Shared}
end
section
variable {X : Cx}
end
end L2
namespace L2
open PySem PySem.Spec PyProof.Rows
section
variable {κ : Type} [DecidableEq κ]
def valV (kvs : List (κ × V)) (k : κ) : Option V := (kvs.find? fun kv => decide (kv.1 = k)).map (·.2)
def putK (kvs : List (κ × V)) (k : κ) (v : V) : List (κ × V) :=
 if (kvs.any fun kv => decide (kv.1 = k)) = true then kvs.map (fun kv => if kv.1 = k then (kv.1, v) else kv) else kvs ++ [(k, v)]
def dropK (kvs : List (κ × V)) (k : κ) : List (κ × V) := kvs.filter fun kv => decide (kv.1 ≠ k)
theorem valV_pos {p : κ × V} {r : List (κ × V)} {k : κ} (e : p.1 = k) : valV (p :: r) k = some p.2 := by simp [valV, List.find?_cons, e]
theorem valV_neg {p : κ × V} {r : List (κ × V)} {k : κ} (e : ¬ p.1 = k) : valV (p :: r) k = valV r k := by simp [valV, List.find?_cons, e]
theorem valV_any (k : κ) : ∀ kvs : List (κ × V), (kvs.any fun kv => decide (kv.1 = k)) = (valV kvs k).isSome
 | [] => rfl
 | p :: r => by
   rw [List.any_cons]
   by_cases e : p.1 = k
   · simp only [valV_pos e, decide_eq_true e, Bool.true_or, Option.isSome_some]
   · rw [valV_neg e, decide_eq_false e, Bool.false_or]; exact valV_any k r
theorem valV_map (k j : κ) (y : V) : ∀ kvs : List (κ × V), valV (kvs.map fun kv => if kv.1 = k then (kv.1, y) else kv) j = (valV kvs j).map fun x => if j = k then y else x
 | [] => rfl
 | p :: r => by
   have ih := valV_map k j y r
   rw [List.map_cons]
   by_cases h : p.1 = k
   · rw [if_pos h]
     by_cases e : p.1 = j
     · rw [valV_pos (p := (p.1, y)) e, valV_pos e, Option.map_some, if_pos (e.symm.trans h)]
     · rw [valV_neg (p := (p.1, y)) e, valV_neg e, ih]
   · rw [if_neg h]
     by_cases e : p.1 = j
     · rw [valV_pos (p := p) e, valV_pos e, Option.map_some, if_neg (fun z => h (e.trans z))]
     · rw [valV_neg (p := p) e, valV_neg e, ih]
theorem valV_snoc (k j : κ) (y : V) : ∀ kvs : List (κ × V), valV kvs k = none → valV (kvs ++ [(k, y)]) j = if j = k then some y else valV kvs j
 | [], _ => by
   by_cases e : k = j
   · rw [if_pos e.symm]; exact valV_pos (p := (k, y)) e
   · rw [if_neg (fun z => e z.symm)]; exact valV_neg (p := (k, y)) e
 | p :: r, hn => by
   rw [List.cons_append]
   have hk : ¬ p.1 = k := fun z => by rw [valV_pos z] at hn; cases hn
   rw [valV_neg hk] at hn
   have ih := valV_snoc k j y r hn
   by_cases e : p.1 = j
   · rw [valV_pos e, valV_pos e, if_neg (fun z => hk (e.trans z))]
   · rw [valV_neg e, valV_neg e, ih]
theorem valV_put (kvs : List (κ × V)) (k j : κ) (y : V) : valV (putK kvs k y) j = if j = k then some y else valV kvs j := by
 unfold putK
 by_cases a : (kvs.any fun kv => decide (kv.1 = k)) = true
 · rw [if_pos a, valV_map]
   rw [valV_any] at a
   by_cases e : j = k
   · obtain ⟨x, hx⟩ := Option.isSome_iff_exists.mp a
     rw [if_pos e, e, hx, Option.map_some, if_pos rfl]
   · rw [if_neg e]
     cases valV kvs j with
     | none => rfl
     | some x => rw [Option.map_some, if_neg e]
 · rw [if_neg a]
   refine valV_snoc k j y kvs ?_
   rw [valV_any] at a
   cases q : valV kvs k with
   | none => rfl
   | some x => rw [q] at a; exact (a rfl).elim
theorem length_putK (kvs : List (κ × V)) (k : κ) (v : V) : (putK kvs k v).length ≤ kvs.length + 1 := by
 unfold putK
 split
 · rw [List.length_map]; omega
 · rw [List.length_append, List.length_cons, List.length_nil]; omega
theorem putK_new {kvs : List (κ × V)} {k : κ} (v : V) (h : valV kvs k = none) : putK kvs k v = kvs ++ [(k, v)] := by
 unfold putK
 rw [valV_any, h]
 exact if_neg (by decide)
theorem RelO.isSome_eq {o : Option V} {u : Option Value} (r : RelO o u) : o.isSome = u.isSome := by
 cases o with
 | none => cases u with
   | none => rfl
   | some _ => exact (show False from r).elim
 | some _ => cases u with
   | none => exact (show False from r).elim
   | some _ => rfl
theorem RelO.getD {o : Option V} {u : Option Value} {d : V} {d' : Value} (r : RelO o u) (rd : RelV d d') : RelV (o.getD d) (u.getD d') := by
 cases o with
 | none => cases u with
   | none => exact rd
   | some _ => exact (show False from r).elim
 | some _ => cases u with
   | none => exact (show False from r).elim
   | some _ => exact r
theorem KV.val {kvs : List (κ × V)} {vs : List (κ × Value)} (r : KV kvs vs) (k : κ) : RelO (valV kvs k) (valueAt vs k) := by
 unfold KV at r
 induction r with
 | nil => exact True.intro
 | @cons p q ps qs h t ih =>
   obtain ⟨h1, h2⟩ := h
   by_cases e : p.1 = k
   · have e' : q.1 = k := h1.symm.trans e
     have b : valueAt (q :: qs) k = some q.2 := by simp [valueAt, List.find?_cons, e']
     rw [valV_pos e, b]; exact h2
   · have e' : ¬ q.1 = k := fun z => e (h1.trans z)
     have b : valueAt (q :: qs) k = valueAt qs k := by simp [valueAt, List.find?_cons, e']
     rw [valV_neg e, b]; exact ih
theorem KV.any {kvs : List (κ × V)} {vs : List (κ × Value)} (r : KV kvs vs) (k : κ) : (kvs.any fun kv => decide (kv.1 = k)) = vs.any fun kv => decide (kv.1 = k) := by
 unfold KV at r
 induction r with
 | nil => rfl
 | cons h t ih => rw [List.any_cons, List.any_cons, ih, h.1]
theorem KV.repl {kvs : List (κ × V)} {vs : List (κ × Value)} (r : KV kvs vs) (k : κ) {y : V} {u : Value} (ry : RelV y u) :
   KV (kvs.map fun kv => if kv.1 = k then (kv.1, y) else kv) (vs.map fun kv => if kv.1 = k then (kv.1, u) else kv) := by
 unfold KV at r ⊢
 induction r with
 | nil => exact .nil
 | @cons p q ps qs h t ih =>
   rw [List.map_cons, List.map_cons]
   refine .cons ?_ ih
   obtain ⟨h1, h2⟩ := h
   by_cases e : p.1 = k
   · rw [if_pos e, if_pos (h1.symm.trans e)]; exact ⟨h1, ry⟩
   · rw [if_neg e, if_neg (fun z => e (h1.trans z))]; exact ⟨h1, h2⟩
theorem KV.put {kvs : List (κ × V)} {vs : List (κ × Value)} (r : KV kvs vs) (k : κ) {y : V} {u : Value} (ry : RelV y u) : KV (putK kvs k y) (stored vs k u) := by
 unfold putK stored
 rw [r.any k]
 by_cases e : (vs.any fun kv => decide (kv.1 = k)) = true
 · rw [if_pos e, if_pos e]; exact r.repl k ry
 · rw [if_neg e, if_neg e]; exact Paired.snoc r ⟨rfl, ry⟩
theorem KV.drop {kvs : List (κ × V)} {vs : List (κ × Value)} (r : KV kvs vs) (k : κ) : KV (dropK kvs k) (without vs k) := by
 unfold KV at r ⊢
 unfold dropK without
 induction r with
 | nil => exact .nil
 | @cons p q ps qs h t ih =>
   obtain ⟨h1, h2⟩ := h
   rw [List.filter_cons, List.filter_cons]
   by_cases e : p.1 = k
   · have a : ¬ decide (p.1 ≠ k) = true := by simp [e]
     have b : ¬ decide (q.1 ≠ k) = true := by simp [h1.symm.trans e]
     rw [if_neg a, if_neg b]; exact ih
   · have e' : ¬ q.1 = k := fun z => e (h1.trans z)
     have a : decide (p.1 ≠ k) = true := by simp [e]
     have b : decide (q.1 ≠ k) = true := by simp [e']
     rw [if_pos a, if_pos b]; exact .cons ⟨h1, h2⟩ ih
theorem KV.keys {kvs : List (κ × V)} {vs : List (κ × Value)} (r : KV kvs vs) : kvs.map (·.1) = vs.map (·.1) := by
 unfold KV at r
 induction r with
 | nil => rfl
 | cons h t ih => rw [List.map_cons, List.map_cons, ih, h.1]
theorem KV.length {kvs : List (κ × V)} {vs : List (κ × Value)} (r : KV kvs vs) : kvs.length = vs.length := Paired.length r
end
theorem kV_is {P : Program} {w : World} {k : Key} {u : Value} (r : RelV (kV k) u) : (mixKind P w).is k u = true := by
 cases k with
 | inl i => obtain ⟨t, e⟩ := (show ∃ t, u = Value.int i t from r); subst e; exact mixKind_int P w i t
 | inr x => obtain ⟨t, e⟩ := (show ∃ t, u = Value.str x t from r); subst e; exact mixKind_str P w x t
theorem items_are {P : Program} {w : World} : ∀ {ks : List Key} {us : List Value}, Vals (ks.map kV) us → ItemsAre (mixKind P w) ks us
 | [], _, r => by rw [List.map_nil] at r; cases r; exact .nil
 | k :: ks, _, r => by
   rw [List.map_cons] at r
   cases r with
   | cons h t => exact .cons (kV_is h) (items_are t)
abbrev KT (H : Hp) : List (List Key × V) → List (List Key × Addr × Value) → Prop := Paired fun p q => p.1 = q.1 ∧ H q.2.1 = some (.tup (p.1.map kV)) ∧ RelV p.2 q.2.2
theorem KT.val {H : Hp} {kvs : List (List Key × V)} {xs : List (List Key × Addr × Value)} (r : KT H kvs xs) (k : List Key) : RelO (valV kvs k) ((atKey xs k).map (·.2)) := by
 induction r with
 | nil => exact True.intro
 | @cons p q ps qs h t ih =>
   obtain ⟨h1, _, h2⟩ := h
   by_cases e : p.1 = k
   · have e' : q.1 = k := h1.symm.trans e
     have b : atKey (q :: qs) k = some q.2 := by simp [atKey, List.find?_cons, e']
     rw [valV_pos e, b]; exact h2
   · have e' : ¬ q.1 = k := fun z => e (h1.trans z)
     have b : atKey (q :: qs) k = atKey qs k := by simp [atKey, List.find?_cons, e']
     rw [valV_neg e, b]; exact ih
theorem KT.repl {H : Hp} {kvs : List (List Key × V)} {xs : List (List Key × Addr × Value)} (r : KT H kvs xs) (k : List Key) {y : V} {u : Value} (ry : RelV y u) :
   KT H (kvs.map fun kv => if kv.1 = k then (kv.1, y) else kv) (xs.map (putAt k u)) := by
 induction r with
 | nil => exact .nil
 | @cons p q ps qs h t ih =>
   rw [List.map_cons, List.map_cons]
   refine .cons ?_ ih
   obtain ⟨h1, h2, h3⟩ := h
   unfold putAt
   by_cases e : p.1 = k
   · rw [if_pos e, if_pos (h1.symm.trans e)]; exact ⟨h1, h2, ry⟩
   · rw [if_neg e, if_neg (fun z => e (h1.trans z))]; exact ⟨h1, h2, h3⟩
theorem KT.put {H : Hp} {kvs : List (List Key × V)} {xs : List (List Key × Addr × Value)} (r : KT H kvs xs) (k : List Key) {b : Addr} {y : V} {u : Value} (hb : H b = some (.tup (k.map kV))) (ry : RelV y u) :
   KT H (putK kvs k y) (storedH xs k b u) := by
 have e : (kvs.any fun kv => decide (kv.1 = k)) = (atKey xs k).isSome := by
   rw [valV_any, (r.val k).isSome_eq, Option.isSome_map]
 unfold putK storedH
 rw [e]
 by_cases q : (atKey xs k).isSome = true
 · rw [if_pos q, if_pos q]; exact r.repl k ry
 · rw [if_neg q, if_neg q]; exact Paired.snoc r ⟨rfl, hb, ry⟩
theorem KT.keeps {H H' : Hp} {kvs : List (List Key × V)} {xs : List (List Key × Addr × Value)} (r : KT H kvs xs) (ht : ∀ b ys, H b = some (.tup ys) → H' b = some (.tup ys)) : KT H' kvs xs :=
 Paired.mapP r fun _ _ z => ⟨z.1, ht _ _ z.2.1, z.2.2⟩
section
variable {P : Program} {w : World} {H : Hp} {h : Heap} {a : Addr}
theorem rd_of {u : HO} (ok : HOk P w H h) (e : Rd H a u) : ObjOk P w H h a u := e.ok ok
theorem dk_rd {kvs : List (Key × V)} (ok : HOk P w H h) (e : Rd H a (.dK kvs)) : kvs.length ≤ sizeLine ∧ (a == sysModules) = false ∧ ∃ vs, KV kvs vs ∧ h.DictOf (mixKind P w) a vs :=
 show ObjOk P w H h a (.dK kvs) from rd_of ok e
theorem dk_of {kvs : List (Key × V)} (ok : HOk P w H h) (e : H a = some (.dK kvs)) : kvs.length ≤ sizeLine ∧ (a == sysModules) = false ∧ ∃ vs, KV kvs vs ∧ h.DictOf (mixKind P w) a vs := dk_rd ok (.inl e)
theorem key_of {ks : List Key} (ok : HOk P w H h) (e : H a = some (.tup (ks.map kV))) : (tupleKind (mixKind P w)).is h ks a := by
 obtain ⟨_, its, r, o, h1, h2, n, h3⟩ := (show ObjOk P w H h a (.tup (ks.map kV)) from ok a _ e)
 exact ⟨o, its.toArray, n, h1, h2, h3, by simpa using items_are r⟩
theorem dt_rd {kvs : List (List Key × V)} (ok : HOk P w H h) (e : Rd H a (.dT kvs)) : kvs.length ≤ sizeLine ∧ (a == sysModules) = false ∧
   ∃ xs, KT H kvs xs ∧ h.DictOfH (tupleKind (mixKind P w)) a xs := by
 obtain ⟨z, y, xs, r, o, es, ep, h1, h2, h3, h4, h5⟩ := (show ObjOk P w H h a (.dT kvs) from rd_of ok e)
 refine ⟨z, y, xs, r, o, es, ep, h1, h2, h3, h4, fun x hx => ?_, h5⟩
 have all : ∀ {l : List (List Key × V)} {m : List (List Key × Addr × Value)}, KT H l m → ∀ x ∈ m, (tupleKind (mixKind P w)).is h x.1 x.2.1 := by
   intro l m q
   induction q with
   | nil => intro x hx; exact nomatch hx
   | @cons p q ps qs hq t ih =>
     intro x hx
     rcases List.mem_cons.mp hx with e | hx
     · subst e
       exact key_of ok (by rw [← hq.1]; exact hq.2.1)
     · exact ih x hx
 exact all r x hx
theorem dt_of {kvs : List (List Key × V)} (ok : HOk P w H h) (e : H a = some (.dT kvs)) : kvs.length ≤ sizeLine ∧ (a == sysModules) = false ∧
   ∃ xs, KT H kvs xs ∧ h.DictOfH (tupleKind (mixKind P w)) a xs := dt_rd ok (.inl e)
end
def DGet (H : Hp) (a : Addr) (y : V) (r : Option V) : Prop :=
 (∃ kvs k, Rd H a (.dK kvs) ∧ y = kV k ∧ r = valV kvs k) ∨ ∃ kvs k b, Rd H a (.dT kvs) ∧ y = .ref b ∧ H b = some (.tup (k.map kV)) ∧ r = valV kvs k
def DPut (H : Hp) (a : Addr) (y v : V) (H' : Hp) : Prop :=
 (∃ kvs k, H a = some (.dK kvs) ∧ y = kV k ∧ kvs.length < sizeLine ∧ H' = upd H a (.dK (putK kvs k v))) ∨
 ∃ kvs k b, H a = some (.dT kvs) ∧ y = .ref b ∧ H b = some (.tup (k.map kV)) ∧ kvs.length < sizeLine ∧ H' = upd H a (.dT (putK kvs k v))
theorem DGet.k {H : Hp} {a : Addr} {kvs : List (Key × V)} {k : Key} (e : H a = some (.dK kvs)) : DGet H a (kV k) (valV kvs k) := .inl ⟨kvs, k, .inl e, rfl, rfl⟩
theorem DGet.t {H : Hp} {a b : Addr} {kvs : List (List Key × V)} {k : List Key} (e : H a = some (.dT kvs)) (eb : H b = some (.tup (k.map kV))) : DGet H a (.ref b) (valV kvs k) := .inr ⟨kvs, k, b, .inl e, rfl, eb, rfl⟩
theorem DPut.k {H : Hp} {a : Addr} {kvs : List (Key × V)} {k : Key} {v : V} (e : H a = some (.dK kvs)) (hl : kvs.length < sizeLine) : DPut H a (kV k) v (upd H a (.dK (putK kvs k v))) := .inl ⟨kvs, k, e, rfl, hl, rfl⟩
theorem DPut.t {H : Hp} {a b : Addr} {kvs : List (List Key × V)} {k : List Key} {v : V} (e : H a = some (.dT kvs)) (eb : H b = some (.tup (k.map kV))) (hl : kvs.length < sizeLine) :
   DPut H a (.ref b) v (upd H a (.dT (putK kvs k v))) := .inr ⟨kvs, k, b, e, rfl, eb, hl, rfl⟩
section
variable {X : Cx} {pins : List (Addr × Obj)} {σ : St} {H : Hp} {s : Shared} {a : Addr} {y v : V} {u r : Value} {o : Option V} {A : Around} {E : Value → Shared → Prop}
theorem Inv.big (I : Inv X pins σ H s) : sysModules < s.heap.objs.size := by
 have h : mainGlobals < s.heap.objs.size := (I.mod.glob.keeps I.bk).lt
 exact Nat.lt_trans (by decide) h
theorem d_getItem {Q : Value → Shared → Prop} (hu : A.units + 1 < cLine) (I : Inv X pins σ H s) (g : DGet H a y (some v)) (ry : RelV y u) (h : ∀ w' s', Inv X pins σ H s' → RelV v w' → Q w' s') :
   wpAny (model X.prog X.w) A (getItem (.ref a) u) Q E s := by
 rcases g with ⟨kvs, k, e, ey, l⟩ | ⟨kvs, k, b, e, ey, eb, l⟩
 · subst ey
   obtain ⟨z, hd, vs, rel, dd⟩ := dk_rd I.hok e
   obtain ⟨w', hw, rw'⟩ := RelO.some_of (v := v) (o := valueAt vs k) (by rw [l]; exact rel.val k)
   exact wpAny_getItem_of (kV_is ry) dd.mapOf hw (h w' _ (I.tok _) rw')
 · subst ey
   cases (show u = Value.ref b from ry)
   obtain ⟨z, hd, xs, rel, dd⟩ := dt_rd I.hok e
   obtain ⟨w', hw, rw'⟩ := RelO.some_of (v := v) (o := (atKey xs k).map (·.2)) (by rw [l]; exact rel.val k)
   obtain ⟨p, hp, hp2⟩ := Option.map_eq_some_iff.mp hw
   refine wpAny_getItem_heap (tupleKind_room_in1 hu) (key_of I.hok eb) dd hp ?_
   rw [hp2]
   exact h w' _ (I.tok _) rw'
theorem d_in {Q : Value → Shared → Prop} (hu : A.units + 1 < cLine) (I : Inv X pins σ H s) (g : DGet H a y o) (ry : RelV y u) (h : ∀ s', Inv X pins σ H s' → Q (.bool o.isSome) s') :
   wpAny (model X.prog X.w) A (compareOp .In u (.ref a)) Q E s := by
 rcases g with ⟨kvs, k, e, ey, l⟩ | ⟨kvs, k, b, e, ey, eb, l⟩
 · subst ey
   obtain ⟨z, hd, vs, rel, dd⟩ := dk_rd I.hok e
   refine wpAny_in_of (kV_is ry) hd dd.mapOf ?_
   rw [← (rel.val k).isSome_eq, ← l]
   exact h _ (I.tok _)
 · subst ey
   cases (show u = Value.ref b from ry)
   obtain ⟨z, hd, xs, rel, dd⟩ := dt_rd I.hok e
   refine wpAny_in_heap (tupleKind_room_in1 hu) (key_of I.hok eb) hd dd ?_
   have q := (rel.val k).isSome_eq
   rw [Option.isSome_map] at q
   rw [← q, ← l]
   exact h _ (I.tok _)
theorem d_write {h' : Heap} {t' : Nat} {ob : HO} (I : Inv X pins σ H s) (mu : Mut (H a)) (hs : Heap.SameBut a s.heap h') (he : ∃ q, h'.get? a = some q) (new : ObjOk X.prog X.w (upd H a ob) h' a ob) :
   Inv X pins σ (upd H a ob) { s with heap := h', toks := t' } :=
 I.write (x := a) (e := a) mu (.inl rfl) (fun b q hb z => (hs.2 b hb).trans z) he new
theorem dk_new {P : Program} {w : World} {H' : Hp} {h' : Heap} {kvs : List (Key × V)} {vs : List (Key × Value)} (z : kvs.length ≤ sizeLine) (hd : (a == sysModules) = false) (rel : KV kvs vs) (dd : h'.DictOf (mixKind P w) a vs) :
   ObjOk P w H' h' a (.dK kvs) := ⟨z, hd, vs, rel, dd⟩
theorem d_setItem {H' : Hp} {Q : Unit → Shared → Prop} (hu : A.units + 1 < cLine) (I : Inv X pins σ H s) (g : DPut H a y v H') (ry : RelV y u) (rv : RelV v r) (h : ∀ s', Inv X pins σ H' s' → Q () s') :
   wpAny (model X.prog X.w) A (setItem (.ref a) u r) Q E s := by
 rcases g with ⟨kvs, k, e, ey, l, eH⟩ | ⟨kvs, k, b, e, ey, eb, l, eH⟩
 · subst ey eH
   obtain ⟨z, hd, vs, rel, dd⟩ := dk_of I.hok e
   have hz : vs.length ≤ sizeLine := by rw [← rel.length]; exact z
   have hl : (putK kvs k v).length ≤ sizeLine := by have := length_putK kvs k v; omega
   refine wpAny_setItem_pairs (hsz := hz) (kV_is ry) dd fun h' dd' hs => h _ ?_
   have he : ∃ q, h'.get? a = some q := let ⟨q, _, _, hq, _⟩ := dd'; ⟨q, hq⟩
   exact d_write I (by rw [e]; exact True.intro) hs he (dk_new hl hd (rel.put k rv) dd')
 · subst ey eH
   cases (show u = Value.ref b from ry)
   obtain ⟨z, hd, xs, rel, dd⟩ := dt_of I.hok e
   have hz : xs.length ≤ sizeLine := by rw [← Paired.length rel]; exact z
   have hl : (putK kvs k v).length ≤ sizeLine := by have := length_putK kvs k v; omega
   refine wpAny_setItem_heap (hsz := hz) (tupleKind_room_in1 hu) (key_of I.hok eb) dd fun h' dd' hs => h _ ?_
   obtain ⟨q, es, ep, hq, h2, h3, h4, _, h5⟩ := dd'
   refine d_write I (by rw [e]; exact True.intro) hs ⟨q, hq⟩ ⟨hl, hd, _, (rel.put k eb rv).keeps fun c ys ec => ?_, q, es, ep, hq, h2, h3, h4, h5⟩
   rw [uqn (ne_of ec e (fun z => nomatch z))]
   exact ec
end
section
variable {X : Cx} {pins : List (Addr × Obj)} {σ : St} {H : Hp} {s : Shared} {a : Addr} {kvs : List (Key × V)} {k : Key} {u : Value} {A : Around} {E : Value → Shared → Prop}
end
def NoSl (i : Expr) : Prop := ∀ ov iv, subscripted i false ov iv = operate [ov, iv] (getItem ov iv)
theorem subD_of {prog : Program} {w : World} {A : Around} {E : Value → Shared → Prop} {s : Shared} {env : Env} {value slice : Expr} {pos : Pos} {T id : String} {Q : Value → Shared → Prop}
   (hl : typeLookup (.type T) "__getitem__" = pure (some (.builtin id))) (hs : NoSl slice)
   (h : wpAny (model prog w) A (eval value env) (fun o s₁ => wpAny (model prog w) A (eval slice env) (fun i s₂ => s₂.TypeIs o T ∧ wpAny (model prog w) A (getItem o i) Q E s₂) E s₁) E s) :
   wpAny (model prog w) A (eval (.Subscript value slice pos) env) Q E s := by
 refine Subscript_ (wpAny_mono h (fun o s₁ h₁ => wpAny_mono h₁ (fun i s₂ h₂ => ?_) fun _ _ x => x) fun _ _ x => x)
 obtain ⟨hT, h₂⟩ := h₂
 unfold subscriptTail
 refine wpAny_bind ?_
 rw [getitemInPython_of_ne hT.not_modules]
 refine wpAny_bind (wpAny_specialOf hT hl ?_)
 have fin : wpAny (model prog w) A (subscripted slice false o i) (fun r s₃ => wpAny (model prog w) A (letTemporaryGo value o r >>= fun _ => pure r) Q E s₃) E s₂ := by
   rw [hs o i]
   exact wpAny_operating (wpAny_mono h₂ (fun r s₃ h₃ => wpAny_bind (wpAny_letTemporaryGo (wpAny_pure h₃))) fun _ _ x => x)
 first
   | exact wpAny_pure (wpAny_bind fin)
   | exact wpAny_bind (wpAny_pure (wpAny_bind fin))
   | exact wpAny_bind fin
theorem dict_typeIs {X : Cx} {pins : List (Addr × Obj)} {σ : St} {H : Hp} {s : Shared} {a : Addr} {y : V} {o : Option V} (I : Inv X pins σ H s) (g : DGet H a y o) : s.TypeIs (.ref a) "dict" := by
 rcases g with ⟨kvs, k, e, _, _⟩ | ⟨kvs, k, b, e, _, _, _⟩
 · obtain ⟨_, _, vs, _, dd⟩ := dk_rd I.hok e
   exact dd.typeIs
 · obtain ⟨_, _, xs, _, dd⟩ := dt_rd I.hok e
   exact dd.typeIs
def tDGet (td ty : TE) : TE := fun σ H Q => td σ H fun x H1 => ty σ H1 fun y H2 => ∃ a v, x = .ref a ∧ DGet H2 a y (some v) ∧ Q v H2
def tDIn (ty td : TE) : TE := fun σ H Q => ty σ H fun y H1 => td σ H1 fun x H2 => ∃ a o, x = .ref a ∧ DGet H2 a y o ∧ Q (.bl o.isSome) H2
def sDPut (td ty tv : TE) : TS := fun D σ H => tv σ H fun v H1 => td σ H1 fun x H2 => ty σ H2 fun y H3 => ∃ a H4, x = .ref a ∧ DPut H3 a y v H4 ∧ D.nx σ H4
section
variable {X : Cx} {o i e value : Expr} {pos pos' tpos : Pos} {td ty tv : TE}
theorem pe_dget (hu : X.A.units + 1 < cLine) (ho : PE X o td) (hi : PE X i ty) (hs : NoSl i) : PE X (.Subscript o i pos) (tDGet td ty) := by
 intro pins s σ H Q I h
 refine subD_of PySem.F.slot_dict_getitem.lookup hs (thn (ho pins s σ H _ I h) fun u s1 ⟨x, H1, I1, rx, q1⟩ => thn (hi pins s1 σ H1 _ I1 q1) fun iv s2 ⟨y, H2, I2, ry, a, v, ex, g, q2⟩ => ?_)
 subst ex
 obtain rfl : u = Value.ref a := rx
 exact ⟨dict_typeIs I2 g, d_getItem hu I2 g ry fun w' s3 I3 rw' => ⟨v, H2, I3, rw', q2⟩⟩
theorem pc_din (hu : X.A.units + 1 < cLine) (hi : PE X i ty) (ho : PE X o td) : PC X .In i o (tDIn ty td) := by
 intro pins s σ H Q I h
 refine thn (hi pins s σ H _ I h) fun iv s1 ⟨y, H1, I1, ry, q1⟩ => thn (ho pins s1 σ H1 _ I1 q1) fun u s2 ⟨x, H2, I2, rx, a, ov, ex, g, q2⟩ => ?_
 subst ex
 obtain rfl : u = Value.ref a := rx
 exact d_in hu I2 g ry fun s3 I3 => ⟨.bl ov.isSome, H2, I3, rfl, q2⟩
theorem ps_dput (hu : X.A.units + 1 < cLine) (ho : PE X o td) (hi : PE X i ty) (hv : PE X value tv) (hs : swapsWith value (some (.Subscript o i pos')) pos.line X.env = pure false) :
   PS X (.Assign [.Subscript o i pos'] value pos) (sDPut td ty tv) := by
 intro pins s σ H D I h
 refine wpAny_Assign_Subscript (thn (hv pins s σ H _ I h) fun r s1 ⟨v, H1, I1, rv, q1⟩ => thn (ho pins s1 σ H1 _ I1 q1) fun u s2 ⟨x, H2, I2, rx, q2⟩ => thn (hi pins s2 σ H2 _ I2 q2) fun iv s3 ⟨y, H3, I3, ry, a, H4, ex, g, q3⟩ => ?_) hs
 subst ex
 obtain rfl : u = Value.ref a := rx
 exact d_setItem hu I3 g ry rv fun s4 I4 => ⟨σ, H4, I4, q3⟩
end
theorem dk_empty {P : Program} {w : World} {H : Hp} (h : Heap) (hb : sysModules < h.objs.size) : ObjOk P w H (h.push { cls := .type "dict", data := .dict #[] }) h.objs.size (.dK []) :=
 ⟨Nat.zero_le _, beq_eq_false_iff_ne.mpr (Ne.symm (Nat.ne_of_lt hb)), [], .nil, Heap.DictOf.new h⟩
theorem dt_empty {P : Program} {w : World} {H : Hp} (h : Heap) (hb : sysModules < h.objs.size) : ObjOk P w H (h.push { cls := .type "dict", data := .dict #[] }) h.objs.size (.dT []) :=
 ⟨Nat.zero_le _, beq_eq_false_iff_ne.mpr (Ne.symm (Nat.ne_of_lt hb)), [], .nil, _, #[], 0, Heap.get?_push_size _ rfl, ⟨rfl, rfl, rfl⟩, rfl, rfl, List.nodup_nil⟩
def tDNewK : TE := fun _ H Q => ∀ p, H p = none → Q (.ref p) (upd H p (.dK []))
def tDNewT : TE := fun _ H Q => ∀ p, H p = none → Q (.ref p) (upd H p (.dT []))
section
variable {X : Cx} {pos : Pos}
theorem pe_dnewK : PE X (.Dict [] [] pos) tDNewK := fun pins s σ H Q I h =>
 wpAny_Dict_empty ⟨.ref s.heap.objs.size, _, I.laid (a := s.heap.objs.size) (o := .dK []) (t' := s.toks) (fun _ _ q => Heap.get?_push_of_some _ q) (Nat.le_refl _) (dk_empty s.heap I.big), rfl, h _ (I.hok.fresh (Nat.le_refl _))⟩
theorem pe_dnewT : PE X (.Dict [] [] pos) tDNewT := fun pins s σ H Q I h =>
 wpAny_Dict_empty ⟨.ref s.heap.objs.size, _, I.laid (a := s.heap.objs.size) (o := .dT []) (t' := s.toks) (fun _ _ q => Heap.get?_push_of_some _ q) (Nat.le_refl _) (dt_empty s.heap I.big), rfl, h _ (I.hok.fresh (Nat.le_refl _))⟩
end
structure M2 (X : Cx) (o : Expr) (m : Str) (apos : Pos) (e f : Expr) (cpos : Pos) : Prop where
 base : attributeBase o m X.env (eval o X.env) = eval o X.env
 few : ((backTo cpos (starEach [e, f] X.env)).all (fun x => !x.1) && (backToKw cpos (keywordEach [] X.env)).all (fun x => x.1.isSome)
   && decide (([e, f] : List Expr).length + ([] : List Keyword).length + (if ([] : List Keyword).isEmpty then 0 else 1) < 30)) = true
 line : (apos.endLine == cpos.line) = true
 trees : backTo cpos (starEach [e, f] X.env) = [(false, eval e X.env), (false, eval f X.env)]
def IsD (H : Hp) (a : Addr) : Prop := (∃ kvs, Rd H a (.dK kvs)) ∨ ∃ kvs, Rd H a (.dT kvs)
theorem isD_at {X : Cx} {pins : List (Addr × Obj)} {σ : St} {H : Hp} {s : Shared} {a : Addr} (I : Inv X pins σ H s) (d : IsD H a) :
   s.TypeIs (.ref a) "dict" ∧ (∀ b, Value.ref a = .ref b → ∃ ob, s.heap.get? b = some ob ∧ ob.dict = none) ∧ (a == sysModules) = false := by
 rcases d with ⟨kvs, e⟩ | ⟨kvs, e⟩
 · obtain ⟨_, hd, vs, _, dd⟩ := dk_rd I.hok e
   refine ⟨dd.typeIs, fun b q => ?_, hd⟩
   cases q
   obtain ⟨ob, _, _, h1, h2, _⟩ := dd
   exact ⟨ob, h1, h2.2.1⟩
 · obtain ⟨_, hd, xs, _, dd⟩ := dt_rd I.hok e
   refine ⟨dd.typeIs, fun b q => ?_, hd⟩
   cases q
   obtain ⟨ob, _, _, h1, h2, _⟩ := dd
   exact ⟨ob, h1, h2.2.1⟩
section
variable {X : Cx} {pins : List (Addr × Obj)} {σ : St} {H : Hp} {s : Shared} {a : Addr} {y d : V} {u r : Value} {o : Option V} {A : Around} {E : Value → Shared → Prop}
theorem d_get2 {Q : Value → Shared → Prop} (hu : A.units + 1 < cLine) (I : Inv X pins σ H s) (g : DGet H a y o) (ry : RelV y u) (rd : RelV d r) (h : ∀ w' s', Inv X pins σ H s' → RelV (o.getD d) w' → Q w' s') :
   wpAny (model X.prog X.w) A (call (.builtin "dict.get") [.ref a, u, r]) Q E s := by
 rcases g with ⟨kvs, k, e, ey, l⟩ | ⟨kvs, k, b, e, ey, eb, l⟩
 · subst ey
   obtain ⟨z, hd, vs, rel, dd⟩ := dk_rd I.hok e
   refine call_meetsIn PySem.F.slot_dict_get dd.typeIs PySem.F.entry_dict_get (PySem.F.args_dict_get_3 _ _ _) (meets_dict_get_default (mixKind X.prog X.w) a (kV_is ry) hd r) ⟨_, dd.mapOf, h _ _ (I.tok _) ?_⟩
   rw [l]
   exact (rel.val k).getD rd
 · subst ey
   cases (show u = Value.ref b from ry)
   obtain ⟨z, hd, xs, rel, dd⟩ := dt_rd I.hok e
   refine call_meetsIn PySem.F.slot_dict_get dd.typeIs PySem.F.entry_dict_get (PySem.F.args_dict_get_3 _ _ _) (meetsH_dict_get_default (tupleKind (mixKind X.prog X.w)) a b hd r) ⟨tupleKind_room_in1 hu, k, xs, key_of I.hok eb, dd, h _ _ (I.tok _) ?_⟩
   rw [l]
   exact (rel.val k).getD rd
end
def tDGet2 (td ty tx : TE) : TE := fun σ H Q => td σ H fun x H1 => ∃ a, x = .ref a ∧ IsD H1 a ∧ ty σ H1 fun y H2 => tx σ H2 fun z H3 => ∃ o, DGet H3 a y o ∧ Q (o.getD z) H3
section
variable {X : Cx} {o e f : Expr} {apos cpos : Pos} {td ty tx : TE}
theorem pe_dget2 (hu : X.A.units + 1 < cLine) (ho : PE X o td) (he : PE X e ty) (hf : PE X f tx) (m : M2 X o "get" apos e f cpos) : PE X (.Call (.Attribute o "get" apos) [e, f] [] cpos) (tDGet2 td ty tx) := by
 intro pins s σ H Q I h
 refine wpAny_Call_method m.base m.few m.line PySem.F.plainAttrs_dict PySem.F.slot_dict_get PySem.F.type_dict_get (thn (ho pins s σ H _ I h) fun u s1 ⟨x, H1, I1, rx, a, ex, d, q1⟩ => ?_)
 subst ex
 obtain rfl : u = Value.ref a := rx
 obtain ⟨t1, t2, _⟩ := isD_at I1 d
 refine ⟨t1, t2, ?_⟩
 rw [m.trees]
 refine Calls.callWith_builtin rfl (Calls.evalArgs_plain (Calls.spliced_cons (thn (he pins s1 σ H1 _ I1 q1) fun iv s2 ⟨y, H2, I2, ry, q2⟩ =>
   Calls.spliced_cons (thn (hf pins s2 σ H2 _ I2 q2) fun fv s3 ⟨z, H3, I3, rz, ov, g, q3⟩ => Calls.spliced_nil ?_))))
 exact d_get2 hu I3 g ry rz fun w' s4 I4 rw' => ⟨_, H3, I4, rw', q3⟩
end
section
variable {X : Cx} {pins : List (Addr × Obj)} {σ : St} {H : Hp} {s : Shared} {a : Addr} {kvs : List (Key × V)} {A : Around} {E : Value → Shared → Prop}
end
section
variable {X : Cx} {pins : List (Addr × Obj)} {σ : St} {H : Hp} {s : Shared} {a : Addr} {y : V} {u : Value} {A : Around} {E : Value → Shared → Prop}
end
end L2
namespace Att
open PySem PySem.W PySem.Calls PyProof.Rows
theorem ints_of_wellAll {P : Params} {h : Heap} : ∀ (ns : List Int) (vs : List Value), WellAll P h vs (ns.map WData.int) → IntsAre vs ns := by
 intro ns
 induction ns with
 | nil =>
   intro vs w
   rw [List.map_nil] at w
   cases w
   exact .nil
 | cons n ns ih =>
   intro vs w
   rw [List.map_cons] at w
   cases w with
   | cons a b =>
     cases a
     exact .cons _ _ (ih _ b)
theorem script_of {l : OpenLaw} {n : Nat} (hn : l.most = some n) {P : Params} {h : Heap} {args : List WData} {vals : List Value}
   (hpre : l.row.toRowW.claim.pre args = true) (hwl : WellAll P h vals args) :
   ∃ a vs ns, vals = [Value.ref a] ∧ args = [WData.list (ns.map WData.int)] ∧ h.get? a = some { cls := .type "list", data := .seq vs.toArray } ∧ IntsAre vs ns ∧ ns.length ≤ n := by
 have hsh : WShape.hasAll [] args [.list .int] = true := (pre_splitW hpre).1
 have hc : l.pre.holds [] { args := args } = true := (pre_splitW hpre).2
 obtain ⟨d, r, rfl, h1, h2⟩ := hasAllW_cons hsh
 obtain rfl := hasAllW_nil h2
 obtain ⟨xs, rfl, h3⟩ := hasW_list h1
 obtain ⟨ns, rfl⟩ := items_int h3
 have hlen : ns.length ≤ n := by
   unfold OpenLaw.pre at hc
   have h4 : (WTm.not (.lt (.lit (.int (n : Int))) (.len (.arg 0)))).holds [] { args := [.list (ns.map .int)] } = true := by
     have h4 := (holds_andW hc).1
     rw [hn] at h4
     exact h4
   have h5 := condW_of h4 (w_not (w_lt w_lit (w_len_list (w_arg rfl))))
   rw [List.length_map] at h5
   refine Nat.le_of_not_lt fun q => ?_
   have q' : (n : Int) < ((ns.length : Nat) : Int) := by omega
   first
     | (rw [decide_eq_true q'] at h5; exact absurd h5 (by decide))
     | (simp at h5; omega)
 cases hwl with
 | cons w1 w2 =>
   cases w2
   cases w1 with
   | list ho hall => exact ⟨_, _, ns, rfl, rfl, ho, ints_of_wellAll ns _ hall, hlen⟩
theorem post_true (l : OpenLaw) (args : List WData) : l.row.toRowW.claim.post args (.bool true) args = true :=
 postW_of (r := l.row.toRowW) (X := (true == true))
   (show WShape.has [] (.bool true) .bool = true by first | rfl | decide | simp [WShape.has, WShape.arms, WShape.armsAll])
   (show (WTm.eq .res (.lit (.bool true))).value [] { args := args, res := some (.bool true), after := args } = some (.bool (true == true)) from w_eq_bool (w_res rfl) w_lit) rfl
theorem attach_call {l : OpenLaw} {n : Nat} {q : Program} {loose : List Str} {XP : (Str → Option Value) → Heap → Prop} {YP : World → Heap → Prop} {d : DefRec}
   (hn : l.most = some n) (hdf : d.params.defaults = [])
   (call : ∀ (w : World) (s₀ s₁ : Shared) (mg mb : Str → Option Value) (fa : Addr) (o : Obj) (pm cd doc : Value) (a : Addr) (vs : List Value) (ns : List Int),
     Ground q loose [] XP w s₀ mg mb s₁.heap → YP w s₁.heap →
     s₁.heap.get? fa = some o → o.data = .func (docDef d.name d.params d.body d.scope pm cd doc) → s₁.heap.CodeRec cd d.name → mg d.name = some (.ref fa) →
     s₁.heap.get? a = some { cls := .type "list", data := .seq vs.toArray } → IntsAre vs ns → ns.length ≤ n → s₁.gens = #[] →
     codeAny (model l.prog w) callerA (.call (.ref fa) ⟨[.ref a], []⟩) (fun r s' => r = .ok (.ret (.bool true)) ∧ OldK s₁.heap s'.heap ∧ s'.os = s₁.os ∧ AllBare s'.gens) s₁) :
   WalkO q loose XP YP l.row.toRowW d [] (fun f vs => PySem.call f vs) := by
 intro w s₀ s₁ mg mb G Y fa o pm cd doc dV kV ho hd hcd hD hmg hg args vals as hpre hlay hrd hwl hlo
 obtain rfl : dV = .none := Dflts.none hD hdf
 obtain rfl : kV = .none := Dflts.noKw hD
 obtain ⟨a, vs, ns, rfl, rfl, hobj, hints, hlen⟩ := script_of hn hpre hwl
 refine enter_call (codeAny_mono (call w s₀ s₁ mg mb fa o pm cd doc a vs ns G Y ho (fd_plain hd) hcd hmg hobj hints hlen hg) fun r s' hq => ?_)
 obtain ⟨rfl, h2, h3, h4⟩ := hq
 exact ⟨.inl ⟨.bool true, .bool true, [], rfl, fun _ => rfl, .bool true, post_true l _, fun _ => ⟨List.Pairwise.nil, fun _ hm => (nomatch hm)⟩⟩, h2, h3, h4⟩
section
variable {prog : Program} {w : World} {A : Around} {E : Value → Shared → Prop} {s : Shared} {K : Frag}
end
end Att
namespace L2
open PySem PySem.Spec PyProof.Rows
theorem vals_ints : ∀ {vs : List Value} {ns : List Int}, IntsAre vs ns → Vals (ns.map V.int) vs
 | _, _, .nil => .nil
 | _, _, .cons n t h => .cons ⟨t, rfl⟩ (vals_ints h)
def Only (H : Hp) : Prop := ∀ b, H b = none ∨ ∃ o xs, H b = some (.frz o (.lst xs))
theorem law_call {P : Program} {w : World} {K : PySem.W.Frag} {mg mb : Str → Option Value} {CX : CXT} {k : Nat} {fa a : Addr} {fd : FuncData} {x : Str} {sp : Sp} {s₁ : Shared} {vs : List Value} {ns : List Int}
   (KX : K.In s₁.heap) (hns : s₁.heap.Ns mainGlobals mg) (hb : s₁.heap.Ns builtinsNs mb) (hbb : ∀ x : Str, x ≠ "__name__" → mb x = bootBuiltins x) (hlim : s₁.heap.NoLimit) (hg : s₁.gens = #[])
   (ha : s₁.heap.get? a = some { cls := .type "list", data := .seq vs.toArray }) (hi : IntsAre vs ns) (hl : ns.length ≤ sizeLine) (hr : Room true k callerA)
   (F : ∀ base : Heap, K.In base → base.Ns mainGlobals mg → FnOk P w K mg base CX true k fa fd [x] sp) (hbind : ∀ (s : Shared) (u : Value), BindsTo s fd ⟨[u], []⟩ [(x, u)])
   (hsp : ∀ H : Hp, Only H → SqL K H a (ns.map V.int) → sp [.ref a] H (fun v _ => v = .bl true) fun _ _ _ => False)
   (hCX : ∀ H e s', CX [] H s₁ (fun _ _ _ => False) e s' → False) :
   codeAny (model P w) callerA (.call (.ref fa) ⟨[.ref a], []⟩) (fun r s' => r = .ok (.ret (.bool true)) ∧ OldK s₁.heap s'.heap ∧ s'.os = s₁.os ∧ AllBare s'.gens) s₁ := by
 have rv := vals_ints hi
 have lenV := hi.length
 -- from an abstract heap in which nothing but the script may be tracked
 have core : ∀ H : Hp, Only H → SqL K H a (ns.map V.int) → HOk P w H s₁.heap → (∀ b, H b ≠ none → b = a) → (H a ≠ none → K.lookup a = none) →
     codeAny (model P w) callerA (.call (.ref fa) ⟨[.ref a], []⟩) (fun r s' => r = .ok (.ret (.bool true)) ∧ OldK s₁.heap s'.heap ∧ s'.os = s₁.os ∧ AllBare s'.gens) s₁ := by
   intro H hO hS hok hA hK
   have base_of : ∀ {b : Addr} {o : Obj}, s₁.heap.get? b = some o → H b = none → (hidT s₁.heap H).get? b = some o := fun e n => hidT_get e n
   have noA : ∀ {b : Addr} {o : Obj} {es : Array DictEntry} {ep : Nat}, s₁.heap.get? b = some o → o.data = .dict es ep → H b = none := fun {b o es ep} e d => by
     cases q : H b with
     | none => rfl
     | some u =>
       have e' : b = a := hA b (by rw [q]; simp)
       subst e'
       rw [ha] at e; cases e
       have d' : Data.seq vs.toArray _ = Data.dict es ep := d
       cases d'
   have nsK : ∀ {b : Addr} {m : Str → Option Value}, s₁.heap.Ns b m → (hidT s₁.heap H).Ns b m := fun {b m} ⟨o, es, ep, e, d, r⟩ => ⟨o, es, ep, base_of e (noA e d), d, r⟩
   have hKb : K.In (hidT s₁.heap H) := fun b o e => base_of (KX b o e) (by
     cases q : H b with
     | none => rfl
     | some u =>
       have e' : b = a := hA b (by rw [q]; simp)
       subst e'
       rw [hK (by rw [q]; simp)] at e; cases e)
   have hM : Mod K mg (hidT s₁.heap H) := ⟨hKb, nsK hns, ⟨mb, nsK hb, hbb⟩, let ⟨mc, h1, h2⟩ := hlim; ⟨mc, nsK h1, h2⟩⟩
   have e0 : Env0 P w K mg (hidT s₁.heap H) callerA [] s₁ H := ⟨rfl, hM, fun b o e => of_hidT e, Nat.le_of_eq (hidT_size _ _), trivial, fun b hb => absurd (show b ∈ ([] : List Addr) from hb) (by simp), hok, .of_eq hg⟩
   refine codeAny_mono ((F _ hKb (nsK hns)).run callerA [] s₁ H ⟨[.ref a], []⟩ [.ref a] [.ref a] _ _ hr e0 (hbind s₁ (.ref a)) (.cons rfl .nil) (hsp H hO hS)) fun r s' h => ?_
   cases r with
   | error e => exact (hCX H e s' h).elim
   | ok fl =>
     cases fl with
     | next => exact False.elim h
     | brk => exact False.elim h
     | cont => exact False.elim h
     | ret u =>
       obtain ⟨v, H', os, bare, un, hok', r', q⟩ := h
       have q' : v = .bl true := q
       subst q'
       obtain rfl : u = Value.bool true := r'
       refine ⟨rfl, OldK.of_keep fun b o e => ?_, os, bare⟩
       cases q : H b with
       | none => exact un.keep b o e q (by intro z; exact absurd (show b ∈ ([] : List Addr) from z) (by simp)) (by simp)
       | some u =>
         rcases hO b with z | ⟨ob, xs, z⟩
         · rw [q] at z; cases z
         · have z2 := un.frzs b ob _ z
           obtain ⟨e1, _⟩ := hok b _ z
           obtain ⟨e2, _⟩ := hok' b _ z2
           rw [e] at e1; cases e1
           exact e2
 cases hk : K.lookup a with
 | some o =>
   -- the script is one of the module's own objects
   have e := KX a o hk
   rw [ha] at e
   cases e
   refine core (fun _ => none) (fun _ => .inl rfl) (.inr ⟨_, vs.toArray, _, hk, rfl, rfl, rfl, by rw [List.size_toArray, lenV]; exact hl, by simpa using rv⟩) (fun b u z => by have z' : (none : Option HO) = some u := z; cases z') (fun b z => absurd rfl z) fun z => absurd rfl z
 | none =>
   refine core (fun b => if b = a then some (.frz { cls := .type "list", data := .seq vs.toArray } (.lst (ns.map V.int))) else none) (fun b => ?_) (.inl (.inr ⟨{ cls := .type "list", data := .seq vs.toArray }, if_pos rfl⟩)) (fun b u z => ?_) (fun b z => ?_) fun _ => hk
   · by_cases hb : b = a
     · exact .inr ⟨_, _, if_pos hb⟩
     · exact .inl (if_neg hb)
   · by_cases hb : b = a
     · have z' := (if_pos hb).symm.trans z
       cases z'
       subst hb
       exact ⟨ha, by rw [List.length_map]; exact hl, vs, _, rv, ha⟩
     · have z' := (if_neg hb).symm.trans z
       cases z'
   · by_cases hb : b = a
     · exact hb
     · exact absurd (if_neg hb) z
end L2
namespace L2
open PySem PySem.Spec PyProof.Rows
abbrev KOf {K : PySem.W.Frag} {h : Heap} (_ : K.In h) : PySem.W.Frag := K
theorem walk_of {l : PySem.W.OpenLaw} {n k : Nat} {q : Program} {loose : List Str} {XP : (Str → Option Value) → Heap → Prop} {YP : World → Heap → Prop} {d : DefRec} {K : Params → PySem.W.Frag} {CX : World → CXT} {sp : World → Sp} {x : Str}
   (hn : l.most = some n) (hn2 : n ≤ sizeLine) (hdf : d.params.defaults = []) (hr : Room true k callerA)
   (hY : ∀ (w : World) (h : Heap), YP w h → (K w.params).In h)
   (F : ∀ (w : World) (mg : Str → Option Value) (fa : Addr) (h : Heap), (K w.params).In h → h.Ns mainGlobals mg → mg d.name = some (.ref fa) →
     ∃ fd : FuncData, (∀ (s : Shared) (u : Value), BindsTo s fd ⟨[u], []⟩ [(x, u)]) ∧
       ∀ base : Heap, (K w.params).In base → base.Ns mainGlobals mg → FnOk l.prog w (K w.params) mg base (CX w) true k fa fd [x] (sp w))
   (hsp : ∀ (w : World) (H : Hp) (a : Addr) (ns : List Int), ns.length ≤ n → Only H → SqL (K w.params) H a (ns.map V.int) → sp w [.ref a] H (fun v _ => v = .bl true) fun _ _ _ => False)
   (hCX : ∀ (w : World) (H : Hp) (s : Shared) (e : Value) (s' : Shared), CX w [] H s (fun _ _ _ => False) e s' → False) :
   PySem.W.WalkO q loose XP YP l.row.toRowW d [] (fun f vs => PySem.call f vs) := by
 refine Att.attach_call hn hdf fun w s₀ s₁ mg mb fa o pm cd doc a vs ns G Y ho hd hcd hmg hobj hints hlen hg => ?_
 have KX := hY w _ Y
 obtain ⟨fd, hb, hF⟩ := F w mg fa _ KX G.T.g hmg
 exact law_call KX G.T.g G.T.b G.T.builtins G.T.nolimit hg hobj hints (Nat.le_trans hlen hn2) hr hF hb (fun H hO hS => hsp w H a ns hlen hO hS) fun H e s' => hCX w H s₁ e s'
end L2
/- THE LAST THEOREM (shape; LID, My.* are yours):
  My.Adr: a structure of the addresses that your layer names (classes, functions); My.Txt K t: a structure (Prop) of the equations over K;
  My.txt_mk : {K} {implicit addresses ..} (e1 : nsIn K mainGlobals "law" = some (some (.ref f))) (e2 : K.lookup f = some ⟨oc, od, .func (fnOf "law" "law" params body scope dV kV doc pm an cdv ct), sl⟩) (e3 : codeIn K cdv "law" = true) .. : ∃ t, My.Txt K t
set_option maxRecDepth 100000 in
set_option maxHeartbeats 0 in
theorem PySem.Challenge.cw_LID_holds : PySem.Challenge.rw_LID.Holds := by
 w_on; o_law; k_head; (case hw => w_witness2)
 k_fill
 refine L2.walk_of (l := PySem.Challenge.rw_LID) (n := 63) (k := 40) (x := "script") (CX := fun w => ..) (sp := fun _ => My.sp_law) rfl (by decide) rfl ⟨rfl, by decide, by decide⟩ (fun w h Y => PySem.W.kIn_of Y) ?F ?S ?C
 case F =>
   intro w mg fa h KX G hmg
   have T : ∃ t, My.Txt (L2.KOf KX) t := by
     dsimp only [L2.KOf]                          -- K must stand as «<heap const> w.params» for k_is
     refine' My.txt_mk ?e1 ?e2 ?e3 ..
     (case e1 => PySem.W.k_is)                    -- in the order: a name -> its address -> its object -> its parts
     (case e2 => PySem.W.k_is)
     ..
   obtain ⟨t, T⟩ := T
   have e0 := hmg.symm.trans (PySem.W.mg_of KX G T.law)
   cases e0                                       -- fa is the law's own address
   exact ⟨_, fun s u => .of_eq rfl, fun base kb nb => My.law_fn T kb nb⟩     -- if «.of_eq rfl» comes too early: refine' ⟨_, ?b, fun base kb nb => My.law_fn T kb nb⟩; exact fun s u => .of_eq rfl
 case S => exact fun w H a ns hl hO hS => ..
 case C => exact ..
(the tactic k_is has no namespace: write k_is) -/
namespace L2
open PySem PySem.Spec PyProof.Rows
def inClass (s : Stmt) (j : Nat) : Stmt := match s with
 | .ClassDef _ _ _ body _ _ _ _ _ _ _ => body.getD j (.Pass ⟨0, 0, 0, 0⟩)
 | _ => .Pass ⟨0, 0, 0, 0⟩
def defArgs (s : Stmt) : Arguments := match s with
 | .FunctionDef _ a _ _ _ _ _ _ _ _ => a
 | _ => { posonlyargs := [], args := [], vararg := none, kwonlyargs := [], kw_defaults := [], kwarg := none, defaults := [] }
def defBody (s : Stmt) : List Stmt := match s with
 | .FunctionDef _ _ b _ _ _ _ _ _ _ => b
 | _ => []
def defScope (s : Stmt) : Scope := match s with
 | .FunctionDef _ _ _ _ _ _ sc _ _ _ => sc
 | _ => { kind := .function, names := [], isGenerator := false, isCoroutine := false }
abbrev CX0 : CXT := fun _ _ _ _ _ _ => False
abbrev E0 : XK := fun _ _ _ => False
theorem pass0 {X : Cx} : Passes CX0 X E0 := fun _ _ _ _ _ _ _ h => h.elim
structure Fun (K : PySem.W.Frag) (x qual : Str) (st : Stmt) (f : Addr) (fd : FuncData) : Prop where
 ex : ∃ (oc : Value) (od : Option Addr) (kV doc pm : Value) (an : Option Addr) (cdv ct : Value) (osl : Array (Option Value)),
   fd = PySem.W.fnOf x qual (defArgs st) (defBody st) (defScope st) .none kV doc pm an cdv ct ∧ K.lookup f = some ⟨oc, od, .func fd, osl⟩ ∧ PySem.W.codeIn K cdv qual = true
 kp : PySem.W.keepIn K (.ref f) = true
section
variable {P : Program} {w : World} {K : PySem.W.Frag} {mg : Str → Option Value} {base : Heap}
theorem Fun.ok {x qual : Str} {st : Stmt} {f : Addr} {fd : FuncData} {N ps : List Str} {k : Nat} {sp : Sp} (F : Fun K x qual st f fd) (S : FnScope N ps (defScope st)) (len : ∀ vs H Q E, sp vs H Q E → vs.length = ps.length)
   (hbody : ∀ (cdv : Value) (A : Around) (outer : List Env) (s : Shared) (H : Hp) (vs : List V) (Q : VK) (E : XK), Room cm k (A.deeper (envOfC qual (defScope st) s.heap.objs.size f cdv)) → sp vs H Q E →
     ∃ t, PSs (cxOf CX0 cm P w K mg base N qual (defScope st) f cdv A outer s H E).nox (defBody st) t ∧ t { nx := fun _ H' => Q .non H', rt := Q } (start N vs) H) : FnOk P w K mg base CX0 cm (k + 1) f fd ps sp := by
 obtain ⟨oc, od, kV, doc, pm, an, cdv, ct, osl, rfl, lk, hcd⟩ := F.ex
 refine fn_of lk hcd S len fun A outer s H vs Q E hr hsp => ?_
 obtain ⟨t, h, q⟩ := hbody cdv A outer s H vs Q E hr hsp
 exact ⟨t, h.nox, q⟩
theorem Fun.binds {x qual : Str} {st : Stmt} {f : Addr} {fd : FuncData} {ps : List Str} (F : Fun K x qual st f fd)
   (h : ∀ (kV doc pm : Value) (an : Option Addr) (cdv ct : Value) (us : List Value), us.length = ps.length → bindArgs (PySem.W.fnOf x qual (defArgs st) (defBody st) (defScope st) .none kV doc pm an cdv ct) ⟨us, []⟩ = pure (ps.zip us)) : Binds K fd ps [] := by
 obtain ⟨oc, od, kV, doc, pm, an, cdv, ct, osl, rfl, lk, hcd⟩ := F.ex
 exact .all (h kV doc pm an cdv ct)
end
theorem hu_of {cm : Bool} {A : Around} {k : Nat} (hr : Room cm k A) : A.units + 1 < cLine := Nat.lt_of_le_of_lt (Nat.add_le_add_left (by decide : 1 ≤ 64) _) hr.units
section
variable {X : Cx}
theorem pv (i : Nat) {x : Str} {pos : Pos} (hN : X.N[i]? = some x := by rfl) (hv : Vis X.env.scope x := by first | exact Or.inl rfl | exact Or.inr (Or.inl rfl) | exact Or.inr (Or.inr rfl)) (hd : (x == ("__debug__" : Str)) = false := by decide)
   (hcd : (x == ("__classdict__" : Str)) = false := by decide) : PE X (.Name x pos) (tVar i) := pe_var hN hv hd hcd
end
theorem iteF {A B : Prop} (h : B) : if false = true then A else B := by
 rw [if_neg Bool.false_ne_true]
 exact h
theorem iteT {A B : Prop} (h : A) : if true = true then A else B := by
 rw [if_pos rfl]
 exact h
def Same (H H' : Hp) : Prop := ∀ b o, H b = some o → H' b = some o
theorem Same.refl (H : Hp) : Same H H := fun _ _ h => h
theorem Same.trans {H H1 H2 : Hp} (a : Same H H1) (b : Same H1 H2) : Same H H2 := fun c o h => b c o (a c o h)
theorem Same.free {H H' : Hp} (e : Same H H') {l : Addr} (h : H' l = Option.none) : H l = Option.none := by
 cases q : H l with
 | none => rfl
 | some o =>
   rw [e l o q] at h
   cases h
theorem Same.seq {K : PySem.W.Frag} {H H' : Hp} {a : Addr} {xs : List V} (e : Same H H') (h : SqL K H a xs) : SqL K H' a xs := by
 rcases h with (h | ⟨o, h⟩) | h
 · exact .inl (.inl (e _ _ h))
 · exact .inl (.inr ⟨o, e _ _ h⟩)
 · exact .inr h
section
variable {κ : Type} [DecidableEq κ]
end
end L2
namespace L3
open PySem
def Rec (h : Heap) (x : Addr) (C : Value) (dx : Option Addr) (tb : Value) : Prop :=
 ∃ oe vs, h.get? x = some oe ∧ oe.cls = C ∧ oe.dict = dx ∧ oe.data = .fields vs ∧ vs[1]? = some tb
def Tra (h : Heap) (T : Addr) (fl : Value) : Prop := ∃ oT ts, h.get? T = some oT ∧ oT.data = .fields ts ∧ ts[3]? = some fl
theorem dict_mapFields (o : Obj) (f) : (o.mapFields f).dict = o.dict := by
 obtain ⟨c, d, dt, sl⟩ := o
 cases dt <;> rfl
structure Aft (S ch : List Addr) (h h' : Heap) : Prop where
 keep : ∀ b o, b ∉ S → b ∉ ch → h.get? b = some o → h'.get? b = some o
 slot : ∀ b o, b ∉ ch → h.get? b = some o → ∃ sl, h'.get? b = some { o with slots := sl }
 size : h.objs.size ≤ h'.objs.size
theorem Aft.refl (S ch : List Addr) (h : Heap) : Aft S ch h h := ⟨fun _ _ _ _ e => e, fun _ o _ e => ⟨o.slots, e⟩, Nat.le_refl _⟩
theorem Aft.trans {S ch : List Addr} {h1 h2 h3 : Heap} (a : Aft S ch h1 h2) (b : Aft S ch h2 h3) : Aft S ch h1 h3 where
 keep := fun c o hs hc e => b.keep c o hs hc (a.keep c o hs hc e)
 slot := fun c o hc e => by
   obtain ⟨s1, e1⟩ := a.slot c o hc e
   obtain ⟨s2, e2⟩ := b.slot c _ hc e1
   exact ⟨s2, e2⟩
 size := Nat.le_trans a.size b.size
theorem Aft.mono {S S' ch ch' : List Addr} {h h' : Heap} (a : Aft S ch h h') (hs : ∀ b, b ∈ S → b ∈ S') (hc : ∀ b, b ∈ ch → b ∈ ch') : Aft S' ch' h h' :=
 ⟨fun b o z1 z2 e => a.keep b o (fun q => z1 (hs b q)) (fun q => z2 (hc b q)) e, fun b o z e => a.slot b o (fun q => z (hc b q)) e, a.size⟩
section
variable {M : Model} {A : Around} {E : Value → Shared → Prop} {s : Shared}
theorem set_rec {T : Addr} {oT : Obj} {ts : Array Value} {i : Nat} {v : Value} {Q : Unit → Shared → Prop} (hT : s.heap.get? T = some oT) (hd : oT.data = .fields ts) (hi : i < ts.size)
   (h : ∀ h', Aft [] [T] s.heap h' → h'.get? T = some (oT.mapFields (·.setIfInBounds i v)) → Q () { s with heap := h' }) : wpAny M A (setField (.ref T) i v) Q E s := by
 refine wpAny_setField hT hd hi (h _ ⟨fun b o _ hb e => ?_, fun b o hb e => ⟨o.slots, ?_⟩, ?_⟩ ?_)
 · rw [Heap.get?_update_other _ _ (fun z => hb (by simp [z]))]; exact e
 · rw [Heap.get?_update_other _ _ (fun z => hb (by simp [z]))]; exact e
 · exact Nat.le_of_eq (Heap.size_after_update ..).symm
 · exact Heap.get?_update_self _ hT (Obj.isFreed_of_fields (Obj.data_mapFields hd _))
theorem new_rec {base : Heap} {env : Env} {outer : List Env} {L x : Addr} {oe : Obj} {vs : Array Value} {head : Value} {hadNext : Bool} {Q : Unit → Shared → Prop}
   (hfr : A.frames = some (env :: outer)) (hl : s.heap.FunFrames base (env :: outer)) (hf : env.frame = some L) (he : s.heap.get? x = some oe) (hd : oe.data = .fields vs) (hsz : 1 < vs.size)
   (h : ∀ h' T, Aft ((env :: outer).filterMap (·.frame)) [x] s.heap h' → s.heap.objs.size ≤ T → Rec h' x oe.cls oe.dict (.ref T) → Tra h' T (rawInt L) → Q () { s with heap := h' }) :
   wpAny M A (do let a ← frameOf env; let pl ← entryPlaceOf L hadNext; let b ← EntryCells.newEntry head a .none (rawInt L) .none pl; setField (.ref x) 1 b) Q E s := by
 have hne : x ∉ (env :: outer).filterMap (·.frame) := fun hm => by
   obtain ⟨_, o, ho, hnf⟩ := hl.mem hm
   rw [he] at ho
   cases ho
   exact hnf vs hd
 refine wpAny_bind (wpAny_frameOf_fun hfr hl hf fun h1 hs1 => ?_)
 refine wpAny_bind (wpAny_entryPlaceOf fun pl hpl => ?_)
 unfold EntryCells.newEntry newFields
 refine wpAny_bind (wpAny_newObj_type ?_ (hpl.sizeOk5 _ _ _ _ _))
 have he1 : h1.get? x = some oe := (hs1.2.1 x hne).trans he
 refine set_rec (Heap.get?_push_of_some _ he1) hd hsz fun h' a hx => ?_
 have hTx : h1.objs.size ≠ x := Nat.ne_of_gt (Heap.lt_size he1)
 refine h h' h1.objs.size ⟨fun b o hb hc e => ?_, fun b o hc e => ?_, ?_⟩ (Nat.le_of_eq hs1.1.symm) ⟨_, _, hx, Obj.cls_mapFields _ _, dict_mapFields _ _, Obj.data_mapFields hd _, by simp [hsz]⟩ ?_
 · exact a.keep b o (by simp) hc (Heap.get?_push_of_some _ ((hs1.2.1 b hb).trans e))
 · obtain ⟨sl, e1⟩ := hs1.2.2 b o e
   exact ⟨sl, a.keep b _ (by simp) hc (Heap.get?_push_of_some _ e1)⟩
 · refine Nat.le_trans ?_ a.size
   show s.heap.objs.size ≤ (h1.push _).objs.size
   rw [Heap.size_push, hs1.1]
   exact Nat.le_succ _
 · refine ⟨_, _, a.keep _ _ (by simp) (by simp [hTx]) (Heap.get?_push_size h1 rfl), rfl, ?_⟩
   first | (simp; done) | (rcases hpl with rfl | ⟨_, _, _, _, _, _, _, rfl⟩ <;> simp)
theorem note_new {base : Heap} {env : Env} {outer : List Env} {L x : Addr} {C : Value} {dx : Option Addr} {Q : Unit → Shared → Prop}
   (hfr : A.frames = some (env :: outer)) (hl : s.heap.FunFrames base (env :: outer)) (hf : env.frame = some L) (r : Rec s.heap x C dx .none)
   (h : ∀ h' T, Aft ((env :: outer).filterMap (·.frame)) [x] s.heap h' → s.heap.objs.size ≤ T → Rec h' x C dx (.ref T) → Tra h' T (rawInt L) → Q () { s with heap := h' }) :
   wpAny M A (noteFrame (.ref x) env) Q E s := by
 obtain ⟨oe, vs, he, rfl, rfl, hd, h1⟩ := r
 unfold noteFrame
 simp only [hf]
 refine wpAny_bind (wpAny_field he hd h1 ?_)
 rw [if_neg (by decide)]
 exact new_rec hfr hl hf he hd (Array.getElem?_eq_some_iff.mp h1).1 h
theorem note_any {base : Heap} {env : Env} {outer : List Env} {L x T : Addr} {C : Value} {dx : Option Addr} {fl : Value} {Q : Unit → Shared → Prop}
   (hfr : A.frames = some (env :: outer)) (hl : s.heap.FunFrames base (env :: outer)) (hf : env.frame = some L) (r : Rec s.heap x C dx (.ref T)) (hx : T ≠ x) (t : Tra s.heap T fl)
   (h : ∀ h' T' fl', Aft ((env :: outer).filterMap (·.frame)) [x, T] s.heap h' → (T' = T ∨ s.heap.objs.size ≤ T') → Rec h' x C dx (.ref T') → Tra h' T' fl' → Q () { s with heap := h' }) :
   wpAny M A (noteFrame (.ref x) env) Q E s := by
 obtain ⟨oe, vs, he, rfl, rfl, hd, h1⟩ := r
 obtain ⟨oT, ts, hT, hdT, h3⟩ := t
 unfold noteFrame
 simp only [hf]
 refine wpAny_bind (wpAny_field he hd h1 ?_)
 rw [if_pos (show (Value.ref T != Value.none) = true from by simp)]
 refine wpAny_bind (wpAny_field hT hdT h3 ?_)
 by_cases hb : (fl == rawInt L) = true
 · rw [if_pos hb]
   exact wpAny_pure (h s.heap T fl (Aft.refl ..) (.inl rfl) ⟨oe, vs, he, rfl, rfl, hd, h1⟩ ⟨oT, ts, hT, hdT, h3⟩)
 rw [if_neg hb]
 refine wpAny_bind (set_rec hT hdT (Array.getElem?_eq_some_iff.mp h3).1 fun h2 a2 e2 => ?_)
 have nT : ∀ b o, s.heap.get? b = some o → (∀ ws, o.data ≠ .fields ws) → b ∉ [T] := fun b o e hn z => by
   have z' : b = T := by simpa using z
   rw [z', hT] at e
   cases e
   exact hn ts hdT
 refine new_rec hfr (hl.of_keeps fun b o e hn => ⟨o, a2.keep b o (by simp) (nT b o e hn) e, rfl⟩) hf (a2.keep x oe (by simp) (by simp [Ne.symm hx]) he) hd (Array.getElem?_eq_some_iff.mp h1).1 fun h' T' a r' t' l => ?_
 refine h h' T' _ (Aft.trans (a2.mono (by simp) (by simp)) (a.mono (fun _ z => z) (by simp))) (.inr (Nat.le_trans a2.size r')) t' l
theorem flight_none {x T : Addr} {C : Value} {dx : Option Addr} {fl : Value} {Q : Unit → Shared → Prop} (r : Rec s.heap x C dx (.ref T)) (hx : T ≠ x) (t : Tra s.heap T fl)
   (h : ∀ h', Aft [] [T] s.heap h' → Rec h' x C dx (.ref T) → Tra h' T .none → Q () { s with heap := h' }) : wpAny M A (setFlight (.ref x) none) Q E s := by
 obtain ⟨oe, vs, he, rfl, rfl, hd, h1⟩ := r
 obtain ⟨oT, ts, hT, hdT, h3⟩ := t
 unfold setFlight
 refine wpAny_bind (wpAny_field he hd h1 ?_)
 rw [if_pos (show (Value.ref T != Value.none) = true from by simp)]
 have h3' := (Array.getElem?_eq_some_iff.mp h3).1
 refine set_rec hT hdT h3' fun h2 a2 e2 => h h2 a2 ⟨oe, vs, a2.keep x oe (by simp) (by simp [Ne.symm hx]) he, rfl, rfl, hd, h1⟩ ⟨_, _, e2, Obj.data_mapFields hdT _, ?_⟩
 simp [h3']
end
end L3
namespace L3
open PySem
def Rds {α : Type} (M : Model) (h : Heap) (t : Sem α) (r : α) : Prop :=
 ∀ (A : Around) (Q : α → Shared → Prop) (E : Value → Shared → Prop) (s : Shared), (∀ b o, h.get? b = some o → s.heap.get? b = some o) → Q r s → wpAny M A t Q E s
structure XC (h : Heap) (C : Addr) (bm : List Value) : Prop where
 at_ : ∃ nm q N bs sn sub ab col dd k0 k1 k2 k3 k5, h.get? C = some (excClassObj nm q C N bs bm true sn sub ab col dd k0 k1 k2 k3 k5 "ValueError.__new__")
 val : bm.contains (.type "ValueError") = true
 bas : bm.contains (.type "BaseException") = true
 ob : bm.contains (.type "object") = true
 noA : bm.contains (.type "AttributeError") = false
 noN : bm.contains (.type "NameError") = false
theorem XC.keeps {h h' : Heap} {C : Addr} {bm : List Value} (x : XC h C bm) (k : ∀ b o, h.get? b = some o → h'.get? b = some o) : XC h' C bm := by
 obtain ⟨⟨nm, q, N, bs, sn, sub, ab, col, dd, k0, k1, k2, k3, k5, e⟩, h1, h2, h3, h4, h5⟩ := x
 exact ⟨⟨nm, q, N, bs, sn, sub, ab, col, dd, k0, k1, k2, k3, k5, k _ _ e⟩, h1, h2, h3, h4, h5⟩
theorem has_more {C : Addr} {bm : List Value} {T : String} {b : Bool} (h : bm.contains (.type T) = b) : (Value.ref C :: bm).contains (.type T) = b := by
 rw [List.contains_cons, h]
 cases b <;> rfl
section
variable {P : Program} {w : World} {A : Around} {E : Value → Shared → Prop} {h : Heap} {g : Array GenState} {d : Drawn} {t : Nat} {os : OsState} {C : Addr} {bm : List Value}
theorem new_check {M : Model} {more : List Value} {Q : Unit → Shared → Prop} (x : XC h C bm) (hq : Q () ⟨h, g, d, t, os⟩) : wpAny M A (checkBuiltinCall "ValueError.__new__" ⟨.ref C :: more, []⟩) Q E ⟨h, g, d, t, os⟩ := by
 obtain ⟨⟨nm, q, N, bs, sn, sub, ab, col, dd, k0, k1, k2, k3, k5, cC⟩, val, bas, _, _, _⟩ := x
 have F := PySem.F.excBase_ValueError
 have c1 : (Value.ref C :: bm).contains (.type "ValueError") = true := has_more val
 have star := F.noStar
 simp only [checkBuiltinCall, F.newKind, F.newSplit, F.newRow]
 repeat (first
   | refine wpAny_loadPart_at cC ?_
   | (refine wpAny_isSubtype_exc cC ?_; rw [c1])
   | refine wpAny_staticBase_exc cC ?_
   | refine wpAny_madeBy_exc cC ?_
   | simp only [bne_self_eq_false, Bool.false_eq_true, if_false]
   | wp_step)
 exact hq
theorem new_run {more : List Value} {R : Result → Shared → Prop} (x : XC h C bm)
   (hq : R (.ok (.ret (.ref (h.objs.size + 1)))) ⟨(h.push { cls := .type "tuple", data := .seq more.toArray }).push { cls := .ref C, data := .fields #[.ref h.objs.size, .none, .none, .none, .bool false, .none] }, g, d, t, os⟩)
   (hrest : more.length ≤ sizeLine) : codeAny (model P w) A (.builtin "ValueError.__new__" ⟨.ref C :: more, []⟩) R ⟨h, g, d, t, os⟩ := by
 obtain ⟨⟨nm, q, N, bs, sn, sub, ab, col, dd, k0, k1, k2, k3, k5, cC⟩, val, bas, _, noA, noN⟩ := x
 have F := PySem.F.excBase_ValueError
 have ends := F.ends
 have c1 : (Value.ref C :: bm).contains (.type "ValueError") = true := has_more val
 have c2 : (Value.ref C :: bm).contains (.type "AttributeError") = false := has_more noA
 have c3 : (Value.ref C :: bm).contains (.type "NameError") = false := has_more noN
 refine codeAny_builtinAt F.entry ?_
 unfold Builtin.«BaseException.__new__»
 refine wpAt_bind ?_
 show wpAt _ _ _ (stack >>= _) _ _ _
 refine wpAt_bind (wpAt_stack fun p below => wpAt_of_wpAny ?_)
 wp_walk
 refine wpAt_of_wpAny ?_
 rw [F.owner]
 repeat (first
   | with_reducible refine wpAny_madeHere_exc F.canon cC ?_
   | with_reducible refine wpAny_loadPart_at cC ?_
   | (with_reducible refine wpAny_isSubtype_exc cC ?_; first | rw [c1] | rw [c2] | rw [c3])
   | wp_step)
 show R _ _
 rw [Heap.size_push]
 exact hq
theorem init_check {M : Model} {e : Addr} {oe : Obj} {more : List Value} {Q : Unit → Shared → Prop} (x : XC h C bm) (he : h.get? e = some oe) (hc : oe.cls = .ref C) (hq : Q () ⟨h, g, d, t, os⟩) :
   wpAny M A (checkBuiltinCall "ValueError.__init__" ⟨.ref e :: more, []⟩) Q E ⟨h, g, d, t, os⟩ := by
 obtain ⟨⟨nm, q, N, bs, sn, sub, ab, col, dd, k0, k1, k2, k3, k5, cC⟩, val, _, _, _, _⟩ := x
 have F := PySem.F.excBase_ValueError
 have c1 : (Value.ref C :: bm).contains (.type "ValueError") = true := has_more val
 have star := F.noStar
 simp only [checkBuiltinCall, F.initKind, F.initSplit, F.initRow]
 repeat (first
   | (with_reducible refine wpAny_loadPart_at he ?_; rw [hc])
   | with_reducible refine wpAny_loadPart_at cC ?_
   | (with_reducible refine wpAny_isSubtype_exc cC ?_; rw [c1])
   | wp_step)
 refine wpAny_onRaise ?_
 rw [show ∀ (a b : String) (n : Nat), Bind.check ⟨.positional, "*", "ValueError", .self, [⟨"args", .varPos, false⟩]⟩ a b n (List.map (fun x => x.fst) ({ pos := Value.ref e :: more } : Args).kw) = pure () from fun a b n => check_star_args _ _ _ _ _ _]
 exact wpAny_pure hq
theorem class_run {iv : Value} {more : List Value} {Q : PySem.Fin → Shared → Prop} (x : XC h C bm) (li : Rds (model P w) h (typeLookup (.ref C) "__init__") (some iv))
   (hrest : more.length ≤ sizeLine)
   (hq : ∀ h' e, Heap.MadeExcOf h h' e (.ref C) more → h.objs.size ≤ e → wpAny (model P w) A (bindSpecial iv (.ref e)) (fun p s1 => wpAny (model P w) A (call p.1 (p.2 ++ more)) (fun r s2 => r = .none ∧ Q (.done (.ret (.ref e))) s2) E s1) E ⟨h', g, d, t, os⟩) :
   wpAny (model P w) A (Builtin.«type.__call__» ⟨.ref C :: more, []⟩) Q E ⟨h, g, d, t, os⟩ := by
 have x0 := x
 obtain ⟨⟨nm, q, N, bs, sn, sub, ab, col, dd, k0, k1, k2, k3, k5, cC⟩, val, bas, _, noA, noN⟩ := x
 have F := PySem.F.excBase_ValueError
 repeat (first
   | with_reducible refine wpAny_loadPart_at cC ?_
   | with_reducible refine wpAny_madeBy_exc cC ?_
   | wp_step)
 refine codeAny_call_builtin_code (Code.quiet_builtin _ F.quiet) (new_check x0 ?_)
 refine new_run x0 ?_ hrest
 show wpAny _ _ _ _ _ _
 have up : ∀ b o, h.get? b = some o → ((h.push { cls := .type "tuple", data := .seq more.toArray }).push { cls := .ref C, data := .fields #[.ref h.objs.size, .none, .none, .none, .bool false, .none] }).get? b = some o :=
   fun b o e => Heap.get?_push_of_some _ (Heap.get?_push_of_some _ e)
 have cC1 := up _ _ cC
 have here : ((h.push { cls := .type "tuple", data := .seq more.toArray }).push { cls := .ref C, data := .fields #[.ref h.objs.size, .none, .none, .none, .bool false, .none] }).get? (h.objs.size + 1) =
     some { cls := .ref C, data := .fields #[.ref h.objs.size, .none, .none, .none, .bool false, .none] } := by heap_get
 have c0 : (Value.ref C :: bm).contains (.ref C) = true := by simp
 unfold isInstance
 repeat (first
   | with_reducible refine wpAny_loadPart_at here ?_
   | (with_reducible refine wpAny_isSubtype_exc cC1 ?_; rw [c0])
   | wp_step)
 show wpAny _ _ (typeLookup (.ref C) _) _ _ _
 refine li _ _ _ _ up ?_
 refine wpAny_holding (wpAny_bind (wpAny_mono (hq _ (h.objs.size + 1) ⟨up, Heap.get?_none_of_le (Nat.le_succ _), h.objs.size, here, Heap.get?_none_of_le (Nat.le_refl _), ?_⟩ (Nat.le_succ _)) (fun p s1 h1 => ?_) fun _ _ z => z))
 · exact Heap.get?_push_of_some _ (Heap.get?_push_at rfl rfl)
 · obtain ⟨p1, p2⟩ := p
   refine wpAny_bind (wpAny_mono h1 (fun r s2 hr => ?_) fun _ _ z => z)
   obtain ⟨rfl, hQ⟩ := hr
   wp_walk
   exact hQ
end
end L3
namespace L3
open PySem
section
variable {P : Program} {w : World} {A : Around} {E : Value → Shared → Prop} {h : Heap} {g : Array GenState} {d : Drawn} {t : Nat} {os : OsState} {C : Addr} {bm : List Value}
theorem class_call {iv : Value} {more : List Value} {Q : Value → Shared → Prop} (x : XC h C bm) (li : Rds (model P w) h (typeLookup (.ref C) "__init__") (some iv)) (hrest : more.length ≤ sizeLine)
   (hq : ∀ h' e, Heap.MadeExcOf h h' e (.ref C) more → h.objs.size ≤ e → wpAny (model P w) (A.under (.builtin "type.__call__" ⟨.ref C :: more, []⟩)) (bindSpecial iv (.ref e))
     (fun p s1 => wpAny (model P w) (A.under (.builtin "type.__call__" ⟨.ref C :: more, []⟩)) (call p.1 (p.2 ++ more)) (fun r s2 => r = .none ∧ Q (.ref e) s2) E s1) E ⟨h', g, d, t, os⟩) :
   wpAny (model P w) A (call (.ref C) more) Q E ⟨h, g, d, t, os⟩ := by
 have x0 := x
 obtain ⟨⟨nm, q, N, bs, sn, sub, ab, col, dd, k0, k1, k2, k3, k5, cC⟩, _⟩ := x
 have f1 := tc_lookup
 have f2 := tc_bind (.ref C)
 have ty : (⟨h, g, d, t, os⟩ : Shared).TypeIs (.ref C) "type" := ⟨_, cC, rfl⟩
 refine wpAny_call (codeAny_of_tree ?_)
 show wpAny _ _ (callAny (.ref C) _) _ _ _
 repeat (any_goals (first
   | assumption
   | with_reducible refine wpAny_loadPart_at cC ?_
   | wp_step))
 refine ⟨rfl, ?_⟩
 exact codeAny_call_builtin_at (Code.quiet_builtin _ (by decide +kernel)) entry_typeCall (wpAny_check_type_call_sub cC (class_run x0 li hrest fun h' e hm hs => hq h' e hm hs))
def Bare (s : Shared) (e C : Addr) : Prop := ∃ dx t, s.heap.get? e = some { cls := .ref C, dict := dx, data := .fields #[.ref t, .none, .none, .none, .bool false, .none] }
theorem raise_run {env : Env} {s : Shared} {x : Sem Value} {Q : Flow → Shared → Prop} (hh : A.handled = none)
   (hx : wpAny (model P w) A x (fun v s1 => ∃ e, v = .ref e ∧ XC s1.heap C bm ∧ Bare s1 e C ∧ E (.ref e) s1) E s) : wpAny (model P w) A (raiseStmt env (some x) none) Q E s := by
 unfold raiseStmt
 refine wpAny_bind (wpAny_mono hx (fun v s1 h1 => ?_) fun _ _ z => z)
 obtain ⟨e, rfl, xc, ⟨dx, tt, he⟩, hE⟩ := h1
 obtain ⟨⟨nm, q, N, bs, sn, sub, ab, col, dd, k0, k1, k2, k3, k5, cC⟩, _, bas, _⟩ := xc
 have c1 : (Value.ref C :: bm).contains (.type "BaseException") = true := has_more bas
 obtain ⟨hp, g1, d1, tk, os1⟩ := s1
 repeat (first
   | with_reducible refine wpAny_loadPart_at he ?_
   | with_reducible refine wpAny_loadPart_at cC ?_
   | (with_reducible refine wpAny_isSubtype_exc cC ?_; rw [c1])
   | wp_step)
 exact wpAny_raiseNew_none hh hE
theorem raise_call {env : Env} {s : Shared} {x : Str} {np cpos pos : Pos} {args : List Expr} {iv : Value} {Q : Flow → Shared → Prop} (hh : A.handled = none) (hplain : (backTo cpos (starEach args env)).any (·.1) = false)
   (hx : wpAny (model P w) A (eval (.Name x np) env) (fun f s1 => f = .ref C ∧ wpAny (model P w) A (evalArgs (.ref C) true (backTo cpos (starEach args env)) [])
     (fun a s2 => a.kw = [] ∧ a.pos.length ≤ sizeLine ∧ XC s2.heap C bm ∧ Rds (model P w) s2.heap (typeLookup (.ref C) "__init__") (some iv) ∧
       ∀ h' e, Heap.MadeExcOf s2.heap h' e (.ref C) a.pos → s2.heap.objs.size ≤ e → wpAny (model P w) (A.under (.builtin "type.__call__" ⟨.ref C :: a.pos, []⟩)) (bindSpecial iv (.ref e))
         (fun p s3 => wpAny (model P w) (A.under (.builtin "type.__call__" ⟨.ref C :: a.pos, []⟩)) (call p.1 (p.2 ++ a.pos)) (fun r s4 => r = .none ∧ XC s4.heap C bm ∧ Bare s4 e C ∧ E (.ref e) s4) E s3) E { s2 with heap := h' }) E s1) E s) :
   wpAny (model P w) A (exec (.Raise (some (.Call (.Name x np) args [] cpos)) none pos) env) Q E s := by
 rw [arm_exec_Raise]
 have go : wpAny (model P w) A (eval (.Call (.Name x np) args [] cpos) env) (fun v s1 => ∃ e, v = .ref e ∧ XC s1.heap C bm ∧ Bare s1 e C ∧ E (.ref e) s1) E s := by
   refine wpAny_Call_ofName (wpAny_mono hx (fun f s1 h1 => ?_) fun _ _ z => z)
   obtain ⟨rfl, h1⟩ := h1
   unfold callWith
   refine wpAny_bind (wpAny_holding (wpAny_mono h1 (fun a s2 h2 => wpAny_bind (wpAny_standAt ?_)) fun _ _ z => z))
   obtain ⟨ap, ak⟩ := a
   obtain ⟨hkw, hlen, xc, li, h2⟩ := h2
   obtain rfl : ak = [] := hkw
   obtain ⟨hp, g1, d1, tk, os1⟩ := s2
   simp only [hplain]
   obtain ⟨⟨nm, q, N, bs, sn, sub, ab, col, dd, k0, k1, k2, k3, k5, cC⟩, _⟩ := id xc
   refine wpAny_bind (wpAny_keeperOf_exc cC ?_)
   refine wpAny_bind (class_call xc li hlen fun h' e hm hs => wpAny_mono (h2 h' e hm hs) (fun p s3 h3 => wpAny_mono h3 (fun r s4 h4 => ?_) fun _ _ z => z) fun _ _ z => z)
   exact ⟨h4.1, wpAny_bind (wpAny_holding (wpAny_point (wpAny_pure ⟨e, rfl, h4.2⟩)))⟩
 first
   | refine wpAny_bind (wpAny_standAt (raise_run (C := C) (bm := bm) hh (wpAny_bind (wpAny_mono go (fun v s3 h3 => wpAny_bind (wpAny_standAt (wpAny_pure h3))) fun _ _ z => z))))
   | (simp only [evalOpt, Option.map]; refine wpAny_bind (wpAny_standAt (raise_run (C := C) (bm := bm) hh (wpAny_bind (wpAny_mono go (fun v s3 h3 => wpAny_bind (wpAny_standAt (wpAny_pure h3))) fun _ _ z => z)))))
end
end L3
namespace L3
open PySem
section
variable {P : Program} {w : World} {A : Around} {E : Value → Shared → Prop} {h h' : Heap} {g : Array GenState} {d : Drawn} {t : Nat} {os : OsState} {C : Addr} {bm : List Value}
theorem plain_init {e : Addr} {more : List Value} {Q : Shared → Prop} (hm : Heap.MadeExcOf h h' e (.ref C) more) (xc : XC h' C bm) (hrest : more.length ≤ sizeLine)
   (hq : ∀ h2, Heap.MadeExcOf h h2 e (.ref C) more → (∀ b o, h.get? b = some o → h2.get? b = some o) → Q ⟨h2, g, d, t, os⟩) :
   wpAny (model P w) A (bindSpecial (.builtin "ValueError.__init__") (.ref e)) (fun p s1 => wpAny (model P w) A (call p.1 (p.2 ++ more)) (fun r s2 => r = .none ∧ Q s2) E s1) E ⟨h', g, d, t, os⟩ := by
 have F := PySem.F.excBase_ValueError
 obtain ⟨tt, he, htn, ht⟩ := hm.there
 refine wpAny_of_eq (F.init.bind _) ?_
 refine wpAny_call (codeAny_call_builtin F.init.plain F.initEntry (init_check xc he rfl ?_))
 wp_walk
 refine ⟨rfl, hq _ ⟨fun b o hb => ?_, hm.new, h'.objs.size, ?_, ?_, ?_⟩ fun b o hb => ?_⟩
 · have hb' := hm.keeps b o hb
   have hne : e ≠ b := fun z => by rw [← z, hm.new] at hb; cases hb
   rw [Heap.get?_update_other _ _ hne]
   exact Heap.get?_push_of_some _ hb'
 · rw [Heap.get?_update_self _ (Heap.get?_push_of_some _ he) rfl]
   rfl
 · cases q : h.get? h'.objs.size with
   | none => rfl
   | some o => exact absurd (Heap.lt_size (hm.keeps _ _ q)) (Nat.lt_irrefl _)
 · rw [Heap.get?_update_other _ _ (Nat.ne_of_lt (Heap.lt_size he))]
   exact Heap.get?_push_size _ rfl
 · have hb' := hm.keeps b o hb
   have hne : e ≠ b := fun z => by rw [← z, hm.new] at hb; cases hb
   rw [Heap.get?_update_other _ _ hne]
   exact Heap.get?_push_of_some _ hb'
end
end L3
namespace L3
open PySem Builtin Builtin.ObjectAttr
section
variable {P : Program} {w : World} {A : Around} {E : Value → Shared → Prop} {h : Heap} {g : Array GenState} {d : Drawn} {t : Nat} {os : OsState} {C x : Addr} {bm : List Value}
 {mA : Str → Option Value} {name : Str} {v : Value} {B : String} {bmB : List Value}
theorem Rds.go {α : Type} {M : Model} {r : α} {u : Sem α} {s : Shared} {Q : α → Shared → Prop} (l : Rds M h u r) (k : ∀ b o, h.get? b = some o → s.heap.get? b = some o) (q : Q r s) : wpAny M A u Q E s := l A Q E s k q
def Stored (h : Heap) (x C : Addr) (mA : Str → Option Value) (name : Str) (v : Value) (h' : Heap) : Prop :=
 h'.Inst x C (fun y => if y = name then some v else mA y) ∧
 (∀ b o, b ≠ x → (∀ o0 dx, h.get? x = some o0 → o0.dict = some dx → b ≠ dx) → h.get? b = some o → h'.get? b = some o) ∧
 (∀ o0, h.get? x = some o0 → ∃ o1, h'.get? x = some o1 ∧ o1.cls = o0.cls ∧ o1.data = o0.data ∧ o1.slots = o0.slots ∧ ∀ dx, o0.dict = some dx → o1.dict = some dx) ∧
 (∀ o0, h.get? x = some o0 → o0.dict = none → ∃ o1, h'.get? x = some o1 ∧ o1.dict = some h.objs.size)
theorem set_check {M : Model} {o : Obj} {nameV : Value} {Q : Unit → Shared → Prop} (SF : StoreFacts B bmB "object.__setattr__" "object") (xc : XC h C bm) (hx : h.get? x = some o) (hc : o.cls = .ref C)
   (hq : Q () ⟨h, g, d, t, os⟩) : wpAny M A (checkBuiltinCall "object.__setattr__" ⟨[.ref x, nameV, v], []⟩) Q E ⟨h, g, d, t, os⟩ := by
 obtain ⟨⟨nm, q, N, bs, sn, sub, ab, col, dd, k0, k1, k2, k3, k5, cC⟩, _, _, ob, _, _⟩ := xc
 have c1 : (Value.ref C :: bm).contains (.type "object") = true := has_more ob
 simp only [checkBuiltinCall, SF.kind, SF.split]
 refine wpAny_bind ?_
 · unfold isInstance
   repeat (first
     | (with_reducible refine wpAny_loadPart_at hx ?_; rw [hc])
     | (with_reducible refine wpAny_isSubtype_exc cC ?_; rw [c1])
     | wp_step)
   exact hq
theorem set_entry {tk : Tok} {Q : PySem.Fin → Shared → Prop} {ns : List Str} (xc : XC h C bm) (hpass : ∀ self, refuseLoop self "__setattr__" bm = pure ()) (la : Rds (model P w) h (typeLookup (.ref C) name) none) (I : h.Inst x C mA)
   (hw : Within mA ns) (hsz : ns.length ≤ sizeLine) (hq : ∀ h' tk', Stored h x C mA name v h' → Q (.done (.ret .none)) ⟨h', g, d, tk', os⟩) :
   wpAny (model P w) A (Builtin.«object.__setattr__» ⟨[.ref x, .str name tk, v], []⟩) Q E ⟨h, g, d, t, os⟩ := by
 obtain ⟨⟨nm, q, N, bs, sn, sub, ab, col, dd, k0, k1, k2, k3, k5, cC⟩, _⟩ := xc
 obtain ⟨o, hx, hc, hnc, hd⟩ := I
 have hp := hpass (.ref x)
 unfold Builtin.«object.__setattr__»
 repeat (first
   | rw [refuse_eq]
   | (rw [refuseLoop_ref, hp])
   | (with_reducible refine wpAny_loadPart_at hx ?_; rw [hc])
   | with_reducible refine wpAny_mroOf_exc cC ?_
   | with_reducible refine Rds.go la (fun _ _ z => z) ?_
   | wp_step)
 rcases hd with ⟨hdn, hmA⟩ | ⟨dx, hdx, hne, hns⟩
 · rw [hdn, if_neg (by simp [typeHasDict])]
   split
   · rename_i z
     cases z
   split
   · rename_i c z
     exact absurd z (hnc c)
   · have hx1 : (h.push { cls := .type "dict", data := .dict #[] }).get? x = some o := Heap.get?_push_of_some _ hx
     have hxs : x ≠ h.objs.size := Nat.ne_of_lt (Heap.lt_size hx)
     refine wpAny_bind (wpAny_alloc' ?_)
     refine wpAny_bind (wpAny_update' hx1 ?_)
     refine wpAny_pure ?_
     have g1 : ((h.push { cls := .type "dict", data := .dict #[] }).update x fun o => { cls := o.cls, dict := some h.objs.size, data := o.data, slots := o.slots }).get? h.objs.size =
         some { cls := .type "dict", data := .dict #[] } := (Heap.get?_update_ne _ _ _ _ hxs.symm).trans (Heap.get?_push_at rfl rfl)
     have g2 : ((h.push { cls := .type "dict", data := .dict #[] }).update x fun o => { cls := o.cls, dict := some h.objs.size, data := o.data, slots := o.slots }).Ns h.objs.size (fun _ => none) :=
       ⟨_, #[], _, g1, rfl, (fun e he => absurd he (by simp)), fun _ => rfl⟩
     show wpAny _ _ (storeInDict h.objs.size (.str name tk) name v) _ _ _
     unfold storeInDict newKeyGuard
     refine wpAny_bind (wpAny_pure (wpAny_bind (wpAny_nsSet1 (Heap.Ns1.of_empty g2) fun h' hn' hs => ?_)))
     obtain ⟨oD, esD, epD, hoD, hdD, hcD⟩ := hn'.count (Within.cons name v Within.nil)
     refine wpAny_bind (wpAny_lookBehind hoD (by rw [hdD]; exact pastItsLine_dict (Nat.le_trans hcD (by rw [List.length_cons, List.length_nil, sizeLine_eq]; omega))) ?_)
     wp_walk
     have hx' : h'.get? x = some { cls := o.cls, dict := some h.objs.size, data := o.data, slots := o.slots } := by
       refine (hs.2 x hxs).trans (Heap.get?_update_self _ hx1 ?_)
       have fr := (Heap.get?_some_iff.mp hx).2
       obtain ⟨oc, od, odt, osl⟩ := o
       cases odt <;> first | rfl | exact fr
     refine hq h' _ ⟨⟨_, hx', hc, hnc, .inr ⟨h.objs.size, rfl, hxs.symm, ?_⟩⟩, fun b ob hbx _ hb => ?_, fun o0 h0 => ?_, fun o0 h0 _ => ⟨_, hx', rfl⟩⟩
     · obtain ⟨o', es, ep, e1, e2, e3, eu, e4⟩ := hn'
       exact ⟨o', es, ep, e1, e2, e3, eu, fun y => by rw [e4 y]; by_cases hy : y = name <;> simp [hy, hmA]⟩
     · exact (hs.2 b (Nat.ne_of_lt (Heap.lt_size hb))).trans ((Heap.get?_update_ne _ _ _ _ hbx).trans (Heap.get?_push_of_some _ hb))
     · obtain rfl : o = o0 := Option.some.inj (hx.symm.trans h0)
       exact ⟨_, hx', rfl, rfl, rfl, fun dx e => by rw [hdn] at e; cases e⟩
 · rw [hdx]
   refine wpAny_pure ?_
   show wpAny _ _ (storeInDict dx (.str name tk) name v) _ _ _
   unfold storeInDict newKeyGuard
   refine wpAny_bind (wpAny_pure (wpAny_bind (wpAny_nsSet1 hns fun h' hn' hs => ?_)))
   obtain ⟨oD, esD, epD, hoD, hdD, hcD⟩ := hn'.count (Within.cons name v hw)
   refine wpAny_bind (wpAny_lookBehind hoD (by rw [hdD]; exact pastItsLine_dict (Nat.le_trans hcD (by rw [List.length_cons]; omega))) ?_)
   wp_walk
   refine hq h' _ ⟨⟨o, (hs.2 x hne.symm).trans hx, hc, hnc, .inr ⟨dx, hdx, hne, hn'⟩⟩, fun b ob _ hbd hb => ?_, fun o0 h0 => ⟨o0, (hs.2 x hne.symm).trans h0, rfl, rfl, rfl, fun _ e => e⟩, fun o0 h0 hn0 => ?_⟩
   · exact (hs.2 b (hbd o dx hx hdx)).trans hb
   · obtain rfl : o = o0 := Option.some.inj (hx.symm.trans h0)
     rw [hdx] at hn0
     cases hn0
theorem set_attr {Q : Unit → Shared → Prop} {ns : List Str} (SF : StoreFacts B bmB "object.__setattr__" "object") (xc : XC h C bm) (hpass : ∀ self, refuseLoop self "__setattr__" bm = pure ())
   (ls : Rds (model P w) h (typeLookup (.ref C) "__setattr__") (some (.builtin "object.__setattr__"))) (la : Rds (model P w) h (typeLookup (.ref C) name) none) (I : h.Inst x C mA) (hw : Within mA ns) (hsz : ns.length ≤ sizeLine)
   (hq : ∀ h' tk', Stored h x C mA name v h' → Q () ⟨h', g, d, tk', os⟩) : wpAny (model P w) A (setAttr (.ref x) name v) Q E ⟨h, g, d, t, os⟩ := by
 obtain ⟨o, hx, hc, _⟩ := id I
 have f3 := SF.slot.bind (.ref x)
 unfold setAttr callSpecial? specialOf
 repeat (any_goals (first
   | assumption
   | (with_reducible refine wpAny_loadPart_at hx ?_; rw [hc])
   | with_reducible refine Rds.go ls (fun _ _ z => z) ?_
   | wp_step))
 refine codeAny_call_builtin SF.slot.plain SF.entry (set_check SF xc hx hc (set_entry xc hpass la I hw hsz fun h' tk' st => ?_))
 repeat (any_goals (first | assumption | wp_step))
 exact hq h' tk' st
end
end L3
namespace L3
open PySem Builtin Builtin.ObjectAttr
section
variable {P : Program} {w : World} {A : Around} {E : Value → Shared → Prop} {h : Heap} {g : Array GenState} {d : Drawn} {t : Nat} {os : OsState} {C x dx : Addr} {bm : List Value}
 {mA : Str → Option Value} {name : Str} {v : Value} {o : Obj} {vs : Array Value}
theorem get_check {M : Model} {nameV : Value} {Q : Unit → Shared → Prop} (xc : XC h C bm) (hx : h.get? x = some o) (hc : o.cls = .ref C) (hq : Q () ⟨h, g, d, t, os⟩) :
   wpAny M A (checkBuiltinCall "BaseException.__getattribute__" ⟨[.ref x, nameV], []⟩) Q E ⟨h, g, d, t, os⟩ := by
 obtain ⟨⟨nm, q, N, bs, sn, sub, ab, col, dd, k0, k1, k2, k3, k5, cC⟩, _, bas, _, _, _⟩ := xc
 have f1 : builtinKind "BaseException.__getattribute__" = some .slot := by decide +kernel
 have f2 : splitId "BaseException.__getattribute__" = some ("BaseException", "__getattribute__") := by decide +kernel
 have c1 : (Value.ref C :: bm).contains (.type "BaseException") = true := has_more bas
 have ha := PySem.F.args_bexc_ga (.ref x) nameV
 simp only [checkBuiltinCall, f1, f2]
 refine wpAny_bind ?_
 unfold isInstance
 repeat (first
   | (with_reducible refine wpAny_loadPart_at hx ?_; rw [hc])
   | (with_reducible refine wpAny_isSubtype_exc cC ?_; rw [c1])
   | wp_step)
 exact hq
theorem get_entry {tk : Tok} {Q : PySem.Fin → Shared → Prop} (xc : XC h C bm) (la : Rds (model P w) h (typeLookup (.ref C) name) none) (hx : h.get? x = some o) (hc : o.cls = .ref C) (hd : o.data = .fields vs) (hdx : o.dict = some dx)
   (hn : h.Ns1 dx mA) (hv : mA name = some v) (hq : Q (.done (.ret v)) ⟨h, g, d, t, os⟩) :
   wpAny (model P w) A (Builtin.«object.__getattribute__» ⟨[.ref x, .str name tk], []⟩) Q E ⟨h, g, d, t, os⟩ := by
 obtain ⟨⟨nm, q, N, bs, sn, sub, ab, col, dd, k0, k1, k2, k3, k5, cC⟩, _⟩ := xc
 obtain ⟨oc, od, odt, osl⟩ := o
 dsimp only at hc hd hdx
 subst hc hd hdx
 repeat (any_goals (first
   | assumption
   | with_reducible refine wpAny_loadPart_at hx ?_
   | with_reducible refine wpAny_loadPart_at cC ?_
   | with_reducible refine Rds.go la (fun _ _ z => z) ?_
   | with_reducible refine wpAny_nsGet hn.ns ?_
   | wp_step))
 rw [hv]
 repeat (any_goals (first | assumption | wp_step))
theorem get_attr {ex : Bool} {Q : Value → Shared → Prop} (FB : ExcAttrFacts "ValueError") (xc : XC h C bm) (lg : Rds (model P w) h (typeLookup (.ref C) "__getattribute__") (some (.builtin "BaseException.__getattribute__")))
   (lh : Rds (model P w) h (typeLookup (.ref C) "__getattr__") none) (la : Rds (model P w) h (typeLookup (.ref C) name) none) (hx : h.get? x = some o) (hc : o.cls = .ref C) (hd : o.data = .fields vs) (hdx : o.dict = some dx)
   (hn : h.Ns1 dx mA) (hv : mA name = some v) (hh : handedOut v = pure v) (hq : Q v ⟨h, g, d, t + 1, os⟩) : wpAny (model P w) A (getAttr (.ref x) name ex) Q E ⟨h, g, d, t, os⟩ := by
 have f3 := FB.ga.bind (.ref x)
 have e0 : (ex && onTheHeap (Value.builtin "BaseException.__getattribute__")) = false := by cases ex <;> rfl
 have e2 : (Value.builtin "BaseException.__getattribute__" == Value.builtin "object.__getattribute__") = false := by decide +kernel
 have e1 : (onTheHeap (Value.ref C) && Value.builtin "BaseException.__getattribute__" == Value.builtin "object.__getattribute__") = false := by rw [e2]; rfl
 unfold getAttr
 repeat (any_goals (first
   | assumption
   | (with_reducible refine wpAny_loadPart_at hx ?_; rw [hc])
   | with_reducible refine Rds.go lg (fun _ _ z => z) ?_
   | with_reducible refine Rds.go lh (fun _ _ z => z) ?_
   | wp_step))
 refine codeAny_call_builtin FB.ga.plain PySem.F.entry_bexc_ga (get_check xc hx hc (get_entry xc la hx hc hd hdx hn hv ?_))
 repeat (any_goals (first | assumption | wp_step))
end
end L3
namespace L3
open PySem Builtin Builtin.ObjectAttr
section
variable {P : Program} {w : World} {A : Around} {E : Value → Shared → Prop} {h : Heap} {g : Array GenState} {d : Drawn} {t : Nat} {os : OsState} {C x : Addr} {bm : List Value} {o : Obj}
theorem cls_get {R : Result → Shared → Prop} (xc : XC h C bm) (hx : h.get? x = some o) (hc : o.cls = .ref C) (hq : R (.ok (.ret (.ref C))) ⟨h, g, d, t, os⟩) :
   codeAny (model P w) A (.call (.builtin "getset_descriptor.__get__") ⟨[.builtin "object.__class__", .ref x, .ref C], []⟩) R ⟨h, g, d, t, os⟩ := by
 obtain ⟨⟨nm, q, N, bs, sn, sub, ab, col, dd, k0, k1, k2, k3, k5, cC⟩, _, _, ob, _, _⟩ := xc
 have ty : (⟨h, g, d, t, os⟩ : Shared).TypeIs (.builtin "object.__class__") "getset_descriptor" := PySem.F.typeOf_object_class
 have c1 : (Value.ref C :: bm).contains (.type (".".intercalate ("object.__class__".cutAt '.').dropLast)) = true := by
   rw [PySem.F.owner_object_class]
   exact has_more ob
 refine codeAny_call_builtin PySem.F.slot_gs_get.plain PySem.F.entry_gs_get (PySem.F.slot_gs_get.check _ _ _ _ _ _ _ _ ty (PySem.F.args_gs_get _ _ _) ?_)
 repeat (any_goals (first
   | assumption
   | (with_reducible refine wpAny_loadPart_at hx ?_; rw [hc])
   | (with_reducible refine wpAny_isSubtype_exc cC ?_; rw [c1])
   | wp_step))
 refine ⟨Code.quiet_builtin _ (by decide +kernel), codeAny_builtin PySem.F.entry_object_class ?_⟩
 repeat (any_goals (first
   | assumption
   | (with_reducible refine wpAny_loadPart_at hx ?_; rw [hc])
   | wp_step))
theorem cls_entry {tk : Tok} {Q : PySem.Fin → Shared → Prop} (xc : XC h C bm) (lc : Rds (model P w) h (typeLookup (.ref C) "__class__") (some (.builtin "object.__class__"))) (hx : h.get? x = some o) (hc : o.cls = .ref C)
   (hq : Q (.done (.ret (.ref C))) ⟨h, g, d, t, os⟩) : wpAny (model P w) A (Builtin.«object.__getattribute__» ⟨[.ref x, .str "__class__" tk], []⟩) Q E ⟨h, g, d, t, os⟩ := by
 have ty : (⟨h, g, d, t, os⟩ : Shared).TypeIs (.builtin "object.__class__") "getset_descriptor" := PySem.F.typeOf_object_class
 have f5 := PySem.F.typeOf_object_class
 have f6 := PySem.F.slot_gs_get.lookup
 have f7 := PySem.F.slot_gs_set.lookup
 repeat (any_goals (first
   | assumption
   | (with_reducible refine wpAny_loadPart_at hx ?_; rw [hc])
   | with_reducible refine Rds.go lc (fun _ _ z => z) ?_
   | wp_step))
 refine cls_get xc hx hc ?_
 repeat (any_goals (first | assumption | wp_step))
theorem cls_attr {Q : Option Value → Shared → Prop} (FB : ExcAttrFacts "ValueError") (xc : XC h C bm) (lg : Rds (model P w) h (typeLookup (.ref C) "__getattribute__") (some (.builtin "BaseException.__getattribute__")))
   (lh : Rds (model P w) h (typeLookup (.ref C) "__getattr__") none) (lc : Rds (model P w) h (typeLookup (.ref C) "__class__") (some (.builtin "object.__class__"))) (hx : h.get? x = some o) (hc : o.cls = .ref C)
   (hq : Q (some (.ref C)) ⟨h, g, d, t + 1, os⟩) : wpAny (model P w) A (getAttr? (.ref x) "__class__") Q E ⟨h, g, d, t, os⟩ := by
 have f3 := FB.ga.bind (.ref x)
 have e0 : (false && onTheHeap (Value.builtin "BaseException.__getattribute__")) = false := rfl
 have e2 : (Value.builtin "BaseException.__getattribute__" == Value.builtin "object.__getattribute__") = false := by decide +kernel
 have e1 : (onTheHeap (Value.ref C) && Value.builtin "BaseException.__getattribute__" == Value.builtin "object.__getattribute__") = false := by rw [e2]; rfl
 unfold getAttr? getAttrBy?
 repeat (any_goals (first
   | assumption
   | (with_reducible refine wpAny_loadPart_at hx ?_; rw [hc])
   | with_reducible refine Rds.go lg (fun _ _ z => z) ?_
   | with_reducible refine Rds.go lh (fun _ _ z => z) ?_
   | wp_step))
 refine codeAny_call_builtin FB.ga.plain PySem.F.entry_bexc_ga (get_check xc hx hc (cls_entry xc lc hx hc ?_))
 repeat (any_goals (first | assumption | wp_step))
end
end L3
namespace L2
open PySem PySem.Spec PyProof.Rows L3
def onlyVal : List Value → Bool
 | .ref _ :: r => onlyVal r
 | l => l == [.type "ValueError", .type "Exception", .type "BaseException", .type "object"]
theorem refuse_val (self : Value) {l : List Value} (e : onlyVal l = true) : refuseLoop self "__setattr__" l = pure () := by
 induction l with
 | nil => cases e
 | cons c r ih =>
   cases c with
   | ref a =>
     rw [refuseLoop_ref]
     exact ih e
   | type n =>
     rw [show Value.type n :: r = [.type "ValueError", .type "Exception", .type "BaseException", .type "object"] from beq_iff_eq.mp e]
     exact PySem.F.store_ValueError.passes self
   | _ => exact absurd (beq_iff_eq.mp e) (by simp)
def bmOf (K : PySem.W.Frag) (C : Addr) : List Value := match K.lookup C with
 | some ⟨_, _, .cls cd, _⟩ => cd.mro.tail
 | _ => []
def xclsIn (K : PySem.W.Frag) (C : Addr) : Bool := match K.lookup C with
 | some ⟨.type "type", _, .cls cd, sl⟩ => (match cd.mro, sl.toList with
   | .ref C' :: bm, [_, _, _, _, some (.builtin n), _] => C' == C && !cd.hasDel && cd.hasDict && n == "ValueError.__new__" && bm.contains (.type "ValueError") && bm.contains (.type "BaseException") && bm.contains (.type "object") && !bm.contains (.type "AttributeError") && !bm.contains (.type "NameError") && onlyVal bm
   | _, _ => false)
 | _ => false
theorem xc_of {K : PySem.W.Frag} {h : Heap} {C : Addr} (X : K.In h) (q : xclsIn K C = true) : XC h C (bmOf K C) ∧ onlyVal (bmOf K C) = true := by
 unfold xclsIn at q
 split at q
 · rename_i dd cd sl ho
   split at q
   · rename_i C' bm k0 k1 k2 k3 n k5 hm hs
     simp only [Bool.and_eq_true, beq_iff_eq, Bool.not_eq_true'] at q
     obtain ⟨⟨⟨⟨⟨⟨⟨⟨⟨rfl, hdel⟩, hhd⟩, rfl⟩, hv⟩, hb⟩, hob⟩, hA⟩, hN⟩, ho'⟩ := q
     have eb : bmOf K C' = bm := by
       unfold bmOf
       rw [ho]
       show cd.mro.tail = bm
       rw [hm]
       rfl
     obtain ⟨nm, bs, mro, ns, qn, hd, sn, sub, ab, col, del⟩ := cd
     dsimp only at hm hdel hhd
     subst hm hdel hhd
     have hsl : sl = #[k0, k1, k2, k3, some (.builtin "ValueError.__new__"), k5] := by
       obtain ⟨l⟩ := sl
       simp only at hs
       rw [hs]
     subst hsl
     rw [eb]
     exact ⟨⟨⟨nm, qn, ns, bs, sn, sub, ab, col, dd, k0, k1, k2, k3, k5, X _ _ ho⟩, hv, hb, hob, hA, hN⟩, ho'⟩
   · cases q
 · cases q
structure XCls (K : PySem.W.Frag) (C : Addr) : Prop where
 sh : xclsIn K C = true
 ga : PySem.W.findIn K (.ref C) "__getattribute__" = some (some (.builtin "BaseException.__getattribute__"))
 gh : PySem.W.findIn K (.ref C) "__getattr__" = some none
 sa : PySem.W.findIn K (.ref C) "__setattr__" = some (some (.builtin "object.__setattr__"))
 cl : PySem.W.findIn K (.ref C) "__class__" = some (some (.builtin "object.__class__"))
theorem rds_of {K : PySem.W.Frag} {M : Model} {h : Heap} {C : Addr} {name : Str} {r : Option Value} (X : K.In h) (e : PySem.W.findIn K (.ref C) name = some r) : Rds M h (typeLookup (.ref C) name) r := PySem.W.looks_findIn X e
theorem XCls.xc {K : PySem.W.Frag} {h : Heap} {C : Addr} (c : XCls K C) (X : K.In h) : XC h C (bmOf K C) := (xc_of X c.sh).1
theorem XCls.pass {K : PySem.W.Frag} {h : Heap} {C : Addr} (c : XCls K C) (X : K.In h) (self : Value) : refuseLoop self "__setattr__" (bmOf K C) = pure () := refuse_val self (xc_of X c.sh).2
section
variable {X : Cx} {pins : List (Addr × Obj)} {σ : St} {H : Hp} {s : Shared} {h' : Heap}
theorem aft {ch : List Addr} (I : Inv X pins σ H s) (a : Aft (frs X.stack) ch s.heap h') (hc : ∀ b ∈ ch, FpOk X pins H b) : Inv X pins σ H { s with heap := h' } := by
 have nS : ∀ b, b ≠ X.env.locals → b ∉ X.fs → b ∉ frs X.stack := fun b h1 h2 z => (List.mem_cons.mp (I.stkSub b z)).elim h1 h2
 refine I.step (g' := s.gens) (d' := s.drawn) (t' := s.toks) (ch := ch) (fun b hb => ?_) (fun b o h1 h2 h3 e _ => a.keep b o (nS b h1 h2) h3 e) (fun b o _ _ h3 e _ => a.slot b o h3 e) (fun _ _ _ _ n => n)
   (fun b o h3 e => ?_) (fun _ _ e => e) (fun _ _ _ e => e) (fun b ps e => ⟨#[], by rw [e]; simp⟩) (fun m hm => ?_) (fun b u e => ?_) I.bare
 · obtain ⟨_, f1, _, f3, f4, f5⟩ := hc b hb
   exact ⟨f3, f1, f4, f5⟩
 · obtain ⟨sl, q⟩ := a.slot b o h3 e
   exact ⟨_, q⟩
 · obtain ⟨o, es, ep, ho, r⟩ := hm
   obtain ⟨sl, q⟩ := a.slot _ o (fun z => (hc _ z).2.1 rfl) ho
   exact ⟨_, es, ep, q, r⟩
 · refine (I.hok b u e).stay (fun c v hb q => a.keep c v (fun z => ?_) (fun z => ?_) q) (fun _ q => q) fun _ _ q => q
   · rcases hb with rfl | hb
     · rw [I.stkFree c z] at e; cases e
     · rw [I.stkFree c z] at hb; cases hb
   · rcases hb with rfl | hb
     · rw [(hc c z).1] at e; cases e
     · rw [(hc c z).1] at hb; cases hb
theorem track {x : Addr} {o : HO} (I : Inv X pins σ H s) (f : FpOk X pins H x) (new : ObjOk X.prog X.w (upd H x o) s.heap x o) : Inv X pins σ (upd H x o) s := by
 obtain ⟨f0, f1, f2, f3, f4, f5⟩ := f
 have nx : ∀ b u, H b = some u → b ≠ x := fun b u e z => by rw [z, f0] at e; cases e
 refine ⟨I.ok, I.os, I.bare, ⟨I.base.keep, I.base.slot, fun b ob e n hx => ?_, I.base.there, fun b xs e => ?_, fun b ob u e => ?_, fun b ps e => ?_⟩, I.loc, I.cell, ?_, fun y c e => ?_, fun p hp => ?_, fun b u e => ?_, I.len⟩
 · have hb : b ≠ x := fun z => by
     rcases f3 with q | q
     · exact hx (z ▸ q)
     · exact absurd (Nat.lt_of_lt_of_le (Heap.lt_size e) (z ▸ q)) (Nat.lt_irrefl _)
   rw [uqn hb]
   exact I.base.free b ob e n hx
 · have q := I.base.tups b xs e
   rw [uqn (nx _ _ q)]
   exact q
 · have q := I.base.frzs b ob u e
   rw [uqn (nx _ _ q)]
   exact q
 · obtain ⟨more, q⟩ := I.base.tbls b ps e
   exact ⟨more, by rw [uqn (nx _ _ q)]; exact q⟩
 · rw [uqn (Ne.symm f1)]
   exact I.free
 · rw [uqn (f4 y c e)]
   exact I.freeC y c e
 · obtain ⟨e, n, ne, nf, d⟩ := I.pin p hp
   exact ⟨e, by rw [uqn (f5 p hp)]; exact n, ne, nf, d⟩
 · by_cases hb : b = x
   · subst hb
     rw [uqs] at e
     cases e
     exact new
   · rw [uqn hb] at e
     exact (I.hok b u e).stay (fun _ _ _ q => q) (fun c q => by rw [uqn (nx _ _ q)]; exact q) fun c xs q => by rw [uqn (nx _ _ q)]; exact q
end
structure ExIn (X : Cx) (pins : List (Addr × Obj)) (H : Hp) (s : Shared) (x : Addr) (C : Value) (dx : Option Addr) : Prop where
 own : FpOk X pins H x
 tr : Rec s.heap x C dx .none ∨ ∃ T fl, Rec s.heap x C dx (.ref T) ∧ T ≠ x ∧ Tra s.heap T fl ∧ FpOk X pins H T
def XeIs (X : Cx) (R : St → Prop) (Ek : XK) : Prop :=
 ∀ (pins : List (Addr × Obj)) (σ : St) (H : Hp) (s : Shared) (x : Addr) (C : Value) (dx : Option Addr), Inv X pins σ H s → R σ → ExIn X pins H s x C dx → Ek C dx H → X.xe (.ref x) s
def CX1 (P : Program) (w : World) : CXT := fun outer H s E e s' =>
 ∃ (x : Addr) (C : Value) (dx : Option Addr) (T : Addr) (H' : Hp), e = .ref x ∧ s'.os = s.os ∧ AllBare s'.gens ∧ Un (frs outer) [] H H' s.heap s'.heap ∧ HOk P w H' s'.heap ∧ (s.heap.objs.size ≤ x ∧ H' x = none) ∧ (s.heap.objs.size ≤ T ∧ H' T = none) ∧ T ≠ x ∧
   Rec s'.heap x C dx (.ref T) ∧ Tra s'.heap T .none ∧ E C dx H'
section
variable {X : Cx}
theorem pass1 {R : St → Prop} {E : XK} (hx : XeIs X R E) {pins : List (Addr × Obj)} {σ : St} {H : Hp} {s : Shared} {e : Value} {s' : Shared} (I : Inv X pins σ H s) (r : R σ) (h : CX1 X.prog X.w X.stack H s E e s') : X.xe e s' := by
 obtain ⟨x, C, dx, T, H', rfl, os, bare, un, hok, ⟨x1, x2⟩, ⟨t1, t2⟩, ne, rc, tr, q⟩ := h
 have I' : Inv X pins σ H' s' := I.call' os un hok bare (ch := []) (fun _ z => nomatch z)
 exact hx pins σ H' s' x C dx I' r ⟨I.fpOk x1 x2, .inr ⟨T, _, rc, ne, tr, I.fpOk t1 t2⟩⟩ q
end
theorem xe_def {P : Program} {w : World} {K : PySem.W.Frag} {mg : Str → Option Value} {base : Heap} {cm : Bool} {N : List Str} {qual : Str} {scope : Scope} {f : Addr} {cd : Value} {A : Around} {outer : List Env} {s : Shared} {H : Hp} {E : XK} :
   XeIs (cxOf (CX1 P w) cm P w K mg base N qual scope f cd A outer s H E) (fun _ => True) E := by
 intro pins σ H1 s1 x C dx I _ ex e
 show wpAny (model P w) (A.deeper (envOfC qual scope s.heap.objs.size f cd)) (leaving (envOfC qual scope s.heap.objs.size f cd) (.ref x)) (fun _ s2 => CX1 P w outer H s E (.ref x) s2) (fun e' s2 => CX1 P w outer H s E e' s2) s1
 have fin : ∀ (T : Addr) (h2 : Heap), Inv (cxOf (CX1 P w) cm P w K mg base N qual scope f cd A outer s H E) pins σ H1 { s1 with heap := h2 } → s.heap.objs.size ≤ T → H1 T = none → T ≠ x → Rec h2 x C dx (.ref T) → Tra h2 T .none → CX1 P w outer H s E (.ref x) { s1 with heap := h2 } := by
   intro T h2 J t1 t2 ne r t
   obtain ⟨f0, _, _, f3, _⟩ := ex.own
   have x1 : s.heap.objs.size ≤ x := f3.elim (fun z => absurd (show x ∈ ([] : List Addr) from z) (by simp)) id
   exact ⟨x, C, dx, T, H1, rfl, J.os, J.bare, J.base, J.hok, ⟨x1, f0⟩, ⟨t1, t2⟩, ne, r, t, e⟩
 unfold leaving
 rcases ex.tr with r | ⟨T0, fl0, r, ne0, t0, f0⟩
 · refine wpAny_bind (note_new I.ok.frames I.stack rfl r fun h' T a sz r' t' => ?_)
   have xT : T ≠ x := by
     obtain ⟨oe, _, he, _⟩ := r
     exact fun z => absurd (Nat.lt_of_lt_of_le (Heap.lt_size he) (z ▸ sz)) (Nat.lt_irrefl _)
   have hT := I.hok.fresh sz
   have I1 := aft I a (by intro b hb; have : b = x := by simpa using hb
                          subst this; exact ex.own)
   refine flight_none r' xT t' fun h2 a2 r2 t2 => ?_
   have I2 := aft (h' := h2) I1 (a2.mono (by simp) fun _ z => z) (by intro b hb; have : b = T := by simpa using hb
                                                                     subst this; exact I.fpOk sz hT)
   exact fin T h2 I2 (Nat.le_trans I.sz sz) hT xT r2 t2
 · refine wpAny_bind (note_any I.ok.frames I.stack rfl r ne0 t0 fun h' T fl' a sz r' t' => ?_)
   have xT : T ≠ x := by
     obtain ⟨oe, _, he, _⟩ := r
     rcases sz with z0 | z0
     · rw [z0]; exact ne0
     · exact fun z => absurd (Nat.lt_of_lt_of_le (Heap.lt_size he) (z ▸ z0)) (Nat.lt_irrefl _)
   have fT : FpOk (cxOf (CX1 P w) cm P w K mg base N qual scope f cd A outer s H E) pins H1 T := by
     rcases sz with z0 | z0
     · rw [z0]; exact f0
     · exact I.fpOk z0 (I.hok.fresh z0)
   have I1 := aft I a (by intro b hb
                          rcases (show b = x ∨ b = T0 by simpa using hb) with z | z
                          · subst z; exact ex.own
                          · subst z; exact f0)
   refine flight_none r' xT t' fun h2 a2 r2 t2 => ?_
   have I2 := aft (h' := h2) I1 (a2.mono (by simp) fun _ z => z) (by intro b hb; have : b = T := by simpa using hb
                                                                     subst this; exact fT)
   obtain ⟨g0, _, _, g3, _⟩ := fT
   exact fin T h2 I2 (g3.elim (fun z => absurd (show T ∈ ([] : List Addr) from z) (by simp)) id) g0 xT r2 t2
end L2
namespace L2
open PySem PySem.Spec PyProof.Rows L3
def tRaise (R : St → Prop) (C : Value) (ta : TA) (Ek : XK) : TS := fun _ σ H => ta σ H fun vs H1 => vs.length ≤ sizeLine ∧ R σ ∧ Ek C none H1
section
variable {X : Cx} {x : Str} {C : Addr} {np cpos pos : Pos} {e : Expr} {es : List Expr} {ta : TA} {R : St → Prop} {Ek : XK}
theorem ps_raise0 (hc : X.calm = true) (hxe : XeIs X R Ek) (hg : Gl X x) (hm : X.mg x = some (.ref C)) (T : XCls X.K C) (hi : PySem.W.findIn X.K (.ref C) "__init__" = some (some (.builtin "ValueError.__init__"))) (ha : PA X (e :: es) ta)
   (hdb : (x == ("__debug__" : Str)) = false := by decide) (he : starEach (e :: es) X.env = (false, eval e X.env) :: starEach es X.env := by rfl) (hpl : (backTo cpos (starEach (e :: es) X.env)).any (·.1) = false := by rfl) :
   PS X (.Raise (some (.Call (.Name x np) (e :: es) [] cpos)) none pos) (tRaise R (.ref C) ta Ek) := by
 intro pins s σ H D I h
 refine raise_call (C := C) (bm := bmOf X.K C) (iv := .builtin "ValueError.__init__") (I.ok.hd hc) hpl (ld_glob I hg hm ⟨rfl, ?_⟩ hdb)
 have hb : backTo cpos (starEach (e :: es) X.env) = (false, eval e X.env) :: backTo cpos (starEach es X.env) := by rw [he]; rfl
 rw [hb]
 refine Calls.evalArgs_plain ?_
 rw [← hb]
 refine thn (ha cpos pins s σ H _ I h) fun us s1 ⟨vs, H1, I1, r, hl, hR, hE⟩ => ?_
 have hlen : us.length ≤ sizeLine := by rw [← r.length]; exact hl
 refine ⟨rfl, hlen, T.xc I1.kIn, rds_of I1.kIn hi, fun h' x' hm' hs' => ?_⟩
 obtain ⟨hp, g, d, t, os⟩ := s1
 have KX : X.K.In h' := I1.kIn.keeps hm'.keeps
 refine plain_init (bm := bmOf X.K C) hm' (T.xc KX) hlen fun h2 hm2 k2 => ?_
 have KX2 : X.K.In h2 := I1.kIn.keeps k2
 obtain ⟨tt, hx2, htn, ht⟩ := hm2.there
 have I2 : Inv X pins σ H1 ⟨h2, g, d, t, os⟩ := I1.kept (t' := t) k2
 exact ⟨T.xc KX2, ⟨none, tt, hx2⟩, hxe pins σ H1 _ x' (.ref C) none I2 hR ⟨I1.fpOk hs' (I1.hok.fresh hs'), .inl ⟨_, _, hx2, rfl, rfl, rfl, rfl⟩⟩ hE⟩
end
def tCallR (R : St → Prop) (sp : Sp) (dvs : List V) (E : XK) (t : TA) : TE := fun σ H Q => t σ H fun vs H1 => R σ ∧ sp (vs ++ dvs) H1 Q E
def tMethR (R : St → Prop) (C : Addr) (m : Str) (sp : Sp) (dvs : List V) (E : XK) (ta : TE) (t : TA) : TE := fun σ H Q => ta σ H fun x H1 => ∃ a dx fs, x = .ref a ∧ H1 a = some (.ins C dx fs) ∧ fs.lookup m = none ∧
 t σ H1 fun vs H2 => R σ ∧ sp (x :: (vs ++ dvs)) H2 Q E
section
variable {X : Cx} {cm : Bool} {k : Nat} {f C : Addr} {fd : FuncData} {ps : List Str} {sp : Sp} {dvs : List V} {ds : List Value} {E : XK} {R : St → Prop} {x m : Str} {p pos apos : Pos} {e o : Expr} {es : List Expr} {ta : TE} {t : TA}
theorem run_fnR {pins : List (Addr × Obj)} {σ : St} {H : Hp} {s : Shared} {Q : VK} {us : List Value} {vs : List V} (F : FnOk X.prog X.w X.K X.mg X.base (CX1 X.prog X.w) cm k f fd ps sp) (hr : Room cm k X.A) (hb : Binds X.K fd ps ds) (hd : Vals dvs ds) (hx : XeIs X R E)
   (I : Inv X pins σ H s) (r : Vals vs us) (hR : R σ) (h : sp (vs ++ dvs) H Q E) : wpAny (model X.prog X.w) X.A (call (.ref f) us) (EP X pins σ Q) X.xe s := by
 have r2 : Vals (vs ++ dvs) (us ++ ds) := r.append hd
 have hl : (us ++ ds).length = ps.length := by rw [← r2.length]; exact F.len _ _ _ _ h
 refine wpAny_call (codeAny_mono (F.run X.A X.stack s H ⟨us, []⟩ (us ++ ds) (vs ++ dvs) Q E hr I.env0 (hb s us I.kIn hl) r2 h) fun r s' hq => ?_)
 cases r with
 | error e => exact pass1 hx I hR hq
 | ok fl =>
   cases fl with
   | ret u => exact I.after hq
   | next => exact False.elim hq
   | brk => exact False.elim hq
   | cont => exact False.elim hq
theorem pe_callR (F : FnOk X.prog X.w X.K X.mg X.base (CX1 X.prog X.w) cm k f fd ps sp) (hr : Room cm k X.A) (hg : Gl X x) (hm : X.mg x = some (.ref f)) (hk : PySem.W.keepIn X.K (.ref f) = true) (hb : Binds X.K fd ps ds) (hd : Vals dvs ds) (hx : XeIs X R E)
   (ha : PA X (e :: es) t) (hdb : (x == ("__debug__" : Str)) = false := by decide) (he : starEach (e :: es) X.env = (false, eval e X.env) :: starEach es X.env := by rfl) (hpl : (backTo pos (starEach es X.env)).any (·.1) = false := by rfl) :
   PE X (.Call (.Name x p) (e :: es) [] pos) (tCallR R sp dvs E t) := by
 intro pins s σ H Q I h
 refine wpAny_Call_Name_kw (ld_glob I hg hm ?_ hdb)
 refine PySem.W.callWith_K (h₀ := X.base) I.ok.mod.kin hk (thn (ha pos pins s σ H _ I h) fun us s1 ⟨vs, H1, I1, r, hR, q⟩ => ⟨I1.kIn, ?_⟩) he hpl
 exact run_fnR F hr hb hd hx I1 r hR q
theorem pe_methR {pl : Sem Bool} (he : PE X o ta) (c : Cls X.K C) (hm : Meth X.K C m f) (F : FnOk X.prog X.w X.K X.mg X.base (CX1 X.prog X.w) cm k f fd ps sp) (hr : Room cm k X.A) (hb : Binds X.K fd ps ds) (hd : Vals dvs ds) (hx : XeIs X R E) (ha : PA X (e :: es) t)
   (hst : starEach (e :: es) X.env = (false, eval e X.env) :: starEach es X.env := by rfl) (hpl : (backTo pos (starEach es X.env)).any (·.1) = false := by rfl)
   (ht : eval (.Call (.Attribute o m apos) (e :: es) [] pos) X.env = (do
     let ov ← eval o X.env
     standAt apos.atName
     let (f, first) ← holding [ov] (getMethod ov m pl)
     callWith pos f first (backTo pos (starEach (e :: es) X.env)) (backToKw pos (keywordEach [] X.env))) := by rfl) :
   PE X (.Call (.Attribute o m apos) (e :: es) [] pos) (tMethR R C m sp dvs E ta t) := by
 intro pins s σ H Q I h
 refine PySem.W.methodCall_KW (pl := pl) (thn (he pins s σ H _ I h) fun u s1 ⟨x, H1, I1, rx, a, dx, fs, ex, ea, l, q⟩ => ?_) ht
 subst ex
 obtain rfl : u = Value.ref a := rx
 refine getmeth_ok I1 ea c hm l ?_
 refine PySem.W.callWith_K (first := [.ref a]) (h₀ := X.base) I.ok.mod.kin hm.kp (thn (ha pos pins s1 σ H1 _ I1 q) fun us s2 ⟨vs, H2, I2, r, hR, q2⟩ => ⟨I2.kIn, ?_⟩) hst hpl
 exact run_fnR (us := .ref a :: us) (vs := .ref a :: vs) F hr hb hd hx I2 (.cons rfl r) hR q2
end
structure FunD (K : PySem.W.Frag) (x qual : Str) (st : Stmt) (f : Addr) (fd : FuncData) (dV : Value) : Prop where
 ex : ∃ (oc : Value) (od : Option Addr) (kV doc pm : Value) (an : Option Addr) (cdv ct : Value) (osl : Array (Option Value)),
   fd = PySem.W.fnOf x qual (defArgs st) (defBody st) (defScope st) dV kV doc pm an cdv ct ∧ K.lookup f = some ⟨oc, od, .func fd, osl⟩ ∧ PySem.W.codeIn K cdv qual = true
 kp : PySem.W.keepIn K (.ref f) = true
section
variable {P : Program} {w : World} {K : PySem.W.Frag} {mg : Str → Option Value} {base : Heap} {cm : Bool}
theorem FunD.okX {x qual : Str} {st : Stmt} {f : Addr} {fd : FuncData} {dV : Value} {N ps : List Str} {k : Nat} {sp : Sp} (F : FunD K x qual st f fd dV) (S : FnScope N ps (defScope st)) (len : ∀ vs H Q E, sp vs H Q E → vs.length = ps.length)
   (hbody : ∀ (cdv : Value) (A : Around) (outer : List Env) (s : Shared) (H : Hp) (vs : List V) (Q : VK) (E : XK), Room cm k (A.deeper (envOfC qual (defScope st) s.heap.objs.size f cdv)) → sp vs H Q E →
     ∃ t, PSs (cxOf (CX1 P w) cm P w K mg base N qual (defScope st) f cdv A outer s H E) (defBody st) t ∧ t { nx := fun _ H' => Q .non H', rt := Q } (start N vs) H) : FnOk P w K mg base (CX1 P w) cm (k + 1) f fd ps sp := by
 obtain ⟨oc, od, kV, doc, pm, an, cdv, ct, osl, rfl, lk, hcd⟩ := F.ex
 exact fn_of lk hcd S len fun A outer s H vs Q E hr hsp => hbody cdv A outer s H vs Q E hr hsp
theorem FunD.ok {x qual : Str} {st : Stmt} {f : Addr} {fd : FuncData} {dV : Value} {N ps : List Str} {k : Nat} {sp : Sp} (F : FunD K x qual st f fd dV) (S : FnScope N ps (defScope st)) (len : ∀ vs H Q E, sp vs H Q E → vs.length = ps.length)
   (hbody : ∀ (cdv : Value) (A : Around) (outer : List Env) (s : Shared) (H : Hp) (vs : List V) (Q : VK) (E : XK), Room cm k (A.deeper (envOfC qual (defScope st) s.heap.objs.size f cdv)) → sp vs H Q E →
     ∃ t, PSs (cxOf CX0 cm P w K mg base N qual (defScope st) f cdv A outer s H E).nox (defBody st) t ∧ t { nx := fun _ H' => Q .non H', rt := Q } (start N vs) H) : FnOk P w K mg base CX0 cm (k + 1) f fd ps sp := by
 obtain ⟨oc, od, kV, doc, pm, an, cdv, ct, osl, rfl, lk, hcd⟩ := F.ex
 refine fn_of lk hcd S len fun A outer s H vs Q E hr hsp => ?_
 obtain ⟨t, h, q⟩ := hbody cdv A outer s H vs Q E hr hsp
 exact ⟨t, h.nox, q⟩
theorem FunD.binds {x qual : Str} {st : Stmt} {f : Addr} {fd : FuncData} {dV : Value} {ps : List Str} (F : FunD K x qual st f fd dV)
   (h : ∀ (kV doc pm : Value) (an : Option Addr) (cdv ct : Value) (us : List Value), us.length = ps.length → bindArgs (PySem.W.fnOf x qual (defArgs st) (defBody st) (defScope st) dV kV doc pm an cdv ct) ⟨us, []⟩ = pure (ps.zip us)) : Binds K fd ps [] := by
 obtain ⟨oc, od, kV, doc, pm, an, cdv, ct, osl, rfl, lk, hcd⟩ := F.ex
 exact .all (h kV doc pm an cdv ct)
theorem funD_mk {x qual : Str} {st : Stmt} {f : Addr} {oc dV : Value} {od an : Option Addr} {osl : Array (Option Value)} {kV doc pm cdv ct : Value} (l : K.lookup f = some ⟨oc, od, .func (PySem.W.fnOf x qual (defArgs st) (defBody st) (defScope st) dV kV doc pm an cdv ct), osl⟩)
   (c : PySem.W.codeIn K cdv qual = true) (k : PySem.W.keepIn K (.ref f) = true) : FunD K x qual st f (PySem.W.fnOf x qual (defArgs st) (defBody st) (defScope st) dV kV doc pm an cdv ct) dV := ⟨⟨oc, od, kV, doc, pm, an, cdv, ct, osl, rfl, l, c⟩, k⟩
end
end L2
namespace L2
open PySem PySem.Spec PyProof.Rows L3
abbrev into (X : Cx) (pn : List (Addr × Obj)) (E : Value → Shared → Prop) : Cx := { X with pn := pn, xe := E }
abbrev sup (X : Cx) (x : Addr) : Cx := { X with A := X.A.mark (some (.ref x)), calm := false, xe := fun _ _ => False }
def excO (x : Addr) (C : Value) (dx : Option Addr) : HO := .ext fun h => ∃ o vs, h.get? x = some o ∧ o.cls = C ∧ o.dict = dx ∧ o.data = .fields vs
theorem excO_ok {P : Program} {w : World} {H : Hp} {h : Heap} {x : Addr} {C : Value} {dx : Option Addr} {tb : Value} (r : Rec h x C dx tb) : ObjOk P w H h x (excO x C dx) := by
 obtain ⟨oe, vs, he, hc, hd, hf, _⟩ := r
 refine ⟨⟨oe, vs, he, hc, hd, hf⟩, ⟨oe, he⟩, fun h1 h2 z k => ?_⟩
 obtain ⟨o, vs, e, q⟩ := z
 exact ⟨o, vs, k o e, q⟩
theorem excO_get {P : Program} {w : World} {H : Hp} {h : Heap} {x : Addr} {C : Value} {dx : Option Addr} (hok : HOk P w H h) (e : H x = some (excO x C dx)) : ∃ o vs, h.get? x = some o ∧ o.cls = C ∧ o.dict = dx ∧ o.data = .fields vs := by
 obtain ⟨q, _⟩ := (show ObjOk P w H h x (excO x C dx) from hok x _ e)
 exact q
section
variable {X : Cx} {pins pins' : List (Addr × Obj)} {σ : St} {H : Hp} {s : Shared} {E : Value → Shared → Prop} {D : Ends}
theorem ok_into (ok : X.Ok) (pn : List (Addr × Obj)) (E : Value → Shared → Prop) : (into X pn E).Ok :=
 ⟨ok.mod, ok.kind, ok.glob, ok.blt, ok.above, ok.inj, ok.has, ok.cab, ok.hd, ok.frames, ok.stk, ok.exf, ok.bs, ok.bsz, ok.noex, ok.exfs, ok.funs, ok.frf⟩
theorem ok_outof {pn : List (Addr × Obj)} (ok : (into X pn E).Ok) : X.Ok :=
 ⟨ok.mod, ok.kind, ok.glob, ok.blt, ok.above, ok.inj, ok.has, ok.cab, ok.hd, ok.frames, ok.stk, ok.exf, ok.bs, ok.bsz, ok.noex, ok.exfs, ok.funs, ok.frf⟩
theorem inv_into (I : Inv X pins σ H s) (E : Value → Shared → Prop) : Inv (into X (X.pn ++ pins) E) [] σ H s :=
 ⟨ok_into I.ok _ E, I.os, I.bare, I.base, I.loc, I.cell, I.free, I.freeC, fun p hp => I.pin p (by simpa using hp), I.hok, I.len⟩
theorem inv_outof (I : Inv (into X (X.pn ++ pins) E) pins' σ H s) : Inv X pins σ H s :=
 ⟨ok_outof I.ok, I.os, I.bare, I.base, I.loc, I.cell, I.free, I.freeC, fun p hp => I.pin p (List.mem_append_left _ hp), I.hok, I.len⟩
theorem ok_sup (ok : X.Ok) (x : Addr) : (sup X x).Ok :=
 ⟨ok.mod, ok.kind, ok.glob, ok.blt, ok.above, ok.inj, ok.has, ok.cab, fun z => (by cases z), ok.frames, ok.stk, ok.exf, ok.bs, ok.bsz, ok.noex, ok.exfs, ok.funs, ok.frf⟩
theorem inv_sup (I : Inv X pins σ H s) (x : Addr) : Inv (sup X x) pins σ H s := ⟨ok_sup I.ok x, I.os, I.bare, I.base, I.loc, I.cell, I.free, I.freeC, I.pin, I.hok, I.len⟩
theorem inv_unsup {x : Addr} (ok : X.Ok) (I : Inv (sup X x) pins σ H s) : Inv X pins σ H s := ⟨ok, I.os, I.bare, I.base, I.loc, I.cell, I.free, I.freeC, I.pin, I.hok, I.len⟩
theorem sp_outof {f : Flow} {s' : Shared} (h : SP (into X (X.pn ++ pins) E) [] D f s') : SP X pins D f s' := by
 cases f with
 | next => obtain ⟨σ', H', I, q⟩ := h; exact ⟨σ', H', inv_outof I, q⟩
 | brk => obtain ⟨σ', H', I, q⟩ := h; exact ⟨σ', H', inv_outof I, q⟩
 | cont => obtain ⟨σ', H', I, q⟩ := h; exact ⟨σ', H', inv_outof I, q⟩
 | ret u => obtain ⟨v, σ', H', I, r, q⟩ := h; exact ⟨v, σ', H', inv_outof I, r, q⟩
theorem fp_outof {b : Addr} (f : FpOk (into X (X.pn ++ pins) E) pins' H b) : FpOk X pins H b := by
 obtain ⟨f0, f1, f2, f3, f4, f5⟩ := f
 exact ⟨f0, f1, f2, f3, f4, fun p hp => f5 p (List.mem_append_left _ hp)⟩
theorem unbind_ok {M : Model} {A : Around} {i : Nat} {n : Str} {pos : Pos} {Q : Unit → Shared → Prop} (I : Inv X pins σ H s) (hN : X.N.Nodup) (hi : X.N[i]? = some n) (hl : X.env.scope.names.lookup n = some .local)
   (h : ∀ s', Inv X pins (σ.set i none) H s' → Q () s') : wpAny M A (do bindName X.env n .none; unbindBehindTheSuite X.env n pos) Q E s := by
 obtain ⟨m, hn, hlk⟩ := id I.loc
 have hcls : (X.env.scope.kind == .class || (X.env.scope.kind == .module && X.env.locals != X.env.globals)) = false := by rw [I.ok.kind]; rfl
 obtain ⟨oL, _, _, hoL, _⟩ := id hn
 have lt : ∀ b o, X.s₀.heap.get? b = some o → b ≠ X.env.locals := fun b o e => Nat.ne_of_lt (Nat.lt_of_lt_of_le (Heap.lt_size e) I.ok.above)
 refine wpAny_nameGoes_keeps hl hn hcls fun h' v hn' hs => h _ ⟨I.ok, I.os, I.bare, ⟨fun b o e n hb hx => ?_, fun b o e n hb hx => ?_, I.base.free, fun b o e hx => ?_, I.base.tups, I.base.frzs, I.base.tbls⟩, ⟨_, hn', fun j y v' e1 e2 e3 => ?_⟩, fun y c e => ?_, I.free, I.freeC, fun p hp => ?_, fun b u e => ?_, by simpa using I.len⟩
 · exact (hs.2 b (lt b o e)).trans (I.base.keep b o e n hb hx)
 · obtain ⟨sl, e1⟩ := I.base.slot b o e n hb hx
   exact ⟨sl, (hs.2 b (lt b o e)).trans e1⟩
 · obtain ⟨o', e1⟩ := I.base.there b o e hx
   exact ⟨o', (hs.2 b (lt b o e)).trans e1⟩
 · by_cases hj : j = i
   · subst hj
     have hiσ : j < σ.length := by rw [I.len]; exact (List.getElem?_eq_some_iff.mp hi).1
     rw [List.getElem?_set_self hiσ] at e2
     cases e2
   · rw [List.getElem?_set_ne (Ne.symm hj)] at e2
     obtain ⟨u', r', q⟩ := hlk j y v' e1 e2 e3
     refine ⟨u', r', ?_⟩
     rcases q with ⟨k, e⟩ | ⟨k, c, e, z⟩
     · refine .inl ⟨k, ?_⟩
       have : y ≠ n := fun e => hj (nodup_ix hN e1 (e ▸ hi))
       simp [this, e]
     · exact .inr ⟨k, c, e, z.sameBut hs (I.cne y c e)⟩
 · obtain ⟨w', z⟩ := I.cell y c e
   exact ⟨w', z.sameBut hs (I.cne y c e)⟩
 · obtain ⟨e, n, ne, nf, d⟩ := I.pin p hp
   exact ⟨(hs.2 p.1 ne).trans e, n, ne, nf, d⟩
 · refine (I.hok b u e).stay (fun c w' hc q => (hs.2 c ?_).trans q) (fun _ q => q) fun _ _ q => q
   rintro rfl
   rcases hc with rfl | hc
   · rw [I.free] at e; cases e
   · rw [I.free] at hc; cases hc
end
section
variable {X : Cx}
end
end L2
namespace L2
open PySem PySem.Spec PyProof.Rows L3
theorem kitx_exc {K : PySem.W.Frag} {x C : Addr} (T : XCls K C) : PySem.W.KitX K (.ref x) (.ref C) (fun h => ∃ o, h.get? x = some o ∧ o.cls = .ref C) where
 ty := fun M h _ p => by
   obtain ⟨o, e, c⟩ := p
   exact c ▸ (PySem.W.Looks.ld e).andThen .now
 it := fun M h X _ => by
   obtain ⟨⟨nm, q, N, bs, sn, sub, ab, col, dd, k0, k1, k2, k3, k5, cC⟩, _⟩ := T.xc X
   intro A Q E s k z
   unfold isType loadHead
   exact wpAny_bind (wpAny_loadPart (k _ _ cC) (wpAny_pure z))
 ne := fun h tp dd its n sl X htp => by
   obtain ⟨⟨nm, q, N, bs, sn, sub, ab, col, dd', k0, k1, k2, k3, k5, cC⟩, _⟩ := T.xc X
   refine Bool.eq_false_iff.mpr fun z => ?_
   have e : C = tp := Value.ref.inj (beq_iff_eq.mp z)
   subst e
   rw [cC] at htp
   have z2 := congrArg Obj.data (Option.some.inj htp)
   cases z2
 ca := fun {P w A E Q s} X p k => by
   obtain ⟨o, e, c⟩ := p
   obtain ⟨h, g, d, t, os⟩ := s
   exact cls_attr PySem.F.excAttr_ValueError (T.xc X) (rds_of X T.ga) (rds_of X T.gh) (rds_of X T.cl) e c k
inductive TyX (K : PySem.W.Frag) (H : Hp) : V → Value → Prop where
 | of {x : V} {t : Value} (e : TyOf K H x t) : TyX K H x t
 | exc {a C : Addr} {dx : Option Addr} (e : H a = some (excO a (.ref C) dx)) (T : XCls K C) : TyX K H (.ref a) (.ref C)
def clsV : V → Option Value
 | .ty n => some (.type n)
 | .ref a => some (.ref a)
 | _ => none
theorem clsV_is {c : V} {u t : Value} (e : clsV c = some u) (r : RelV c t) : t = u := by
 cases c with
 | ty n => cases e; exact r
 | ref a => cases e; exact r
 | _ => cases e
def rIs (K : PySem.W.Frag) : List V → Hp → VK → Prop := fun xs H Q => ∃ x c t u b, xs = [x, c] ∧ TyX K H x t ∧ clsV c = some u ∧ PySem.W.kitOne K t u = some b ∧ Q (.bl b) H
section
variable {X : Cx}
theorem call_is : CallR X (.builtin "isinstance") (rIs X.K) := by
 intro pins s σ H xs us Q I r h
 obtain ⟨x, c, t, u, b, rfl, ty, hc, e, q⟩ := h
 cases r with
 | cons r1 r2 =>
   cases r2 with
   | cons r2 r3 =>
     cases r3
     rename_i v1 v2
     rw [clsV_is hc r2]
     cases ty with
     | of ty => exact isinst_ok I r1 ty e fun tk => ⟨.bl b, H, I.tok _, rfl, q⟩
     | @exc a C dx ea T =>
       cases (show v1 = Value.ref a from r1)
       obtain ⟨o, vs, e1, e2, _⟩ := excO_get I.hok ea
       exact PySem.W.kia_one (kitx_exc T) I.kIn ⟨o, e1, e2⟩ e (fun z => nomatch z) fun tk => ⟨.bl b, H, I.tok _, rfl, q⟩
end
def tFldX (K : PySem.W.Frag) (ta : TE) (f : Str) : TE := fun σ H Q => ta σ H fun x H1 => ∃ a C dx fs v, x = .ref a ∧ H1 a = some (excO a (.ref C) (some dx)) ∧ H1 dx = some (.xd fs) ∧ XCls K C ∧ NoAttr K C f ∧ fs.lookup f = some v ∧ Q v H1
section
variable {X : Cx} {e : Expr} {f : Str} {pos : Pos} {ta : TE}
theorem pe_fldX (he : PE X e ta) (hb : attributeBase e f X.env (eval e X.env) = eval e X.env) : PE X (.Attribute e f pos) (tFldX X.K ta f) := by
 intro pins s σ H Q I h
 refine attr_of hb (thn (he pins s σ H _ I h) fun u s1 ⟨x, H1, I1, rx, a, C, dx, fs, v, ex, ea, ed, T, n, l, q⟩ => ?_)
 subst ex
 obtain rfl : u = Value.ref a := rx
 obtain ⟨o, vs, e1, e2, e3, e4⟩ := excO_get I1.hok ea
 obtain ⟨mA, hn, rel⟩ := (show ObjOk X.prog X.w H1 s1.heap dx (.xd fs) from I1.hok dx _ ed)
 obtain ⟨w', hw, rw'⟩ := RelO.some_of (v := v) (o := mA f) (by rw [← l]; exact rel f)
 obtain ⟨hp, g, d, t, os⟩ := s1
 exact get_attr PySem.F.excAttr_ValueError (T.xc I1.kIn) (rds_of I1.kIn T.ga) (rds_of I1.kIn T.gh) (rds_of I1.kIn n) e1 e2 e4 e3 hn hw (PySem.W.handedOut_of (handed_of rw')) ⟨v, H1, I1.tok _, rw', q⟩
end
end L2
namespace L2
open PySem PySem.Spec PyProof.Rows L3
def bareO (x : Addr) (C : Value) (dx : Option Addr) : HO := .ext fun h => ∃ t, h.get? x = some { cls := C, dict := dx, data := .fields #[.ref t, .none, .none, .none, .bool false, .none] }
theorem bareO_ok {P : Program} {w : World} {H : Hp} {h : Heap} {x t : Addr} {C : Value} {dx : Option Addr} (e : h.get? x = some { cls := C, dict := dx, data := .fields #[.ref t, .none, .none, .none, .bool false, .none] }) : ObjOk P w H h x (bareO x C dx) :=
 ⟨⟨t, e⟩, ⟨_, e⟩, fun h1 h2 ⟨t', z⟩ k => ⟨t', k _ z⟩⟩
theorem bareO_get {P : Program} {w : World} {H : Hp} {h : Heap} {x : Addr} {C : Value} {dx : Option Addr} (hok : HOk P w H h) (e : H x = some (bareO x C dx)) : ∃ t, h.get? x = some { cls := C, dict := dx, data := .fields #[.ref t, .none, .none, .none, .bool false, .none] } :=
 (show ObjOk P w H h x (bareO x C dx) from hok x _ e).1
theorem within_xd {fs : List (Str × V)} {mA : Str → Option Value} (rel : ∀ f, RelO (fs.lookup f) (mA f)) : PySem.Within mA (fs.map (·.1)) := fun g hg => by
 cases q : fs.lookup g with
 | none => exact absurd (RelO.none_of (by rw [← q]; exact rel g)) hg
 | some v => exact List.mem_map.mpr ⟨(g, v), PySem.mem_of_lookup q, rfl⟩
theorem rel_put {fs : List (Str × V)} {mA : Str → Option Value} {f : Str} {y : V} {u : Value} (rel : ∀ g, RelO (fs.lookup g) (mA g)) (ry : RelV y u) (g : Str) : RelO ((putF f y fs).lookup g) (if g = f then some u else mA g) := by
 rw [lookup_putF]
 by_cases q : g = f
 · rw [if_pos q, if_pos q]; exact ry
 · rw [if_neg q, if_neg q]; exact rel g
section
variable {X : Cx} {pins : List (Addr × Obj)} {σ : St} {H : Hp} {s : Shared} {A : Around} {E : Value → Shared → Prop} {a C : Addr} {f : Str} {y : V} {u : Value} {Q : Unit → Shared → Prop}
theorem setb_new (I : Inv X pins σ H s) (ea : H a = some (bareO a (.ref C) none)) (T : XCls X.K C) (n : NoAttr X.K C f) (ry : RelV y u)
   (h : ∀ d s', H d = none → d ≠ a → Inv X pins σ (upd (upd H d (.xd (putF f y []))) a (bareO a (.ref C) (some d))) s' → Q () s') : wpAny (model X.prog X.w) A (setAttr (.ref a) f u) Q E s := by
 obtain ⟨t, e0⟩ := bareO_get I.hok ea
 obtain ⟨hp, g, dr, tk, os⟩ := s
 have KX := I.kIn
 refine set_attr (mA := fun _ => none) (ns := []) PySem.F.store_ValueError (T.xc KX) (T.pass KX) (rds_of KX T.sa) (rds_of KX n) ⟨_, e0, rfl, (fun c z => nomatch z), .inl ⟨rfl, fun _ => rfl⟩⟩ (fun g hg => absurd rfl hg) (Nat.zero_le _) fun h' tk' st => ?_
 obtain ⟨⟨o', i1, i2, i3, i4⟩, keep, same, newd⟩ := st
 obtain ⟨o1, s1, s2, s3, s4, _⟩ := same _ e0
 obtain ⟨o2, n1, n2⟩ := newd _ e0 rfl
 have q1 : o2 = o1 := Option.some.inj (n1.symm.trans s1)
 have q2 : o' = o1 := Option.some.inj (i1.symm.trans s1)
 rw [q1] at n2
 rw [q2] at i4
 have hne : hp.objs.size ≠ a := Nat.ne_of_gt (Heap.lt_size e0)
 have hd : H hp.objs.size = none := I.hok.fresh (Nat.le_refl _)
 rcases i4 with ⟨z, _⟩ | ⟨d', z, z2, ns⟩
 · rw [n2] at z; cases z
 · rw [n2] at z
   cases z
   have e1 : h'.get? a = some { cls := .ref C, dict := some hp.objs.size, data := .fields #[.ref t, .none, .none, .none, .bool false, .none] } := by
     rw [s1]
     obtain ⟨oc, od, odt, osl⟩ := o1
     dsimp only at s2 s3 s4 n2
     subst s2 s3 s4 n2
     rfl
   have kp : ∀ b o, b ≠ a → hp.get? b = some o → h'.get? b = some o := fun b o hb e => keep b o hb (fun o0 dx q1 q2 => by rw [e0] at q1; cases q1; cases q2) e
   refine h hp.objs.size _ hd hne (I.step (g' := g) (d' := dr) (t' := tk') (ch := []) (fun _ z => nomatch z) (fun b o _ _ _ e nb => kp b o (fun z => by rw [z, ea] at nb; cases nb) e) (fun b o _ _ _ e nb => ⟨o.slots, kp b o (fun z => by rw [z, ea] at nb; cases nb) e⟩)
     (fun b o _ e nb => ?_) (fun b o _ e => ?_) (fun b xs e => ?_) (fun b o v e => ?_) (fun b ps e => ?_) (fun m hm => ?_) (fun b v e => ?_) I.bare)
   · rw [uqn (fun z => by rw [z, ea] at nb; cases nb), uqn (Nat.ne_of_lt (Heap.lt_size e))]
     exact nb
   · by_cases hb : b = a
     · exact ⟨_, hb ▸ e1⟩
     · exact ⟨o, kp b o hb e⟩
   · rw [uqn (fun z => by rw [z, ea] at e; cases e), uqn (nqn e hd)]
     exact e
   · rw [uqn (fun z => by rw [z, ea] at e; cases e), uqn (nqn e hd)]
     exact e
   · exact ⟨#[], by rw [uqn (fun z => by rw [z, ea] at e; cases e), uqn (nqn e hd), e]; simp⟩
   · obtain ⟨o, es, ep, ho, r⟩ := hm
     exact ⟨o, es, ep, kp _ o (fun z => by have q := I.free; rw [z, ea] at q; cases q) ho, r⟩
   · by_cases hb : b = a
     · subst hb
       rw [uqs] at e
       cases e
       exact bareO_ok e1
     · rw [uqn hb] at e
       by_cases hb2 : b = hp.objs.size
       · subst hb2
         rw [uqs] at e
         cases e
         exact ⟨_, ns, fun g => rel_put (fs := []) (mA := fun _ => none) (fun _ => True.intro) ry g⟩
       · rw [uqn hb2] at e
         refine (I.hok b v e).stay (fun c o hc q => kp c o (fun z => ?_) q) (fun c q => ?_) fun c xs q => ?_
         · rcases hc with rfl | hc
           · exact hb z
           · rw [z, ea] at hc; cases hc
         · rw [uqn (fun z => by rw [z, ea] at q; cases q), uqn (nqn q hd)]; exact q
         · rw [uqn (fun z => by rw [z, ea] at q; cases q), uqn (nqn q hd)]; exact q
theorem setb_more {d : Addr} {fs : List (Str × V)} (I : Inv X pins σ H s) (ea : H a = some (bareO a (.ref C) (some d))) (ed : H d = some (.xd fs)) (T : XCls X.K C) (n : NoAttr X.K C f) (hl : fs.length < 1000) (ry : RelV y u)
   (h : ∀ s', Inv X pins σ (upd H d (.xd (putF f y fs))) s' → Q () s') : wpAny (model X.prog X.w) A (setAttr (.ref a) f u) Q E s := by
 obtain ⟨t, e0⟩ := bareO_get I.hok ea
 obtain ⟨mA, hn, rel⟩ := (show ObjOk X.prog X.w H s.heap d (.xd fs) from I.hok d _ ed)
 obtain ⟨hp, g, dr, tk, os⟩ := s
 have KX := I.kIn
 have hda : d ≠ a := fun z => by rw [z, ea] at ed; cases ed
 refine set_attr (mA := mA) (ns := fs.map (·.1)) PySem.F.store_ValueError (T.xc KX) (T.pass KX) (rds_of KX T.sa) (rds_of KX n) ⟨_, e0, rfl, (fun c z => nomatch z), .inr ⟨d, rfl, hda, hn⟩⟩ (within_xd rel) (by rw [List.length_map, sizeLine_eq]; omega) fun h' tk' st => ?_
 obtain ⟨⟨o', i1, i2, i3, i4⟩, keep, same, newd⟩ := st
 obtain ⟨o1, s1, s2, s3, s4, s5⟩ := same _ e0
 have n2 := s5 d rfl
 have q2 : o' = o1 := Option.some.inj (i1.symm.trans s1)
 rw [q2] at i4
 rcases i4 with ⟨z, _⟩ | ⟨d', z, z2, ns⟩
 · rw [n2] at z; cases z
 · rw [n2] at z
   cases z
   have e1 : h'.get? a = some { cls := .ref C, dict := some d, data := .fields #[.ref t, .none, .none, .none, .bool false, .none] } := by
     rw [s1]
     obtain ⟨oc, od, odt, osl⟩ := o1
     dsimp only at s2 s3 s4 n2
     subst s2 s3 s4 n2
     rfl
   have kp : ∀ b o, b ≠ d → hp.get? b = some o → h'.get? b = some o := fun b o hb e => by
     by_cases z : b = a
     · rw [z] at e ⊢
       rw [e0] at e
       cases e
       exact e1
     · exact keep b o z (fun o0 dx q1 q2 => by rw [e0] at q1; cases q1; cases q2; exact hb) e
   refine h _ (I.step (g' := g) (d' := dr) (t' := tk') (ch := []) (fun _ z => nomatch z) (fun b o _ _ _ e nb => kp b o (fun z => by rw [z, ed] at nb; cases nb) e) (fun b o _ _ _ e nb => ⟨o.slots, kp b o (fun z => by rw [z, ed] at nb; cases nb) e⟩)
     (fun b o _ e nb => ?_) (fun b o _ e => ?_) (fun b xs e => ?_) (fun b o v e => ?_) (fun b ps e => ?_) (fun m hm => ?_) (fun b v e => ?_) I.bare)
   · rw [uqn (fun z => by rw [z, ed] at nb; cases nb)]
     exact nb
   · by_cases hb : b = d
     · obtain ⟨od, _, _, q, _⟩ := ns
       exact ⟨_, hb ▸ q⟩
     · exact ⟨o, kp b o hb e⟩
   · rw [uqn (fun z => by rw [z, ed] at e; cases e)]
     exact e
   · rw [uqn (fun z => by rw [z, ed] at e; cases e)]
     exact e
   · exact ⟨#[], by rw [uqn (fun z => by rw [z, ed] at e; cases e), e]; simp⟩
   · obtain ⟨o, es, ep, ho, r⟩ := hm
     exact ⟨o, es, ep, kp _ o (fun z => by have q := I.free; rw [z, ed] at q; cases q) ho, r⟩
   · by_cases hb : b = d
     · subst hb
       rw [uqs] at e
       cases e
       exact ⟨_, ns, fun g => rel_put rel ry g⟩
     · rw [uqn hb] at e
       refine (I.hok b v e).stay (fun c o hc q => kp c o (fun z => ?_) q) (fun c q => ?_) fun c xs q => ?_
       · rcases hc with rfl | hc
         · exact hb z
         · rw [z, ed] at hc; cases hc
       · rw [uqn (fun z => by rw [z, ed] at q; cases q)]; exact q
       · rw [uqn (fun z => by rw [z, ed] at q; cases q)]; exact q
theorem letgo {x : Addr} {C : Value} {dx : Option Addr} (I : Inv X pins σ H s) (e : H x = some (bareO x C dx)) : Inv X pins σ (fun b => if b = x then none else H b) s := by
 have go : ∀ {b : Addr} {o : HO}, (fun b => if b = x then none else H b) b = some o → H b = some o := fun {b o} q => by
   dsimp only at q
   split at q
   · cases q
   · exact q
 have off : ∀ {b : Addr}, H b = none → (fun b => if b = x then none else H b) b = none := fun {b} q => by
   dsimp only
   split
   · rfl
   · exact q
 have on : ∀ {b : Addr} {o : HO}, H b = some o → o ≠ bareO x C dx → (fun b => if b = x then none else H b) b = some o := fun {b o} q ne => by
   dsimp only
   rw [if_neg (fun z => ne (by rw [z, e] at q; exact (Option.some.inj q).symm))]
   exact q
 refine ⟨I.ok, I.os, I.bare, ⟨I.base.keep, I.base.slot, fun b ob q n hx => off (I.base.free b ob q n hx), I.base.there, fun b xs q => on (I.base.tups b xs q) (fun z => nomatch z), fun b ob u q => on (I.base.frzs b ob u q) (fun z => nomatch z), fun b ps q => ?_⟩, I.loc, I.cell, off I.free, fun y c q => off (I.freeC y c q), fun p hp => ?_, fun b u q => ?_, I.len⟩
 · obtain ⟨more, q'⟩ := I.base.tbls b ps q
   exact ⟨more, on q' (fun z => nomatch z)⟩
 · obtain ⟨q, n, r⟩ := I.pin p hp
   exact ⟨q, off n, r⟩
 · exact (I.hok b u (go q)).stay (fun _ _ _ z => z) (fun c z => on z (fun z => nomatch z)) fun c xs z => on z (fun z => nomatch z)
end
def sFldB (K : PySem.W.Frag) (ta tv : TE) (f : Str) : TS := fun D σ H => tv σ H fun y H1 => ta σ H1 fun x H2 => ∃ a C, x = .ref a ∧ XCls K C ∧ NoAttr K C f ∧
 ((H2 a = some (bareO a (.ref C) none) ∧ ∀ d, H2 d = none → d ≠ a → D.nx σ (upd (upd H2 d (.xd (putF f y []))) a (bareO a (.ref C) (some d)))) ∨
  (∃ d fs, H2 a = some (bareO a (.ref C) (some d)) ∧ H2 d = some (.xd fs) ∧ fs.length < 1000 ∧ D.nx σ (upd H2 d (.xd (putF f y fs)))))
section
variable {X : Cx} {o value : Expr} {f : Str} {pos pos' : Pos} {ta tv : TE}
theorem ps_fldB (ha : PE X o ta) (hv : PE X value tv) (hs : swapsWith value (some (.Attribute o f pos')) pos.line X.env = pure false) : PS X (.Assign [.Attribute o f pos'] value pos) (sFldB X.K ta tv f) := by
 intro pins s σ H D I h
 refine plainObj_wpAny_Assign_Attribute (thn (hv pins s σ H _ I h) fun u s1 ⟨y, H1, I1, ry, q⟩ => thn (ha pins s1 σ H1 _ I1 q) fun ov s2 ⟨x, H2, I2, rx, a, C, ex, T, n, q2⟩ => ?_) hs
 subst ex
 obtain rfl : ov = Value.ref a := rx
 rcases q2 with ⟨ea, q2⟩ | ⟨d, fs, ea, ed, l, q2⟩
 · exact setb_new I2 ea T n ry fun d s3 hd hda I3 => ⟨σ, _, I3, q2 d hd hda⟩
 · exact setb_more I2 ea ed T n l ry fun s3 I3 => ⟨σ, _, I3, q2⟩
end
def tRaiseI (R : St → Prop) (C : Addr) (sp : Sp) (ta : TA) (Ek : XK) : TS := fun _ σ H => ta σ H fun vs H1 => vs.length ≤ sizeLine ∧ R σ ∧ ∀ x, H1 x = none →
 sp (.ref x :: vs) (upd H1 x (bareO x (.ref C) none)) (fun v H2 => v = .non ∧ ∃ dx, H2 x = some (bareO x (.ref C) dx) ∧ Ek (.ref C) dx (fun b => if b = x then none else H2 b)) E0
section
variable {X : Cx} {cm : Bool} {k : Nat} {fI : Addr} {fd : FuncData} {ps : List Str} {sp : Sp} {x : Str} {C : Addr} {np cpos pos : Pos} {e : Expr} {es : List Expr} {ta : TA} {R : St → Prop} {Ek : XK}
theorem ps_raiseI (hc : X.calm = true) (hxe : XeIs X R Ek) (hg : Gl X x) (hm : X.mg x = some (.ref C)) (T : XCls X.K C) (hi : PySem.W.findIn X.K (.ref C) "__init__" = some (some (.ref fI))) (hfn : PySem.W.isFn X.K (.ref fI) = true)
   (F : FnOk X.prog X.w X.K X.mg X.base CX0 cm k fI fd ps sp) (hr : Room cm (k + 1) X.A) (hb : Binds X.K fd ps []) (ha : PA X (e :: es) ta)
   (hdb : (x == ("__debug__" : Str)) = false := by decide) (he : starEach (e :: es) X.env = (false, eval e X.env) :: starEach es X.env := by rfl) (hpl : (backTo cpos (starEach (e :: es) X.env)).any (·.1) = false := by rfl) :
   PS X (.Raise (some (.Call (.Name x np) (e :: es) [] cpos)) none pos) (tRaiseI R C sp ta Ek) := by
 intro pins s σ H D I h
 refine raise_call (C := C) (bm := bmOf X.K C) (iv := .ref fI) (I.ok.hd hc) hpl (ld_glob I hg hm ⟨rfl, ?_⟩ hdb)
 have hbk : backTo cpos (starEach (e :: es) X.env) = (false, eval e X.env) :: backTo cpos (starEach es X.env) := by rw [he]; rfl
 rw [hbk]
 refine Calls.evalArgs_plain ?_
 rw [← hbk]
 refine thn (ha cpos pins s σ H _ I h) fun us s1 ⟨vs, H1, I1, r, hl, hR, hE⟩ => ?_
 have hlen : us.length ≤ sizeLine := by rw [← r.length]; exact hl
 refine ⟨rfl, hlen, T.xc I1.kIn, rds_of I1.kIn hi, fun h' x' hm' hs' => ?_⟩
 obtain ⟨hp, g, d, t, os⟩ := s1
 have nx : H1 x' = none := I1.hok.fresh hs'
 have fx : FpOk X pins H1 x' := I1.fpOk hs' nx
 obtain ⟨tt, hx2, htn, ht⟩ := hm'.there
 have I2 : Inv X pins σ H1 ⟨h', g, d, t, os⟩ := I1.kept (t' := t) hm'.keeps
 have I3 := track (o := bareO x' (.ref C) none) I2 fx (bareO_ok hx2)
 refine PySem.W.Looks.here (s := ⟨h', g, d, t, os⟩) (PySem.W.bind_fn I3.kIn (.ref x') (beq_iff_eq.mp hfn)) ?_
 have sp1 := hE x' nx
 have rv : Vals (.ref x' :: vs) (.ref x' :: us) := .cons rfl r
 have hln : (Value.ref x' :: us).length = ps.length := by rw [← rv.length]; exact F.len _ _ _ _ sp1
 have hbi : BindsTo ⟨h', g, d, t, os⟩ fd ⟨.ref x' :: us, []⟩ (ps.zip (.ref x' :: us)) := by
   have z := hb ⟨h', g, d, t, os⟩ (.ref x' :: us) I3.kIn (by rw [List.append_nil]; exact hln)
   rw [List.append_nil] at z
   exact z
 refine wpAny_call (codeAny_mono (F.run _ X.stack _ _ ⟨.ref x' :: us, []⟩ (.ref x' :: us) (.ref x' :: vs) _ E0 (hr.make C us []) (I3.env0.make C us []) hbi rv sp1) fun rr s4 hq => ?_)
 cases rr with
 | error e => exact False.elim hq
 | ok fl =>
   cases fl with
   | next => exact False.elim hq
   | brk => exact False.elim hq
   | cont => exact False.elim hq
   | ret u =>
     obtain ⟨v, H2, os2, bare2, un2, hok2, rv2, rfl, dx, ex, hEk⟩ := hq
     have I4 : Inv X pins σ H2 s4 := I3.call' os2 un2 hok2 bare2 (ch := []) (fun _ z => nomatch z)
     obtain ⟨t4, e4⟩ := bareO_get I4.hok ex
     have I5 := letgo I4 ex
     refine ⟨rv2, T.xc I4.kIn, ⟨dx, t4, e4⟩, hxe pins σ _ s4 x' (.ref C) dx I5 hR ⟨⟨if_pos rfl, fx.2⟩, .inl ⟨_, _, e4, rfl, rfl, rfl, rfl⟩⟩ hEk⟩
end
end L2
namespace L2
open PySem PySem.Spec PyProof.Rows L3
section
variable {X : Cx}
theorem op_mulB : OpR X (binaryOp .Mult) (rI IntMulOk fun i j => .int (i * j)) := opI fun _ _ _ _ _ _ _ hc q => mul_int q hc
theorem op_fdivB : OpR X (binaryOp .FloorDiv) (rI (fun _ j => j ≠ 0 ∧ j.natAbs.log2 < 9000) fun i j => .int (i.fdiv j)) := opI fun _ _ _ _ _ _ _ hc q => floordiv_int hc.1 q (.inl (PyProof.noPylong_of_log2 hc.2))
theorem call_absN : CallR X (.builtin "abs") (fun xs H Q => ∃ i : Int, xs = [.int i] ∧ Q (.int (i.natAbs : Nat)) H) := by
 intro pins s σ H xs us Q I r h
 obtain ⟨i, rfl, q⟩ := h
 obtain ⟨u, rfl, t, rfl⟩ := vals1 r
 have e : (if i < 0 then -i else i) = ((i.natAbs : Nat) : Int) := by split <;> omega
 exact call_abs_int fun u tk => ⟨.int (if i < 0 then -i else i), H, I.tok _, ⟨_, rfl⟩, by rw [e]; exact q⟩
end
theorem bits_of {x : Int} (lo : -(2 ^ 250 * 2 ^ 250 * 2 ^ 250 * 2 ^ 250) ≤ x) (hi : x ≤ 2 ^ 250 * 2 ^ 250 * 2 ^ 250 * 2 ^ 250) : Builtin.Int.intBits x ≤ 1001 := by
 refine PySem.intBits_le_iff.mpr ?_
 have e : (2 : Nat) ^ 1001 = 2 ^ 250 * 2 ^ 250 * 2 ^ 250 * 2 ^ 250 * 2 := by
   rw [show (1001 : Nat) = 250 + 250 + 250 + 250 + 1 from rfl, Nat.pow_add, Nat.pow_add, Nat.pow_add, Nat.pow_add]
 rw [e]
 omega
theorem log_of {y : Int} (h0 : y ≠ 0) (lo : -(2 ^ 250 * 2 ^ 250 * 2 ^ 250 * 2 ^ 250) ≤ y) (hi : y ≤ 2 ^ 250 * 2 ^ 250 * 2 ^ 250 * 2 ^ 250) : y ≠ 0 ∧ y.natAbs.log2 < 9000 := by
 have q := PySem.intBits_le_iff.mp (bits_of lo hi)
 have n0 : y.natAbs ≠ 0 := by omega
 have := (Nat.log2_lt n0).mpr q
 exact ⟨h0, by omega⟩
theorem mul_of {x y : Int} (l1 : -(2 ^ 250 * 2 ^ 250 * 2 ^ 250 * 2 ^ 250) ≤ x) (h1 : x ≤ 2 ^ 250 * 2 ^ 250 * 2 ^ 250 * 2 ^ 250) (l2 : -(2 ^ 250 * 2 ^ 250 * 2 ^ 250 * 2 ^ 250) ≤ y) (h2 : y ≤ 2 ^ 250 * 2 ^ 250 * 2 ^ 250 * 2 ^ 250) : IntMulOk x y :=
 PySem.IntMulOk.of_le (bits_of l1 h1) (bits_of l2 h2) (by decide)
theorem decT {p : Prop} [Decidable p] {A B : Prop} (h : p) (k : A) : if decide p = true then A else B := by rw [if_pos (decide_eq_true h)]; exact k
theorem decF {p : Prop} [Decidable p] {A B : Prop} (h : ¬ p) (k : B) : if decide p = true then A else B := by rw [if_neg (by simpa using h)]; exact k
theorem dec2 {p : Prop} [Decidable p] {A B : Prop} (h1 : p → A) (h2 : ¬ p → B) : if decide p = true then A else B := by
 by_cases h : p
 · exact decT h (h1 h)
 · exact decF h (h2 h)
theorem ndecT {p : Prop} [Decidable p] {A B : Prop} (h : ¬ p) (k : A) : if (!decide p) = true then A else B := by rw [if_pos (by simp [h])]; exact k
theorem ndecF {p : Prop} [Decidable p] {A B : Prop} (h : p) (k : B) : if (!decide p) = true then A else B := by rw [if_neg (by simp [h])]; exact k
theorem ndec2 {p : Prop} [Decidable p] {A B : Prop} (h1 : ¬ p → A) (h2 : p → B) : if (!decide p) = true then A else B := by
 by_cases h : p
 · exact ndecF h (h2 h)
 · exact ndecT h (h1 h)
end L2
namespace L2
open PySem PySem.Spec PyProof.Rows L3
theorem bt_len : bootBuiltins "len" = some (.builtin "len") := by decide +kernel
theorem bt_abs : bootBuiltins "abs" = some (.builtin "abs") := by decide +kernel
theorem bt_isinstance : bootBuiltins "isinstance" = some (.builtin "isinstance") := by decide +kernel
theorem bt_int : bootBuiltins "int" = some (.type "int") := by decide +kernel
theorem bt_bool : bootBuiltins "bool" = some (.type "bool") := by decide +kernel
theorem bt_tuple : bootBuiltins "tuple" = some (.type "tuple") := by decide +kernel
theorem bt_list : bootBuiltins "list" = some (.type "list") := by decide +kernel
theorem bt_str : bootBuiltins "str" = some (.type "str") := by decide +kernel
def Def (K : PySem.W.Frag) (mg : Str → Option Value) (x : Str) (st : Stmt) (dV : Value) : Prop := ∃ f fd, FunD K x x st f fd dV ∧ mg x = some (.ref f)
def Cal (P : Program) (w : World) (K : PySem.W.Frag) (mg : Str → Option Value) (base : Heap) (CX : CXT) (cm : Bool) (k : Nat) (x : Str) (ps : List Str) (ds : List V) (sp : Sp) : Prop :=
 ∃ f fd dvs, FnOk P w K mg base CX cm k f fd ps sp ∧ mg x = some (.ref f) ∧ PySem.W.keepIn K (.ref f) = true ∧ Binds K fd ps [] ∧ Vals ds dvs ∧ Binds K fd ps dvs
theorem FunD.bindsD {K : PySem.W.Frag} {x qual : Str} {st : Stmt} {f T : Addr} {fd : FuncData} {ps : List Str} {ds : List Value} {items : Array Value} {od : Option Addr} {n : Nat} {sl : Array (Option Value)} (F : FunD K x qual st f fd (.ref T))
   (lT : K.lookup T = some ⟨.type "tuple", od, .seq items n, sl⟩) (m : Nat) (hm : m + ds.length = ps.length)
   (h : ∀ (kV doc pm : Value) (an : Option Addr) (cdv ct : Value) (us : List Value), us.length = m →
     ∃ k, bindArgs (PySem.W.fnOf x qual (defArgs st) (defBody st) (defScope st) (.ref T) kV doc pm an cdv ct) ⟨us, []⟩ = seqItems? (.ref T) >>= k ∧ k (some items) = pure (ps.zip (us ++ ds))) : Binds K fd ps ds := by
 obtain ⟨oc, od', kV, doc, pm, an, cdv, ct, osl, rfl, lk, hcd⟩ := F.ex
 intro s us KX hl
 obtain ⟨k, h1, h2⟩ := h kV doc pm an cdv ct us (by rw [List.length_append] at hl; omega)
 exact BindsTo.of_defaults rfl (KX _ _ lT) rfl h1 h2
theorem call_isS {X : Cx} {x : Addr} : CallR (sup X x) (.builtin "isinstance") (rIs X.K) := call_is (X := sup X x)
end L2
namespace L2
open PySem PySem.Spec PyProof.Rows L3
theorem xe_off {X : Cx} : XeIs X (fun _ => True) E0 := fun _ _ _ _ _ _ _ _ _ _ z => z.elim
end L2
namespace L2
open PySem PySem.Spec PyProof.Rows L3
theorem Room.sup {cm : Bool} {k : Nat} {A : Around} (r : Room cm k A) (h : Option Value) : Room false k (A.mark h) := ⟨(fun z => nomatch z), r.dp, r.un⟩
end L2
namespace L2
open PySem PySem.Spec PyProof.Rows L3
def eqPl : V → Bool
 | .byt _ => false
 | .flt _ => false
 | _ => true
theorem eqAt_self {A : Around} {s : Shared} {x : V} {v u : Value} (hp : eqPl x = true) (r : RelV x v) (r' : RelV x u) : SeqAt.EqAt A s v u true := by
 cases x with
 | non => cases r; cases r'; exact SeqAt.EqAt.same _
 | bl b => cases r; cases r'; exact SeqAt.EqAt.same _
 | int i =>
   obtain ⟨t, rfl⟩ := r
   obtain ⟨t', rfl⟩ := r'
   have := SeqAt.EqAt.int_int (A := A) (s := s) i t i t'
   rw [beq_self_eq_true] at this
   exact this
 | str i =>
   obtain ⟨t, rfl⟩ := r
   obtain ⟨t', rfl⟩ := r'
   have := SeqAt.EqAt.str_str (A := A) (s := s) i t i t'
   rw [beq_self_eq_true] at this
   exact this
 | byt b => cases hp
 | flt b => cases hp
 | ref a => cases r; cases r'; exact SeqAt.EqAt.same _
 | ty n => cases r; cases r'; exact SeqAt.EqAt.same _
theorem vals_at : ∀ {xs : List V} {us : List Value}, Vals xs us → ∀ j (h : j < us.length), ∃ x, xs[j]? = some x ∧ RelV x us[j] := by
 intro xs us r
 induction r with
 | nil => intro j h; cases h
 | cons r rr ih =>
   intro j h
   cases j with
   | zero => exact ⟨_, rfl, r⟩
   | succ j => exact ih j (by simpa using h)
end L2
namespace L2
open PySem PySem.Spec PyProof.Rows L3
def Cx.inC (X : Cx) (scope : Scope) (cl : List (Str × Addr)) (C : Addr) (s2 : Shared) (H2 : Hp) (fp : List Addr) (N' : List Str) (xe : Value → Shared → Prop) : Cx :=
 { X with N := N', s₀ := s2, H₀ := H2, env := compEnvC scope cl C X.env, outer := X.stack, ex := fp, fn := fun _ => false, pn := [], xe := xe }
def tLC (wi : TI) (te : TE) (js : List Nat) : TE := fun σ H Q => wi σ H fun J H1 => ∃ W : Nat → Nat → List V → Hp → Prop, (∃ m, W 0 m [] H1) ∧ ∀ i m ys H, W i m ys H →
 (J.stop i H ∧ ∀ l, H l = none → Q (.ref l) (upd H l (.lst ys))) ∨ (J.go i H ∧ ys.length < sizeLine ∧ ∃ N : VK, (∀ y H2, N y H2 → ∃ m', m' < m ∧ W (i + 1) m' (ys ++ [y]) H2) ∧ ∀ x H', J.yld i H x H' → te (some x :: js.map (fun j => σ.getD j none)) H' N)
section
variable {X : Cx}
structure LcOk (X : Cx) (x : Str) (scope : Scope) (cl : List (Str × Addr)) (js : List Nat) : Prop where
 clos : closureFor scope X.env = pure cl
 sub : ∀ y c, cl.lookup y = some c → X.env.cells.lookup y = some c
 kind : scope.kind = .function
 cell : ∀ y ∈ scope.names, y.2 ≠ .cell
 names : ∀ y ∈ scope.names, y.2 = .local → scope.names.lookup y.1 = some .local
 loc : scope.names.lookup x = some .local
 has : ∀ y, (((relabel scope X.env).names.lookup y = some .cell) ∨ ((relabel scope X.env).names.lookup y = some .free)) → ∃ c, cl.lookup y = some c
 nd : (x :: js.map (fun j => X.N.getD j "")).Nodup
 fr : ∀ j ∈ js, ∃ y, X.N[j]? = some y ∧ X.env.kindOf y = some .cell ∧ (relabel scope X.env).names.lookup y = some .cell ∧ ∃ c, cl.lookup y = some c
theorem Inv.inC {x : Str} {scope : Scope} {cl : List (Str × Addr)} {js : List Nat} {pins : List (Addr × Obj)} {σ : St} {H2 : Hp} {s2 : Shared} {fp : List Addr} {C D : Addr} {h1 : Heap} {xe : Value → Shared → Prop} {oD : Obj} {m0 : Str → Option Value}
   (L : LcOk X x scope cl js) (I2 : Inv X pins σ H2 s2) (f2 : ∀ b ∈ fp, FpOk X pins H2 b) (fo : ∀ b ∈ fp, ∃ o, s2.heap.get? b = some o) (hC : s2.heap.objs.size ≤ C) (hD : s2.heap.objs.size ≤ D) (hDC : D ≠ C)
   (old : ∀ b o, s2.heap.get? b = some o → h1.get? b = some o) (hns : h1.Ns C m0) (hoD : h1.get? D = some oD) (hdD : ∀ v, oD.data ≠ .cell v) {t' : Nat} :
   Inv (X.inC scope cl C s2 H2 fp (x :: js.map (fun j => X.N.getD j "")) xe) [(D, oD)] (none :: js.map (fun j => σ.getD j none)) H2 { s2 with heap := h1, toks := t' } where
 ok := {
   mod := I2.ok.mod
   kind := L.kind
   glob := I2.ok.glob
   blt := I2.ok.blt
   above := hC
   inj := fun a b c e1 e2 => I2.ok.inj a b c (L.sub a c e1) (L.sub b c e2)
   has := fun y hy => L.has y hy
   cab := fun _ _ z => nomatch z
   hd := I2.ok.hd
   frames := I2.ok.frames
   stk := .inl rfl
   exf := fun b hb => by
     obtain ⟨o, e⟩ := fo b hb
     refine ⟨Nat.ne_of_lt (Nat.lt_of_lt_of_le (Heap.lt_size e) hC), fun y c e' => ?_⟩
     exact (f2 b hb).2.2.2.2.1 y c (L.sub y c e')
   bs := fun b o e => I2.bs b o e
   bsz := Nat.le_trans I2.ok.bsz I2.sz
   noex := fun b o e hb => by
     rcases (f2 b hb).2.2.2.1 with z | z
     · exact I2.ok.noex b o e z
     · exact absurd (Nat.lt_of_lt_of_le (Heap.lt_size e) (Nat.le_trans I2.ok.bsz z)) (Nat.lt_irrefl _)
   exfs := fun b hb z => by
     rcases List.mem_cons.mp (I2.stkSub b z) with e | e
     · exact (f2 b hb).2.1 e
     · exact (f2 b hb).2.2.1 e
   funs := I2.stack
   frf := I2.stkFree }
 os := rfl
 bare := I2.bare
 base := Un.kept old
 loc := by
   refine ⟨m0, hns, fun i y v e1 e2 e3 => ?_⟩
   cases i with
   | zero => cases e2
   | succ k =>
     have e1' : (js.map (fun j => X.N.getD j ""))[k]? = some y := e1
     have e2' : (js.map (fun j => σ.getD j none))[k]? = some (some v) := e2
     rw [List.getElem?_map] at e1' e2'
     cases hj : js[k]? with
     | none => rw [hj] at e1'; cases e1'
     | some j =>
       rw [hj] at e1' e2'
       obtain ⟨y', n1, n2, n3, c, n4⟩ := L.fr j (List.mem_of_getElem? hj)
       have e1'' : X.N.getD j "" = y := Option.some.inj e1'
       have e2'' : σ.getD j none = some v := Option.some.inj e2'
       have : y' = y := by
         rw [List.getD, n1] at e1''
         exact e1''
       subst this
       have hσ : σ[j]? = some (some v) := by
         rw [List.getD] at e2''
         cases q : σ[j]? with
         | none => rw [q] at e2''; cases e2''
         | some z => rw [q] at e2''; exact congrArg some e2''
       obtain ⟨m, hn, hl⟩ := I2.loc
       obtain ⟨u, r, l⟩ := hl j y' v n1 hσ (.inr (.inl n2))
       refine ⟨u, r, ?_⟩
       rcases l with ⟨k1, _⟩ | ⟨_, c', k2, k3⟩
       · rw [n2] at k1; cases k1
       · have : c' = c := by
           have := L.sub _ _ n4
           rw [k2] at this
           exact Option.some.inj this
         subst this
         obtain ⟨o, ho, hd⟩ := k3
         exact .inr ⟨.inl n3, c', n4, o, old _ _ ho, hd⟩
 cell := fun y c e => by
   obtain ⟨v, o, ho, hd⟩ := I2.cell y c (L.sub y c e)
   exact ⟨v, o, old _ _ ho, hd⟩
 free := I2.hok.fresh hC
 freeC := fun y c e => I2.freeC y c (L.sub y c e)
 pin := fun p hp => by
   have e : p = (D, oD) := by simpa [Cx.inC] using hp
   subst e
   refine ⟨hoD, I2.hok.fresh hD, hDC, fun z => ?_, hdD⟩
   rcases List.mem_cons.mp (I2.stkSub D z) with e | e
   · exact absurd I2.lt (by rw [← e]; exact Nat.not_lt.mpr hD)
   · exact I2.nofs hD e
 hok := I2.hok.kept old
 len := by simp [Cx.inC]
theorem lc_core {elt iter : Expr} {x : Str} {px pos cpos : Pos} {scope : Scope} {cl : List (Str × Addr)} {wi : TI} {te : TE} {js : List Nat} {use : Option (Value → Sem Unit)} {Qc : Value → Shared → Prop} {pins : List (Addr × Obj)} {s : Shared} {σ : St} {H : Hp} {Q : VK}
   (hc : X.calm = true) (L : LcOk X x scope cl js) (hi : PI X (.Name x px) iter wi) (G : Cx → Prop)
   (he : ∀ C s2 H2 fp xe, G (X.inC scope cl C s2 H2 fp (x :: js.map (fun j => X.N.getD j "")) xe) → PE (X.inC scope cl C s2 H2 fp (x :: js.map (fun j => X.N.getD j "")) xe) elt te)
   (hG : ∀ (C D : Addr) (s2 : Shared) (H2 : Hp) (fp : List Addr), Inv X pins σ H2 s2 → (∀ b ∈ fp, FpOk X pins H2 b) → (∀ b ∈ fp, ∃ o, s2.heap.get? b = some o) → s2.heap.objs.size < C →
     G (X.inC scope cl C s2 H2 fp (x :: js.map (fun j => X.N.getD j "")) (notedBy (model X.prog X.w) X.A (compEnvC scope cl C X.env) fun e s' => compPost (model X.prog X.w) X.A X.xe use Qc (.ref D) C (.error e) s')))
   (hs : ∀ z, foldedSetIterable iter X.env z = pure z) (I : Inv X pins σ H s) (h : tLC wi te js σ H Q)
   (fin : ∀ (D C : Addr) (H4 : Hp) (s4 : Shared) (m : Str → Option Value), s4.heap.Ns C m → FpOk X pins H4 C → (∀ h', Heap.SameBut C s4.heap h' → Inv X pins σ H4 { s4 with heap := h' }) → Q (.ref D) H4 → compPost (model X.prog X.w) X.A X.xe use Qc (.ref D) C (.ok .next) s4) :
   wpAny (model X.prog X.w) X.A (comprehension (.ListComp elt [⟨.Name x px, iter, [], 0⟩] scope pos) scope X.env cpos (newList []) false (eval iter X.env) use) Qc X.xe s := by
 refine wpAny_comprehension_free (cl := cl) (use := use) rfl hs L.clos L.kind L.names ?_
 refine thn (hi pins s σ H _ I h) fun v s1 h1 => thn h1 fun itv s2 h2 => ?_
 obtain ⟨it, fp, tn, J, H2, e, I2, T, st2, f2, W, ⟨k0, w0⟩, turn⟩ := h2
 subst e
 refine wpAny_newObj_type (wpAny_newFunctionEnv L.cell (by intro y hy; simp at hy) (fun h₁ hns₁ hsb₁ => ?_) L.kind)
 dsimp only at hns₁ hsb₁ ⊢
 generalize hH2 : s2.heap.push { cls := .type "list", dict := none, data := .seq ([] : List Value).toArray } = Hp2 at hns₁ hsb₁ ⊢
 have hC : Hp2.objs.size = s2.heap.objs.size + 1 := by rw [← hH2, Heap.size_push]
 generalize hD0 : s2.heap.objs.size = D at hC ⊢
 generalize hC0 : Hp2.objs.size = C at hC hns₁ hsb₁ ⊢
 have hDC : D ≠ C := by omega
 have below : ∀ b, b < D → b ≠ C := fun b hb => by omega
 have old : ∀ b o, s2.heap.get? b = some o → h₁.get? b = some o := fun b o e =>
   hsb₁.extBut b o (below b (by rw [← hD0]; exact Heap.lt_size e)) (Heap.get?_push_of_some _ (hH2 ▸ Heap.get?_push_of_some _ e))
 have hacc : h₁.get? D = some { cls := .type "list", data := .seq ([] : List Value).toArray 0 } := by
   subst hD0
   exact hsb₁.extBut _ _ hDC (Heap.get?_push_of_some _ (hH2 ▸ Heap.get?_push_size _ rfl))
 have fo : ∀ b ∈ fp, ∃ o, s2.heap.get? b = some o := fun b hb => let ⟨o, e, _⟩ := T.obj _ _ st2 b hb; ⟨o, e⟩
 have flt : ∀ b ∈ fp, b < D := fun b hb => let ⟨o, e⟩ := fo b hb; by rw [← hD0]; exact Heap.lt_size e
 have st1 : tn 0 h₁ := T.keep _ _ _ st2 fun b hb o e => old b o e
 have gx := hG C D s2 H2 fp I2 f2 fo (by omega)
 let R := compPost (model X.prog X.w) X.A X.xe use Qc (.ref D) C
 let xe := notedBy (model X.prog X.w) X.A (compEnvC scope cl C X.env) fun e s' => R (.error e) s'
 let X' := X.inC scope cl C s2 H2 fp (x :: js.map (fun j => X.N.getD j "")) xe
 have I0 : ∀ {t' : Nat}, Inv X' [(D, _)] (none :: js.map (fun j => σ.getD j none)) H2 { s2 with heap := h₁, toks := t' } := fun {t'} =>
   Inv.inC L I2 f2 fo (by omega) (by omega) hDC old hns₁ hacc (fun v z => by cases z)
 have fpk : ∀ {pD : List (Addr × Obj)} {H' : Hp}, (∀ p ∈ pD, p.1 = D) → (∀ b ∈ fp, H' b = none) → ∀ b ∈ fp, FpOk X' pD H' b := fun {pD H'} hp hn b hb => by
   refine ⟨hn b hb, below b (flt b hb), fun z => ?_, .inl hb, fun y c e => (f2 b hb).2.2.2.2.1 y c (L.sub y c e), fun p hp' z => ?_⟩
   · rcases List.mem_cons.mp (I2.stkSub b z) with e | e
     · exact (f2 b hb).2.1 e
     · exact (f2 b hb).2.2.1 e
   · have q := hp p (by simpa [X', Cx.inC] using hp')
     have := flt b hb
     rw [← z, q] at this
     exact Nat.lt_irrefl _ this
 have loop : ∀ s3 : Shared, (∃ k i ys H' its n σ0, Inv X' [(D, { cls := .type "list", data := .seq (its : List Value).toArray n })] (σ0 :: js.map (fun j => σ.getD j none)) H' s3 ∧ tn i s3.heap ∧ (∀ b ∈ fp, H' b = none) ∧ W i k ys H' ∧ Vals ys its ∧ ys.length ≤ sizeLine) →
     codeAny (model X.prog X.w) X.A (.compLoop (.ListComp elt [⟨.Name x px, iter, [], 0⟩] scope pos) 0 (.ref it) (.ref D) (compEnvC scope cl C X.env)) R s3 := by
   rintro s3 ⟨k, hk⟩
   refine codeAny_loop rfl (fun k s3 => ∃ i ys H' its n σ0, Inv X' [(D, { cls := .type "list", data := .seq (its : List Value).toArray n })] (σ0 :: js.map (fun j => σ.getD j none)) H' s3 ∧ tn i s3.heap ∧ (∀ b ∈ fp, H' b = none) ∧ W i k ys H' ∧ Vals ys its ∧ ys.length ≤ sizeLine) (fun k s3 hI => ?_) k hk
   obtain ⟨i, ys, H3, its, n, σ0, I3, st3, fr3, w3, vy, hz⟩ := hI
   show wpAny _ _ ((compTurn (.ListComp elt [⟨.Name x px, iter, [], 0⟩] scope pos) 0 (.ref it) (.ref D) (compEnvC scope cl C X.env)).onRaise (fun x => do noteFrame x (compEnvC scope cl C X.env); theTreesLotGoes x)) _ _ s3
   refine wpAny_noted ?_
   rw [compTurn_list1]
   have hpD : ∀ {o : Obj}, ∀ p ∈ [(D, o)], p.1 = D := fun p hp => by rw [List.mem_singleton.mp hp]
   refine wpAny_bind (wpAny_standAt (wpAny_bind ?_))
   rcases turn i k ys H3 w3 with ⟨stop, qn⟩ | ⟨go, hlen, N, hN, step⟩
   · refine thn (T.done X' rfl rfl rfl hc i _ s3 _ H3 xe I3 (fpk hpD fr3) st3 stop) fun r s4 ⟨hr, I4⟩ => ?_
     subst hr
     refine wpAny_pure ?_
     obtain ⟨m, hn, _⟩ := I4.loc
     obtain ⟨eD, nD, _⟩ := I4.pin (D, _) (List.mem_append_right _ (List.mem_singleton.mpr rfl))
     have fC : FpOk X pins (upd H3 D (.lst ys)) C := I2.fpOk (by omega) (by
       rw [uqn (Ne.symm hDC)]
       exact I4.free)
     refine fin D C (upd H3 D (.lst ys)) s4 m hn fC (fun h' sb => ?_) (qn D nD)
     obtain ⟨hh, g, d, t, os'⟩ := s4
     obtain rfl : os' = s2.os := I4.os
     have kp : ∀ b o, b ≠ C → hh.get? b = some o → h'.get? b = some o := fun b o hb e => (sb.2 b hb).trans e
     have lt2 : ∀ b o, s2.heap.get? b = some o → b ≠ C ∧ b ≠ D := fun b o e => by
       have q : b < D := by rw [← hD0]; exact Heap.lt_size e
       exact ⟨below b q, Nat.ne_of_lt q⟩
     have B : Un (frs X.stack) fp H2 H3 s2.heap hh := I4.base
     have hDn : H3 D = none := nD
     have I5 : Inv X pins σ (upd H3 D (.lst ys)) { s2 with heap := h', gens := g, drawn := d, toks := t } := by
       refine I2.call (h' := h') (g' := g) (d' := d) (t' := t) (ch := fp) ⟨?_, ?_, ?_, ?_, ?_, ?_, ?_⟩ ?_ I4.bare ?_
       · exact fun b o e n hb hx => kp b o (lt2 b o e).1 (B.keep b o e n hb hx)
       · intro b o e n hb hx
         obtain ⟨sl, q⟩ := B.slot b o e n hb hx
         exact ⟨sl, kp b _ (lt2 b o e).1 q⟩
       · intro b o e n hx
         rw [uqn (lt2 b o e).2]
         exact B.free b o e n hx
       · intro b o e hx
         obtain ⟨o', q⟩ := B.there b o e hx
         exact ⟨o', kp b o' (lt2 b o e).1 q⟩
       · intro b xs e
         have q := B.tups b xs e
         rw [uqn (nqn q hDn)]
         exact q
       · intro b o u e
         have q := B.frzs b o u e
         rw [uqn (nqn q hDn)]
         exact q
       · intro b ps e
         obtain ⟨more, q⟩ := B.tbls b ps e
         exact ⟨more, by rw [uqn (nqn q hDn)]; exact q⟩
       · intro b u e
         by_cases hb : b = D
         · subst hb
           rw [uqs] at e
           cases e
           exact ⟨hz, its, n, vy, kp _ _ hDC eD⟩
         · rw [uqn hb] at e
           have nC : ∀ c o, H3 c = some o → c ≠ C := fun c o q => nqn q I4.free
           refine (I4.hok b u e).stay (fun c v hc' q => kp c v ?_ q) (fun c q => by rw [uqn (nqn q hDn)]; exact q) fun c xs q => by rw [uqn (nqn q hDn)]; exact q
           rcases hc' with z | z
           · rw [z]; exact nC b u e
           · exact nC c _ z
       · intro b hb
         obtain ⟨_, f1, _, f3, f4, f5⟩ := f2 b hb
         exact ⟨f3, f1, f4, f5⟩
     exact I5
   · refine thn (T.item X' rfl rfl rfl hc i _ s3 _ H3 xe I3 (fpk hpD fr3) st3 go) fun r s4 ⟨u, hr, h4⟩ => ?_
     subst hr
     refine wpAny_bind (thn h4 fun _ s5 ⟨xv, H5, I5, r5, y5, st5, fr5⟩ => ?_)
     have I5' := I5.pinned (fpk hpD fr5) (T.obj _ _ st5)
     refine wpAny_bind (thn (pg_name (X := X') (i := 0) L.nd rfl (Or.inl (lookup_relabel_local L.loc)) (Or.inr (lookup_relabel_local L.loc)) _ s5 _ H5 xv u (fun σ6 H6 => σ6 = some xv :: js.map (fun j => σ.getD j none) ∧ H6 = H5) I5' r5 ⟨rfl, rfl⟩) fun _ s6 ⟨σ6, H6, I6, e6, e6'⟩ => ?_)
     subst e6 e6'
     refine wpAny_bind (wpAny_bind (thn (he C s2 H2 fp xe gx _ s6 _ _ _ I6 (step xv _ y5)) fun y s7 ⟨yv, H7, I7, ry, n7⟩ => ?_))
     obtain ⟨m', hm, w7⟩ := hN yv H7 n7
     have I7' := I7.unpinned
     obtain ⟨eD, nD, neC, nfs, _⟩ := I7'.pin (D, _) (List.mem_append_right _ (List.mem_singleton.mpr rfl))
     have eD' : s7.heap.get? D = some { cls := .type "list", data := .seq its.toArray n } := eD
     have lv := vy.length
     refine wpAny_bind (call_meets F.slot_list_append ⟨_, eD', rfl⟩ F.entry_list_append (F.args_list_append_2 _ _) (PySem.list_append D its.toArray n y (by rw [List.size_toArray]; omega)) ⟨eD', ?_⟩)
     refine wpAny_pure (wpAny_pure ⟨rfl, m', hm, i + 1, ys ++ [yv], H7, its ++ [y], ?_⟩)
     have q := PySem.IsL.update eD' (fun a : Array Value => a.push y)
     have I8 : Inv X' [] (some xv :: js.map (fun j => σ.getD j none)) H7 { s7 with heap := s7.heap.update D (Obj.mapSeq (fun a : Array Value => a.push y)) } :=
       (I7'.pins_of (pins' := []) (fun p hp => nomatch hp)).turned (t' := s7.toks) (it := D) (fun b o hb e => (Heap.get?_update_other s7.heap _ (Ne.symm hb)).trans e) nD neC (.inr (by show s2.heap.objs.size ≤ D; omega))
         (fun z c e w => by
           obtain ⟨v', o', ho', _⟩ := I2.cell z c (L.sub z c e)
           have := Heap.lt_size ho'
           rw [w, hD0] at this
           exact Nat.lt_irrefl _ this) (fun p hp => nomatch hp)
     have pinf : ∀ b ∈ fp, ∀ o, s5.heap.get? b = some o → s7.heap.get? b = some o ∧ H7 b = none := fun b hb o e => by
       have z := I7.pin (b, o) (List.mem_append_right _ (List.mem_append_right _ (mem_pinsAt hb e)))
       exact ⟨z.1, z.2.1⟩
     obtain ⟨n', q'⟩ : ∃ n', (s7.heap.update D (Obj.mapSeq (fun a : Array Value => a.push y))).get? D = some { cls := .type "list", data := .seq (its ++ [y]).toArray n' } := by
       rw [show (its ++ [y]).toArray = its.toArray.push y by simp]
       exact ⟨_, q⟩
     refine ⟨n', some xv, I8.pins_of fun p hp => ?_, ?_, fun b hb => ?_, w7, vy.append (.cons ry .nil), by rw [List.length_append, List.length_singleton]; omega⟩
     · rw [List.mem_singleton.mp hp]
       exact ⟨q', nD, neC, nfs, fun v z => by cases z⟩
     · refine T.keep _ _ _ st5 fun b hb o e => ?_
       have hb' : D ≠ b := fun z => by
         have := flt b hb
         rw [← z] at this
         exact Nat.lt_irrefl _ this
       exact (Heap.get?_update_other s7.heap _ hb').trans (pinf b hb o e).1
     · obtain ⟨o, e, _⟩ := T.obj _ _ st5 b hb
       exact (pinf b hb o e).2
 have start : ∀ {t' : Nat}, ∃ k i ys H' its n σ0, Inv X' [(D, { cls := .type "list", data := .seq (its : List Value).toArray n })] (σ0 :: js.map (fun j => σ.getD j none)) H' { s2 with heap := h₁, toks := t' } ∧ tn i h₁ ∧ (∀ b ∈ fp, H' b = none) ∧ W i k ys H' ∧ Vals ys its ∧ ys.length ≤ sizeLine := fun {t'} =>
   ⟨k0, 0, [], H2, [], 0, none, I0, st1, fun b hb => (f2 b hb).1, w0, .nil, Nat.zero_le _⟩
 exact codeAny_compStart_list (loop _ start) (T.self X.A 0 _ _ _ st1 (loop _ start))
theorem pe_lc {elt iter : Expr} {x : Str} {px pos : Pos} {scope : Scope} {cl : List (Str × Addr)} {wi : TI} {te : TE} (js : List Nat) (hc : X.calm = true) (L : LcOk X x scope cl js) (hi : PI X (.Name x px) iter wi)
   (he : ∀ C s2 H2 fp xe, PE (X.inC scope cl C s2 H2 fp (x :: js.map (fun j => X.N.getD j "")) xe) elt te)
   (hs : ∀ z, foldedSetIterable iter X.env z = pure z := by intro _; rfl) :
   PE X (.ListComp elt [⟨.Name x px, iter, [], 0⟩] scope pos) (tLC wi te js) := by
 intro pins s σ H Q I h
 rw [eval_ListComp]
 exact lc_core (use := none) hc L hi (fun _ => True) (fun C s2 H2 fp xe _ => he C s2 H2 fp xe) (fun _ _ _ _ _ _ _ _ _ => trivial) hs I h fun D C H4 s4 m hn _ I4 q => ⟨m, hn, fun h' sb => ⟨.ref D, H4, I4 h' sb, rfl, q⟩⟩
end
end L2
namespace L2
open PySem PySem.Spec PyProof.Rows L3
theorem lc_list {K : PySem.W.Frag} {a : Addr} {xs : List V} {T : V → Hp → VK → Prop} {R : Addr → Hp → List V → Prop} {H : Hp} (Pv : Nat → List V → Hp → Prop) (h0 : Pv 0 [] H) (hn : xs.length ≤ sizeLine) (hl : ∀ i ys H, i ≤ xs.length → Pv i ys H → SqL K H a xs ∧ ys.length = i)
   (hs : ∀ i x ys H, xs[i]? = some x → Pv i ys H → T x H fun y H2 => Pv (i + 1) (ys ++ [y]) H2) (hd : ∀ ys H, Pv xs.length ys H → ∀ l, H l = none → R l H ys) :
   ∃ W : Nat → Nat → List V → Hp → Prop, (∃ m, W 0 m [] H) ∧ ∀ i m ys H, W i m ys H →
     ((Itl K a).stop i H ∧ ∀ l, H l = none → R l H ys) ∨ ((Itl K a).go i H ∧ ys.length < sizeLine ∧ ∃ N : VK, (∀ y H2, N y H2 → ∃ m', m' < m ∧ W (i + 1) m' (ys ++ [y]) H2) ∧ ∀ x H', (Itl K a).yld i H x H' → T x H' N) := by
 refine ⟨fun i m ys H => m = xs.length - i ∧ i ≤ xs.length ∧ Pv i ys H, ⟨xs.length, by simp, Nat.zero_le _, h0⟩, ?_⟩
 rintro i m ys H ⟨rfl, hi, p⟩
 obtain ⟨q, hy⟩ := hl i ys H hi p
 by_cases hlt : i < xs.length
 · refine .inr ⟨⟨xs, xs[i], q, by simp [hlt]⟩, by omega, fun y H2 => Pv (i + 1) (ys ++ [y]) H2, fun y H2 p' => ⟨xs.length - (i + 1), by omega, rfl, hlt, p'⟩, fun x H' ⟨e, y⟩ => ?_⟩
   subst e
   exact hs i x ys _ (y xs q) p
 · have e : i = xs.length := by omega
   subst e
   exact .inl ⟨⟨xs, q, Nat.le_refl _⟩, hd ys H p⟩
theorem ints_of : ∀ {ns : List Int} {its : List Value}, Vals (ns.map V.int) its → IntsAre its ns
 | [], _, .nil => .nil
 | n :: r, _, .cons ⟨t, e⟩ rr => by
   subst e
   exact .cons n t (ints_of rr)
section
variable {X : Cx}
theorem call_sum {k : Nat} (hr : Room true k X.A) : CallR X (.builtin "sum") (fun xs H Q => ∃ (p : Addr) (ns : List Int), xs = [.ref p] ∧ SqL X.K H p (ns.map V.int) ∧ Q (.int ns.sum) H) := by
 intro pins s σ H xs us Q I r h
 obtain ⟨p, ns, rfl, hq, q⟩ := h
 obtain ⟨u, rfl, rx⟩ := vals1 r
 cases rx
 obtain ⟨its, r', pl, hz⟩ := I.list hq
 have hi := ints_of r'
 obtain ⟨xs, hx⟩ := hi.allInts.items
 have hl' : s.heap.IsList p (intItems xs) := hx ▸ pl.isList
 refine sum_intListG (hr.hd rfl) hl' fun h' tk t' hk => ?_
 have e1 : ns = xs.toList.map (·.1) := by
   rw [← nums_intItems, ← hx]
   exact (show numsOf its.toArray.toList = ns from hi.numsOf).symm
 have e2 : preSum (numAt xs) xs.size = ns.sum := by
   rw [preSum_eq, List.take_of_length_le (by simp), e1]
 rw [e2]
 exact ⟨.int ns.sum, H, I.kept hk, ⟨t', rfl⟩, q⟩
end
theorem lookup_relabel_not {env : Env} {k : NameKind} : ∀ {names : List (Str × NameKind)} {y : Str}, (∀ z ∈ names, z.2 ≠ .free) → (∀ z ∈ names, z.2 ≠ k) → (names.map fun (n, k) => if (k == NameKind.free && env.scope.kind == .function && env.kindOf n == some .cell) then (n, NameKind.cell) else (n, k)).lookup y = some k → False
 | [], _, _, _, h => by simp at h
 | (n, k') :: r, y, hf, hk, h => by
   have e : (k' == NameKind.free) = false := by simpa using hf (n, k') List.mem_cons_self
   rw [List.map_cons] at h
   simp only [e, Bool.false_and, Bool.false_eq_true, if_false] at h
   rw [List.lookup_cons] at h
   cases hx : y == n with
   | true => rw [hx] at h; exact hk (n, k') List.mem_cons_self (Option.some.inj h)
   | false => rw [hx] at h; exact lookup_relabel_not (fun z hz => hf z (List.mem_cons_of_mem _ hz)) (fun z hz => hk z (List.mem_cons_of_mem _ hz)) h
theorem LcOk.plain {X : Cx} {x : Str} {scope : Scope} (hfree : ∀ y ∈ scope.names, y.2 ≠ .free) (hcell : ∀ y ∈ scope.names, y.2 ≠ .cell) (hkind : scope.kind = .function) (hnames : ∀ y ∈ scope.names, y.2 = .local → scope.names.lookup y.1 = some .local)
   (hloc : scope.names.lookup x = some .local) : LcOk X x scope [] [] where
 clos := closureFor_none hfree
 sub := fun _ _ e => nomatch e
 kind := hkind
 cell := hcell
 names := hnames
 loc := hloc
 has := fun y h => by
   rcases h with h | h
   · exact (lookup_relabel_not hfree hcell h).elim
   · exact (lookup_relabel_not hfree hfree h).elim
 nd := by simp
 fr := fun _ h => nomatch h
theorem bt_sum : bootBuiltins "sum" = some (.builtin "sum") := by decide +kernel
end L2
namespace L2
open PySem PySem.Spec PyProof.Rows L3
theorem lookup_relabel_free {env : Env} {k : NameKind} (hk : k = .cell ∨ k = .free) : ∀ {names : List (Str × NameKind)} {y : Str}, (∀ z ∈ names, z.2 ≠ .cell) → (names.map fun (n, k) => if (k == NameKind.free && env.scope.kind == .function && env.kindOf n == some .cell) then (n, NameKind.cell) else (n, k)).lookup y = some k → ∃ z ∈ names, z.1 = y ∧ z.2 = .free
 | [], _, _, h => by simp at h
 | (n, k') :: r, y, hc, h => by
   rw [List.map_cons] at h
   have fst : (if (k' == NameKind.free && env.scope.kind == .function && env.kindOf n == some .cell) = true then (n, NameKind.cell) else (n, k')).1 = n := by split <;> rfl
   cases hx : y == n with
   | true =>
     have e : y = n := eq_of_beq hx
     subst e
     by_cases hf : k' = .free
     · exact ⟨(y, k'), List.mem_cons_self, rfl, hf⟩
     · exfalso
       have e : (k' == NameKind.free) = false := by simpa using hf
       simp only [e, Bool.false_and, Bool.false_eq_true, if_false] at h
       rw [List.lookup_cons] at h
       rw [hx] at h
       have h' : k' = k := Option.some.inj h
       rcases hk with z | z
       · exact hc (y, k') List.mem_cons_self (h'.trans z)
       · exact hf (h'.trans z)
   | false =>
     rw [List.lookup_cons] at h
     rw [fst, hx] at h
     obtain ⟨z, m, q⟩ := lookup_relabel_free hk (fun z hz => hc z (List.mem_cons_of_mem _ hz)) h
     exact ⟨z, List.mem_cons_of_mem _ m, q⟩
theorem lookup_mem {cl : List (Str × Addr)} {y : Str} (h : y ∈ cl.map (·.1)) : ∃ c, cl.lookup y = some c := by
 induction cl with
 | nil => cases h
 | cons p r ih =>
   rw [List.lookup_cons]
   cases hx : y == p.1 with
   | true => exact ⟨_, rfl⟩
   | false =>
     rcases List.mem_cons.mp h with e | e
     · rw [e, beq_self_eq_true] at hx; cases hx
     · exact ih e
theorem mem_lookup {cl : List (Str × Addr)} {y : Str} {c : Addr} (h : cl.lookup y = some c) : (y, c) ∈ cl := by
 induction cl with
 | nil => cases h
 | cons p r ih =>
   rw [List.lookup_cons] at h
   cases hx : y == p.1 with
   | true =>
     rw [hx] at h
     have e := eq_of_beq hx
     have e2 : p.2 = c := Option.some.inj h
     rw [show p = (y, c) by rw [e, ← e2]]
     exact List.mem_cons_self
   | false => rw [hx] at h; exact List.mem_cons_of_mem _ (ih h)
theorem LcOk.free {X : Cx} {x : Str} {scope : Scope} {cl : List (Str × Addr)} {js : List Nat} (fns : List Str) (hclos : closureFor scope X.env = pure cl) (hf : cl.map (·.1) = fns) (hsub : ∀ p ∈ cl, X.env.cells.lookup p.1 = some p.2) (hcell : ∀ y ∈ scope.names, y.2 ≠ .cell) (hkind : scope.kind = .function) (hnames : ∀ y ∈ scope.names, y.2 = .local → scope.names.lookup y.1 = some .local)
   (hloc : scope.names.lookup x = some .local) (hcov : ∀ z ∈ scope.names, z.2 = .free → z.1 ∈ fns) (hnd : (x :: js.map (fun j => X.N.getD j "")).Nodup)
   (hfr : ∀ j ∈ js, ∃ y, X.N[j]? = some y ∧ X.env.kindOf y = some .cell ∧ (relabel scope X.env).names.lookup y = some .cell ∧ y ∈ fns) : LcOk X x scope cl js where
 clos := hclos
 sub := fun y c e => hsub (y, c) (mem_lookup e)
 kind := hkind
 cell := hcell
 names := hnames
 loc := hloc
 has := fun y h => by
   have : ∃ z ∈ scope.names, z.1 = y ∧ z.2 = .free := by
     rcases h with h | h
     · exact lookup_relabel_free (.inl rfl) hcell h
     · exact lookup_relabel_free (.inr rfl) hcell h
   obtain ⟨z, m, rfl, e⟩ := this
   exact lookup_mem (by rw [hf]; exact hcov z m e)
 nd := hnd
 fr := fun j hj => by
   obtain ⟨y, a, b, c, d⟩ := hfr j hj
   exact ⟨y, a, b, c, lookup_mem (by rw [hf]; exact d)⟩
end L2
namespace L2
open PySem PySem.Spec PyProof.Rows L3
def tLCIf (wi : TI) (tt : TT) (te : TE) (js : List Nat) : TE := fun σ H Q => wi σ H fun J H1 => ∃ W : Nat → Nat → List V → Hp → Prop, (∃ m, W 0 m [] H1) ∧ ∀ i m ys H, W i m ys H →
 (J.stop i H ∧ ∀ l, H l = none → Q (.ref l) (upd H l (.lst ys))) ∨ (J.go i H ∧ ys.length < sizeLine ∧ ∃ (N : VK) (S : Hp → Prop), (∀ y H2, N y H2 → ∃ m', m' < m ∧ W (i + 1) m' (ys ++ [y]) H2) ∧ (∀ H2, S H2 → ∃ m', m' < m ∧ W (i + 1) m' ys H2) ∧
   ∀ x H', J.yld i H x H' → tt (some x :: js.map (fun j => σ.getD j none)) H' fun b H2 => if b = true then te (some x :: js.map (fun j => σ.getD j none)) H2 N else S H2)
section
variable {X : Cx}
theorem lcIf_core {elt iter c : Expr} {x : Str} {px pos cpos : Pos} {scope : Scope} {cl : List (Str × Addr)} {wi : TI} {te : TE} {tt : TT} {js : List Nat} {use : Option (Value → Sem Unit)} {Qc : Value → Shared → Prop} {pins : List (Addr × Obj)} {s : Shared} {σ : St} {H : Hp} {Q : VK}
   (hc : X.calm = true) (L : LcOk X x scope cl js) (hi : PI X (.Name x px) iter wi)
   (he : ∀ C s2 H2 fp xe, PE (X.inC scope cl C s2 H2 fp (x :: js.map (fun j => X.N.getD j "")) xe) elt te)
   (ht : ∀ C s2 H2 fp xe, PT (X.inC scope cl C s2 H2 fp (x :: js.map (fun j => X.N.getD j "")) xe) c tt)
   (hs : ∀ z, foldedSetIterable iter X.env z = pure z) (I : Inv X pins σ H s) (h : tLCIf wi tt te js σ H Q)
   (fin : ∀ (D C : Addr) (H4 : Hp) (s4 : Shared) (m : Str → Option Value), s4.heap.Ns C m → FpOk X pins H4 C → (∀ h', Heap.SameBut C s4.heap h' → Inv X pins σ H4 { s4 with heap := h' }) → Q (.ref D) H4 → compPost (model X.prog X.w) X.A X.xe use Qc (.ref D) C (.ok .next) s4) :
   wpAny (model X.prog X.w) X.A (comprehension (.ListComp elt [⟨.Name x px, iter, [c], 0⟩] scope pos) scope X.env cpos (newList []) false (eval iter X.env) use) Qc X.xe s := by
 refine wpAny_comprehension_free (cl := cl) (use := use) rfl hs L.clos L.kind L.names ?_
 refine thn (hi pins s σ H _ I h) fun v s1 h1 => thn h1 fun itv s2 h2 => ?_
 obtain ⟨it, fp, tn, J, H2, e, I2, T, st2, f2, W, ⟨k0, w0⟩, turn⟩ := h2
 subst e
 refine wpAny_newObj_type (wpAny_newFunctionEnv L.cell (by intro y hy; simp at hy) (fun h₁ hns₁ hsb₁ => ?_) L.kind)
 dsimp only at hns₁ hsb₁ ⊢
 generalize hH2 : s2.heap.push { cls := .type "list", dict := none, data := .seq ([] : List Value).toArray } = Hp2 at hns₁ hsb₁ ⊢
 have hC : Hp2.objs.size = s2.heap.objs.size + 1 := by rw [← hH2, Heap.size_push]
 generalize hD0 : s2.heap.objs.size = D at hC ⊢
 generalize hC0 : Hp2.objs.size = C at hC hns₁ hsb₁ ⊢
 have hDC : D ≠ C := by omega
 have below : ∀ b, b < D → b ≠ C := fun b hb => by omega
 have old : ∀ b o, s2.heap.get? b = some o → h₁.get? b = some o := fun b o e =>
   hsb₁.extBut b o (below b (by rw [← hD0]; exact Heap.lt_size e)) (Heap.get?_push_of_some _ (hH2 ▸ Heap.get?_push_of_some _ e))
 have hacc : h₁.get? D = some { cls := .type "list", data := .seq ([] : List Value).toArray 0 } := by
   subst hD0
   exact hsb₁.extBut _ _ hDC (Heap.get?_push_of_some _ (hH2 ▸ Heap.get?_push_size _ rfl))
 have fo : ∀ b ∈ fp, ∃ o, s2.heap.get? b = some o := fun b hb => let ⟨o, e, _⟩ := T.obj _ _ st2 b hb; ⟨o, e⟩
 have flt : ∀ b ∈ fp, b < D := fun b hb => let ⟨o, e⟩ := fo b hb; by rw [← hD0]; exact Heap.lt_size e
 have st1 : tn 0 h₁ := T.keep _ _ _ st2 fun b hb o e => old b o e
 let R := compPost (model X.prog X.w) X.A X.xe use Qc (.ref D) C
 let xe := notedBy (model X.prog X.w) X.A (compEnvC scope cl C X.env) fun e s' => R (.error e) s'
 let X' := X.inC scope cl C s2 H2 fp (x :: js.map (fun j => X.N.getD j "")) xe
 have I0 : ∀ {t' : Nat}, Inv X' [(D, _)] (none :: js.map (fun j => σ.getD j none)) H2 { s2 with heap := h₁, toks := t' } := fun {t'} =>
   Inv.inC L I2 f2 fo (by omega) (by omega) hDC old hns₁ hacc (fun v z => by cases z)
 have fpk : ∀ {pD : List (Addr × Obj)} {H' : Hp}, (∀ p ∈ pD, p.1 = D) → (∀ b ∈ fp, H' b = none) → ∀ b ∈ fp, FpOk X' pD H' b := fun {pD H'} hp hn b hb => by
   refine ⟨hn b hb, below b (flt b hb), fun z => ?_, .inl hb, fun y c e => (f2 b hb).2.2.2.2.1 y c (L.sub y c e), fun p hp' z => ?_⟩
   · rcases List.mem_cons.mp (I2.stkSub b z) with e | e
     · exact (f2 b hb).2.1 e
     · exact (f2 b hb).2.2.1 e
   · have q := hp p (by simpa [X', Cx.inC] using hp')
     have := flt b hb
     rw [← z, q] at this
     exact Nat.lt_irrefl _ this
 have loop : ∀ s3 : Shared, (∃ k i ys H' its n σ0, Inv X' [(D, { cls := .type "list", data := .seq (its : List Value).toArray n })] (σ0 :: js.map (fun j => σ.getD j none)) H' s3 ∧ tn i s3.heap ∧ (∀ b ∈ fp, H' b = none) ∧ W i k ys H' ∧ Vals ys its ∧ ys.length ≤ sizeLine) →
     codeAny (model X.prog X.w) X.A (.compLoop (.ListComp elt [⟨.Name x px, iter, [c], 0⟩] scope pos) 0 (.ref it) (.ref D) (compEnvC scope cl C X.env)) R s3 := by
   rintro s3 ⟨k, hk⟩
   refine codeAny_loop rfl (fun k s3 => ∃ i ys H' its n σ0, Inv X' [(D, { cls := .type "list", data := .seq (its : List Value).toArray n })] (σ0 :: js.map (fun j => σ.getD j none)) H' s3 ∧ tn i s3.heap ∧ (∀ b ∈ fp, H' b = none) ∧ W i k ys H' ∧ Vals ys its ∧ ys.length ≤ sizeLine) (fun k s3 hI => ?_) k hk
   obtain ⟨i, ys, H3, its, n, σ0, I3, st3, fr3, w3, vy, hz⟩ := hI
   show wpAny _ _ ((compTurn (.ListComp elt [⟨.Name x px, iter, [c], 0⟩] scope pos) 0 (.ref it) (.ref D) (compEnvC scope cl C X.env)).onRaise (fun x => do noteFrame x (compEnvC scope cl C X.env); theTreesLotGoes x)) _ _ s3
   refine wpAny_noted ?_
   rw [compTurn_list]
   have hpD : ∀ {o : Obj}, ∀ p ∈ [(D, o)], p.1 = D := fun p hp => by rw [List.mem_singleton.mp hp]
   refine wpAny_bind (wpAny_standAt (wpAny_bind ?_))
   rcases turn i k ys H3 w3 with ⟨stop, qn⟩ | ⟨go, hlen, N, S, hN, hS, step⟩
   · refine thn (T.done X' rfl rfl rfl hc i _ s3 _ H3 xe I3 (fpk hpD fr3) st3 stop) fun r s4 ⟨hr, I4⟩ => ?_
     subst hr
     refine wpAny_pure ?_
     obtain ⟨m, hn, _⟩ := I4.loc
     obtain ⟨eD, nD, _⟩ := I4.pin (D, _) (List.mem_append_right _ (List.mem_singleton.mpr rfl))
     have fC : FpOk X pins (upd H3 D (.lst ys)) C := I2.fpOk (by omega) (by
       rw [uqn (Ne.symm hDC)]
       exact I4.free)
     refine fin D C (upd H3 D (.lst ys)) s4 m hn fC (fun h' sb => ?_) (qn D nD)
     obtain ⟨hh, g, d, t, os'⟩ := s4
     obtain rfl : os' = s2.os := I4.os
     have kp : ∀ b o, b ≠ C → hh.get? b = some o → h'.get? b = some o := fun b o hb e => (sb.2 b hb).trans e
     have lt2 : ∀ b o, s2.heap.get? b = some o → b ≠ C ∧ b ≠ D := fun b o e => by
       have q : b < D := by rw [← hD0]; exact Heap.lt_size e
       exact ⟨below b q, Nat.ne_of_lt q⟩
     have B : Un (frs X.stack) fp H2 H3 s2.heap hh := I4.base
     have hDn : H3 D = none := nD
     have I5 : Inv X pins σ (upd H3 D (.lst ys)) { s2 with heap := h', gens := g, drawn := d, toks := t } := by
       refine I2.call (h' := h') (g' := g) (d' := d) (t' := t) (ch := fp) ⟨?_, ?_, ?_, ?_, ?_, ?_, ?_⟩ ?_ I4.bare ?_
       · exact fun b o e n hb hx => kp b o (lt2 b o e).1 (B.keep b o e n hb hx)
       · intro b o e n hb hx
         obtain ⟨sl, q⟩ := B.slot b o e n hb hx
         exact ⟨sl, kp b _ (lt2 b o e).1 q⟩
       · intro b o e n hx
         rw [uqn (lt2 b o e).2]
         exact B.free b o e n hx
       · intro b o e hx
         obtain ⟨o', q⟩ := B.there b o e hx
         exact ⟨o', kp b o' (lt2 b o e).1 q⟩
       · intro b xs e
         have q := B.tups b xs e
         rw [uqn (nqn q hDn)]
         exact q
       · intro b o u e
         have q := B.frzs b o u e
         rw [uqn (nqn q hDn)]
         exact q
       · intro b ps e
         obtain ⟨more, q⟩ := B.tbls b ps e
         exact ⟨more, by rw [uqn (nqn q hDn)]; exact q⟩
       · intro b u e
         by_cases hb : b = D
         · subst hb
           rw [uqs] at e
           cases e
           exact ⟨hz, its, n, vy, kp _ _ hDC eD⟩
         · rw [uqn hb] at e
           have nC : ∀ c o, H3 c = some o → c ≠ C := fun c o q => nqn q I4.free
           refine (I4.hok b u e).stay (fun c v hc' q => kp c v ?_ q) (fun c q => by rw [uqn (nqn q hDn)]; exact q) fun c xs q => by rw [uqn (nqn q hDn)]; exact q
           rcases hc' with z | z
           · rw [z]; exact nC b u e
           · exact nC c _ z
       · intro b hb
         obtain ⟨_, f1, _, f3, f4, f5⟩ := f2 b hb
         exact ⟨f3, f1, f4, f5⟩
     exact I5
   · refine thn (T.item X' rfl rfl rfl hc i _ s3 _ H3 xe I3 (fpk hpD fr3) st3 go) fun r s4 ⟨u, hr, h4⟩ => ?_
     subst hr
     refine wpAny_bind (thn h4 fun _ s5 ⟨xv, H5, I5, r5, y5, st5, fr5⟩ => ?_)
     have I5' := I5.pinned (fpk hpD fr5) (T.obj _ _ st5)
     refine wpAny_bind (thn (pg_name (X := X') (i := 0) L.nd rfl (Or.inl (lookup_relabel_local L.loc)) (Or.inr (lookup_relabel_local L.loc)) _ s5 _ H5 xv u (fun σ6 H6 => σ6 = some xv :: js.map (fun j => σ.getD j none) ∧ H6 = H5) I5' r5 ⟨rfl, rfl⟩) fun _ s6 ⟨σ6, H6, I6, e6, e6'⟩ => ?_)
     subst e6 e6'
     refine wpAny_bind (thn (wpAny_tests_one (ht C s2 H2 fp xe _ s6 _ _ _ I6 (step xv _ y5))) fun ok s6b ⟨H6b, I6b, q6b⟩ => ?_)
     cases ok with
     | false =>
       have q6b : S H6b := q6b
       obtain ⟨m', hm, w7⟩ := hS H6b q6b
       have pinf : ∀ b ∈ fp, ∀ o, s5.heap.get? b = some o → s6b.heap.get? b = some o ∧ H6b b = none := fun b hb o e => by
         have z := I6b.pin (b, o) (List.mem_append_right _ (List.mem_append_right _ (mem_pinsAt hb e)))
         exact ⟨z.1, z.2.1⟩
       refine wpAny_pure ⟨rfl, m', hm, i + 1, ys, H6b, its, n, some xv, I6b.unpinned, T.keep _ _ _ st5 fun b hb o e => (pinf b hb o e).1, fun b hb => ?_, w7, vy, hz⟩
       obtain ⟨o, e, _⟩ := T.obj _ _ st5 b hb
       exact (pinf b hb o e).2
     | true =>
       have q6b : te (some xv :: js.map (fun j => σ.getD j none)) H6b N := q6b
       refine wpAny_bind (wpAny_bind (thn (he C s2 H2 fp xe _ s6b _ _ _ I6b q6b) fun y s7 ⟨yv, H7, I7, ry, n7⟩ => ?_))
       obtain ⟨m', hm, w7⟩ := hN yv H7 n7
       have I7' := I7.unpinned
       obtain ⟨eD, nD, neC, nfs, _⟩ := I7'.pin (D, _) (List.mem_append_right _ (List.mem_singleton.mpr rfl))
       have eD' : s7.heap.get? D = some { cls := .type "list", data := .seq its.toArray n } := eD
       have lv := vy.length
       refine wpAny_bind (call_meets F.slot_list_append ⟨_, eD', rfl⟩ F.entry_list_append (F.args_list_append_2 _ _) (PySem.list_append D its.toArray n y (by rw [List.size_toArray]; omega)) ⟨eD', ?_⟩)
       refine wpAny_pure (wpAny_pure ⟨rfl, m', hm, i + 1, ys ++ [yv], H7, its ++ [y], ?_⟩)
       have q := PySem.IsL.update eD' (fun a : Array Value => a.push y)
       have I8 : Inv X' [] (some xv :: js.map (fun j => σ.getD j none)) H7 { s7 with heap := s7.heap.update D (Obj.mapSeq (fun a : Array Value => a.push y)) } :=
         (I7'.pins_of (pins' := []) (fun p hp => nomatch hp)).turned (t' := s7.toks) (it := D) (fun b o hb e => (Heap.get?_update_other s7.heap _ (Ne.symm hb)).trans e) nD neC (.inr (by show s2.heap.objs.size ≤ D; omega))
           (fun z c e w => by
             obtain ⟨v', o', ho', _⟩ := I2.cell z c (L.sub z c e)
             have := Heap.lt_size ho'
             rw [w, hD0] at this
             exact Nat.lt_irrefl _ this) (fun p hp => nomatch hp)
       have pinf : ∀ b ∈ fp, ∀ o, s5.heap.get? b = some o → s7.heap.get? b = some o ∧ H7 b = none := fun b hb o e => by
         have z := I7.pin (b, o) (List.mem_append_right _ (List.mem_append_right _ (mem_pinsAt hb e)))
         exact ⟨z.1, z.2.1⟩
       obtain ⟨n', q'⟩ : ∃ n', (s7.heap.update D (Obj.mapSeq (fun a : Array Value => a.push y))).get? D = some { cls := .type "list", data := .seq (its ++ [y]).toArray n' } := by
         rw [show (its ++ [y]).toArray = its.toArray.push y by simp]
         exact ⟨_, q⟩
       refine ⟨n', some xv, I8.pins_of fun p hp => ?_, ?_, fun b hb => ?_, w7, vy.append (.cons ry .nil), by rw [List.length_append, List.length_singleton]; omega⟩
       · rw [List.mem_singleton.mp hp]
         exact ⟨q', nD, neC, nfs, fun v z => by cases z⟩
       · refine T.keep _ _ _ st5 fun b hb o e => ?_
         have hb' : D ≠ b := fun z => by
           have := flt b hb
           rw [← z] at this
           exact Nat.lt_irrefl _ this
         exact (Heap.get?_update_other s7.heap _ hb').trans (pinf b hb o e).1
       · obtain ⟨o, e, _⟩ := T.obj _ _ st5 b hb
         exact (pinf b hb o e).2
 have start : ∀ {t' : Nat}, ∃ k i ys H' its n σ0, Inv X' [(D, { cls := .type "list", data := .seq (its : List Value).toArray n })] (σ0 :: js.map (fun j => σ.getD j none)) H' { s2 with heap := h₁, toks := t' } ∧ tn i h₁ ∧ (∀ b ∈ fp, H' b = none) ∧ W i k ys H' ∧ Vals ys its ∧ ys.length ≤ sizeLine := fun {t'} =>
   ⟨k0, 0, [], H2, [], 0, none, I0, st1, fun b hb => (f2 b hb).1, w0, .nil, Nat.zero_le _⟩
 exact codeAny_compStart_list (loop _ start) (T.self X.A 0 _ _ _ st1 (loop _ start))
theorem pe_lcIf {elt iter c : Expr} {x : Str} {px pos : Pos} {scope : Scope} {cl : List (Str × Addr)} {wi : TI} {te : TE} {tt : TT} (js : List Nat) (hc : X.calm = true) (L : LcOk X x scope cl js) (hi : PI X (.Name x px) iter wi)
   (ht : ∀ C s2 H2 fp xe, PT (X.inC scope cl C s2 H2 fp (x :: js.map (fun j => X.N.getD j "")) xe) c tt)
   (he : ∀ C s2 H2 fp xe, PE (X.inC scope cl C s2 H2 fp (x :: js.map (fun j => X.N.getD j "")) xe) elt te)
   (hs : ∀ z, foldedSetIterable iter X.env z = pure z := by intro _; rfl) :
   PE X (.ListComp elt [⟨.Name x px, iter, [c], 0⟩] scope pos) (tLCIf wi tt te js) := by
 intro pins s σ H Q I h
 rw [eval_ListComp]
 exact lcIf_core (use := none) hc L hi he ht hs I h fun D C H4 s4 m hn _ I4 q => ⟨m, hn, fun h' sb => ⟨.ref D, H4, I4 h' sb, rfl, q⟩⟩
end
end L2
namespace L2
open PySem PySem.Spec PyProof.Rows L3
def RawD (h : Heap) (d : Addr) (es : Array DictEntry) (ep : Nat) : Prop := ∃ o, h.get? d = some o ∧ o.ExactDict ∧ o.data = .dict es ep
section
variable {prog : Program} {w : World} {A : Around} {E : Value → Shared → Prop} {s : Shared}
theorem RawD.typeIs {d : Addr} {es : Array DictEntry} {ep : Nat} (x : RawD s.heap d es ep) : s.TypeIs (.ref d) "dict" := by
 obtain ⟨o, ho, hc, _⟩ := x
 exact ⟨o, ho, hc.1⟩
theorem raw_iter {d : Addr} {es : Array DictEntry} {ep : Nat} {Q : Value → Shared → Prop} (hd : (d == sysModules) = false) (hm : RawD s.heap d es ep)
   (hQ : Q (.ref s.heap.objs.size) { s with heap := s.heap.push { cls := .type "dict_keyiterator", data := .fields #[.ref d, .int 0 0, .int es.size 0, .int ep 0] } }) :
   wpAny (model prog w) A (pyIter (.ref d)) Q E s := by
 have hT := hm.typeIs
 obtain ⟨o, ho, hc, hdat⟩ := hm
 refine wpAny_pyIter_slot hT F.slot_dict_iter (wpAny_call_entry F.slot_dict_iter hT F.entry_dict_iter ?_ (F.args_dict_iter_1 _))
 unfold Builtin.«dict.__iter__» Builtin.Dict.dictSlotNone
 refine wpAny_bind (wpAny_bind (wpAny_notOrdered_dict hT ?_))
 show wpAny _ _ (pure (Value.ref d)) _ _ s
 refine wpAny_pure ?_
 show wpAny _ _ (Builtin.Dict.showsAll d >>= _) _ _ s
 unfold Builtin.Dict.showsAll
 rw [if_neg (by rw [hd]; exact Bool.false_ne_true)]
 refine wpAny_bind (wpAny_pure (wpAny_bind (wpAny_dictEntries ho hdat (wpAny_bind (wpAny_dictEpoch ho hdat ?_)))))
 refine wpAny_bind (wpAny_newObj_type (wpAny_pure ⟨_, rfl, "dict_keyiterator", _, ⟨_, Heap.get?_push_size _ rfl, rfl⟩, F.slot_dict_keyiterator_next.lookup, ?_⟩))
 simpa [rawInt] using hQ
theorem raw_next {it d : Addr} {i ep : Nat} {es : Array DictEntry} {Q : Option Value → Shared → Prop} (hh : A.handled = none) (hit : s.heap.IsKeyIter it d i es.size ep) (hm : RawD s.heap d es ep)
   (h1 : ∀ (h : i < es.size) h', h'.IsKeyIter it d (i + 1) es.size ep → Heap.SameBut it s.heap h' → Q (some es[i].key) { s with heap := h' })
   (h2 : es.size ≤ i → ∀ h', Heap.ExtBut it s.heap h' → Q none { s with heap := h' }) : wpAny (model prog w) A (pyNext (.ref it)) Q E s := by
 obtain ⟨o, ho, hc, hd⟩ := id hit
 obtain ⟨od, hod, hcd, hdd⟩ := id hm
 unfold pyNext
 refine wpAny_bind (wpAny_attempt (wpAny_callSpecial?_slot (name := Str.ofString "__next__") hit.typeIs F.slot_dict_keyiterator_next
   (wpAny_call_entry F.slot_dict_keyiterator_next hit.typeIs F.entry_dict_keyiterator_next ?_ (F.args_dict_keyiterator_next_1 _))))
 refine wpAny_bind (wpAny_pure (wpAny_bind (wpAny_bind ?_)))
 first | refine wpAny_bind (wpAny_typeNameOfWhole_keyiter hit.typeIs (wpAny_pure ?_)) | refine wpAny_bind (wpAny_typeNameOf_keyiter hit.typeIs (wpAny_pure ?_))
 refine wpAny_bind (wpAny_fieldsOf ho hd ?_)
 have hown : Builtin.Dict_items.ownsTuple "dict_keyiterator" = false := by decide
 simp only [hown, Bool.false_eq_true, if_false]
 show wpAny _ _ (if (Value.ref d == Value.none) = true then _ else _) _ _ s
 rw [if_neg (show ¬ ((Value.ref d == Value.none) = true) from Bool.false_ne_true)]
 refine wpAny_bind (wpAny_pure (wpAny_bind (wpAny_dictEntries hod hdd ?_)))
 rw [if_neg (by simp)]
 refine wpAny_bind (wpAny_pure (wpAny_bind (wpAny_dictEpoch hod hdd ?_)))
 rw [if_neg (by simp)]
 refine wpAny_pure ?_
 rcases Nat.lt_or_ge i es.size with hlt | hge
 · simp only [show ¬ ((i : Int) < 0) from by omega, if_false, Int.toNat_natCast, Array.getElem?_eq_getElem hlt]
   refine wpAny_bind ?_
   first | refine wpAny_bind (wpAny_typeNameOfWhole_keyiter hit.typeIs (wpAny_pure ?_)) | refine wpAny_bind (wpAny_typeNameOf_keyiter hit.typeIs (wpAny_pure ?_))
   refine wpAny_bind (wpAny_isOneOf_keyiter hit.typeIs ?_)
   show wpAny _ _ (setField (.ref it) 1 (rawInt ((i : Int) + 1)) >>= _) _ _ s
   refine wpAny_bind (wpAny_setField ho hd (by simp) ?_)
   have hit' : (s.heap.update it (Obj.mapFields (·.setIfInBounds 1 (rawInt ((i : Int) + 1))))).IsKeyIter it d (i + 1) es.size ep :=
     ⟨_, Heap.get?_update_self _ ho (Obj.isFreed_of_fields (Obj.data_mapFields hd _)), (Obj.cls_mapFields ..).trans hc, by rw [Obj.data_mapFields hd]; simp [rawInt]⟩
   refine wpAny_bind (wpAny_holding ?_)
   refine wpAny_bind (wpAny_isOneOf_keyiter (s := { s with heap := s.heap.update it (Obj.mapFields (·.setIfInBounds 1 (rawInt ((i : Int) + 1)))) }) hit'.typeIs ?_)
   show wpAny _ _ (pure es[i].key) _ _ _
   exact wpAny_pure (wpAny_pure ⟨_, rfl, wpAny_pure (h1 hlt _ hit' (Heap.SameBut.update ..))⟩)
 · simp only [show ¬ ((i : Int) < 0) from by omega, if_false, Int.toNat_natCast, Array.getElem?_eq_none hge]
   refine wpAny_bind ?_
   first | refine wpAny_bind (wpAny_typeNameOfWhole_keyiter hit.typeIs (wpAny_pure ?_)) | refine wpAny_bind (wpAny_typeNameOf_keyiter hit.typeIs (wpAny_pure ?_))
   show wpAny _ _ (setField (.ref it) 0 .none >>= _) _ _ s
   refine wpAny_bind (wpAny_setField ho hd (by simp) ?_)
   show wpAny _ _ (newExc (.type "StopIteration") [] >>= _) _ _ _
   refine wpAny_bind ?_
   simp only [newExc, newTuple]
   refine wpAny_bind (wpAny_newObj_type ?_ (by size_fits))
   refine wpAny_bind (m := firstArgMember _ _) (wpAny_of_eq (a := Value.none) (by first | rfl | (simp only [firstArgMember]; rfl)) ?_)
   refine wpAny_newObj_type ?_ (by size_fits)
   simp only [raiseNew]
   refine wpAny_bind (wpAny_handled ?_)
   rw [show A.in1.handled = none from hh]
   refine wpAny_bind (wpAny_pure (wpAny_throw ?_))
   refine wpAny_bind (wpAny_isInstance (T := "StopIteration") (b := true) ⟨_, Heap.get?_push_size _ rfl, rfl⟩ isSubtype_stop ?_)
   exact wpAny_pure (h2 hge _ (((Heap.SameBut.update ..).extBut.push _).push _))
end
section
variable {X : Cx}
theorem call_max {k : Nat} (hr : Room true k X.A) : CallR X (.builtin "max") (fun xs H Q => ∃ (p : Addr) (ns : List Int), xs = [.ref p] ∧ SqL X.K H p (ns.map V.int) ∧ 0 < ns.length ∧ ∀ m, m ∈ ns → (∀ a ∈ ns, a ≤ m) → Q (.int m) H) := by
 intro pins s σ H xs us Q I r h
 obtain ⟨p, ns, rfl, hq, hn, q⟩ := h
 obtain ⟨u, rfl, rx⟩ := vals1 r
 cases rx
 obtain ⟨its, r', pl, hz⟩ := I.list hq
 have hi := ints_of r'
 have hl := pl.isList
 obtain ⟨xs, e⟩ := hi.allInts.items
 have hns : ns = xs.toList.map (·.1) := by
   rw [← hi.numsOf, ← nums_intItems, ← e]
 have hsz : 0 < xs.size := by
   have h3 := hn; rw [hns, List.length_map, Array.length_toList] at h3; exact h3
 rw [e] at hl
 refine max_intList (hr.hd rfl) hl hsz fun v h' tk hv hk => ?_
 obtain ⟨t, rfl⟩ := intItems_at hv
 obtain ⟨h1, h2⟩ := argBest_gt (numAt xs) (xs.size - 1)
 refine ⟨.int _, H, I.kept hk, ⟨t, rfl⟩, q _ ?_ fun a ha => ?_⟩
 · rw [hns, numAt_eq]; exact getD_mem (by rw [List.length_map, Array.length_toList]; omega)
 · rw [hns] at ha
   obtain ⟨j, hj, rfl⟩ := mem_getD ha
   rw [List.length_map, Array.length_toList] at hj
   rw [← numAt_eq]; exact h2 j (by omega)
end
theorem bt_max : bootBuiltins "max" = some (.builtin "max") := by decide +kernel
end L2
namespace L2
open PySem PySem.Spec PyProof.Rows L3
section
variable {X : Cx} {pins : List (Addr × Obj)} {σ : St} {H : Hp} {s : Shared}
theorem Inv.freeze {d : Addr} {kvs : List (List Key × V)} {o : Obj} (I : Inv X pins σ H s) (hd : H d = some (.dT kvs)) (ho : s.heap.get? d = some o) : Inv X pins σ (upd H d (.frz o (.dT kvs))) s := by
 have ne : ∀ b, H b = none → b ≠ d := fun b e z => by rw [z, hd] at e; cases e
 refine I.step (h' := s.heap) (g' := s.gens) (t' := s.toks) (d' := s.drawn) (ch := []) (fun _ z => nomatch z) (fun b o _ _ _ e _ => e) (fun b o _ _ _ e _ => ⟨o.slots, e⟩) (fun b o _ _ n => by rw [uqn (ne b n)]; exact n) (fun b o _ e => ⟨o, e⟩)
   (fun b xs e => ?_) (fun b o u e => ?_) (fun b ps e => ⟨#[], ?_⟩) (fun m h => h) ?_ I.bare
 · rw [uqn (ne_of e hd (by intro z; cases z))]; exact e
 · rw [uqn (ne_of e hd (by intro z; cases z))]; exact e
 · rw [uqn (ne_of e hd (by intro z; cases z))]; simpa using e
 · have own : ∀ (c y : Addr), H c = some (.own y) → upd H d (.frz o (.dT kvs)) c = some (.own y) := fun c y e => by rw [uqn (ne_of e hd (by intro z; cases z))]; exact e
   have tup : ∀ (c : Addr) (xs : List V), H c = some (.tup xs) → upd H d (.frz o (.dT kvs)) c = some (.tup xs) := fun c xs e => by rw [uqn (ne_of e hd (by intro z; cases z))]; exact e
   intro b u e
   by_cases hb : b = d
   · subst hb
     rw [uqs] at e
     cases e
     exact ⟨ho, (I.hok b _ hd).stay (fun _ _ _ q => q) (fun c q => own c b q) tup⟩
   · rw [uqn hb] at e
     exact (I.hok b u e).stay (fun _ _ _ q => q) (fun c q => own c b q) tup
theorem Inv.thaw {d : Addr} {kvs : List (List Key × V)} {o : Obj} (I : Inv X pins σ H s) (hd : H d = some (.frz o (.dT kvs))) (hn : ∀ o' u', X.H₀ d ≠ some (.frz o' u')) : Inv X pins σ (upd H d (.dT kvs)) s := by
 have ne : ∀ b, H b = none → b ≠ d := fun b e z => by rw [z, hd] at e; cases e
 have nn : ∀ b, H b = none → upd H d (.dT kvs) b = none := fun b e => by rw [uqn (ne b e)]; exact e
 have own : ∀ (c y : Addr), H c = some (.own y) → upd H d (.dT kvs) c = some (.own y) := fun c y e => by rw [uqn (ne_of e hd (by intro z; cases z))]; exact e
 have tup : ∀ (c : Addr) (xs : List V), H c = some (.tup xs) → upd H d (.dT kvs) c = some (.tup xs) := fun c xs e => by rw [uqn (ne_of e hd (by intro z; cases z))]; exact e
 refine ⟨I.ok, I.os, I.bare, ⟨I.base.keep, I.base.slot, fun b o e n hx => nn b (I.base.free b o e n hx), I.base.there, fun b xs e => tup b xs (I.base.tups b xs e), fun b o' u e => ?_, fun b ps e => ?_⟩, I.loc, I.cell, nn _ I.free, fun x c e => nn _ (I.freeC x c e), fun p hp => ?_, ?_, I.len⟩
 · have q := I.base.frzs b o' u e
   rw [uqn (fun z => hn o' u (by rw [← z]; exact e))]
   exact q
 · obtain ⟨more, q⟩ := I.base.tbls b ps e
   exact ⟨more, by rw [uqn (ne_of q hd (by intro z; cases z))]; exact q⟩
 · obtain ⟨a, b, c⟩ := I.pin p hp
   exact ⟨a, nn _ b, c⟩
 · intro b u e
   by_cases hb : b = d
   · subst hb
     rw [uqs] at e
     cases e
     exact (show ObjOk X.prog X.w H s.heap b (.frz o (.dT kvs)) from I.hok b _ hd).2.stay (fun _ _ _ q => q) (fun c q => own c b q) tup
   · rw [uqn hb] at e
     exact (I.hok b u e).stay (fun _ _ _ q => q) (fun c q => own c b q) tup
end
def ItD (d : Addr) (o : Obj) (kvs : List (List Key × V)) (as : List Addr) : It :=
 ⟨fun i H => H d = some (.frz o (.dT kvs)) ∧ i < as.length, fun i H x H' => H' = H ∧ ∃ a, as[i]? = some a ∧ x = .ref a, fun i H => H d = some (.frz o (.dT kvs)) ∧ as.length ≤ i⟩
theorem turn_dict {P : Program} {w : World} {K : PySem.W.Frag} {tg : Expr} {d it : Addr} {o : Obj} {kvs : List (List Key × V)} {as : List Addr} {es : Array DictEntry} {ep : Nat} (hc : o.ExactDict) (hd : o.data = .dict es ep) (hl : es.size = as.length)
   (hk : ∀ i (h : i < es.size), ∃ a, as[i]? = some a ∧ es[i].key = .ref a) : Turn P w K tg (ItD d o kvs as) [it] it (fun i h => h.IsKeyIter it d i es.size ep) where
 mem := by simp
 obj := fun i h st b hb => by
   have e : b = it := by simpa using hb
   subst e
   obtain ⟨o, e, c, d⟩ := st
   exact ⟨o, e, fun v z => by rw [d] at z; cases z⟩
 keep := fun i h h' st k => st.at fun o e => k it (by simp) o e
 item := by
   intro X hP hw hK hcm i pins s σ H E I hf st hg
   subst hP hw hK
   obtain ⟨hdf, hlt⟩ := hg
   obtain ⟨f0, f1, f2, f3, f4, f5⟩ := hf it (by simp)
   have raw : RawD s.heap d es ep := ⟨o, (show ObjOk X.prog X.w H s.heap d (.frz o (.dT kvs)) from I.hok d _ hdf).1, hc, hd⟩
   refine raw_next (I.ok.hd hcm) st raw (fun hi h' st' sb => ?_) fun hge => absurd hge (by omega)
   obtain ⟨a, ha, hka⟩ := hk i hi
   have I1 : Inv X pins σ H { s with heap := h' } := I.turned (t' := s.toks) (fun b o hb e => (sb.2 b hb).trans e) f0 f1 f3 f4 f5
   obtain ⟨o', e, c, d'⟩ := id st'
   exact ⟨_, rfl, go_of (s := { s with heap := h' }) e c d' (by decide) ⟨.ref a, H, I1, hka, ⟨rfl, a, ha, rfl⟩, st', fun b hb => (hf b hb).1⟩⟩
 done := by
   intro X hP hw hK hcm i pins s σ H E I hf st hg
   subst hP hw hK
   obtain ⟨hdf, hge⟩ := hg
   obtain ⟨f0, f1, f2, f3, f4, f5⟩ := hf it (by simp)
   have raw : RawD s.heap d es ep := ⟨o, (show ObjOk X.prog X.w H s.heap d (.frz o (.dT kvs)) from I.hok d _ hdf).1, hc, hd⟩
   exact raw_next (I.ok.hd hcm) st raw (fun hi => absurd hi (by omega)) fun _ h' eb => ⟨rfl, I.turned (t' := s.toks) (fun b o hb e => eb b o hb e) f0 f1 f3 f4 f5⟩
 self := fun _ _ _ _ _ st h => wpAny_pyIter_keyiter st h
section
variable {X : Cx}
theorem paired_as {P : Program} {w : World} {H : Hp} : ∀ {kvs : List (List Key × V)} {xs : List (List Key × Addr × Value)}, Paired (fun (p : List Key × V) (q : List Key × Addr × Value) => p.1 = q.1 ∧ H q.2.1 = some (.tup (p.1.map kV)) ∧ RelV p.2 q.2.2) kvs xs →
   Paired (fun (p : List Key × V) (a : Addr) => H a = some (.tup (p.1.map kV))) kvs (xs.map (·.2.1))
 | _, _, .nil => .nil
 | _, _, .cons r rr => .cons r.2.1 (paired_as (P := P) (w := w) rr)
def iDT (X : Cx) (te : TE) : TI := fun σ H R => te σ H fun x H1 => ∃ (d : Addr) (kvs : List (List Key × V)), x = .ref d ∧ H1 d = some (.dT kvs) ∧ ∀ (o : Obj) (as : List Addr), (∀ o' u', X.H₀ d ≠ some (.frz o' u')) → Paired (fun (p : List Key × V) (a : Addr) => H1 a = some (.tup (p.1.map kV))) kvs as → R (ItD d o kvs as) (upd H1 d (.frz o (.dT kvs)))
theorem pi_dT {tg e : Expr} {te : TE} (he : PE X e te) : PI X tg e (iDT X te) := by
 intro pins s σ H R I h
 refine thn (he pins s σ H _ I h) fun v s1 ⟨x, H1, I1, r1, q1⟩ => ?_
 obtain ⟨d, kvs, rfl, hd, q⟩ := q1
 cases r1
 obtain ⟨hz, hsm, xs, pr, o, es, ep, ho, hc, hdat, hes, hnd⟩ := (show ObjOk X.prog X.w H1 s1.heap d (.dT kvs) from I1.hok d _ hd)
 have hn : ∀ o' u', X.H₀ d ≠ some (.frz o' u') := fun o' u' e => by
   have := I1.base.frzs d o' u' e
   rw [hd] at this
   cases this
 have hl : es.size = (xs.map (·.2.1)).length := by
   rw [← Array.length_toList, hes, List.length_map, List.length_map]
 have hk : ∀ i (h : i < es.size), ∃ a, (xs.map (·.2.1))[i]? = some a ∧ es[i].key = .ref a := fun i h => by
   have e1 : es.toList[i]? = some es[i] := by simp [h]
   rw [hes, List.getElem?_map] at e1
   cases q : xs[i]? with
   | none => rw [q] at e1; cases e1
   | some z =>
     rw [q] at e1
     refine ⟨z.2.1, by rw [List.getElem?_map, q]; rfl, ?_⟩
     rw [← Option.some.inj e1]
     rfl
 have I2 := I1.freeze hd ho
 refine raw_iter hsm ⟨o, ho, hc, hdat⟩ ?_
 have k : ∀ b u, s1.heap.get? b = some u → (s1.heap.push { cls := .type "dict_keyiterator", data := .fields #[.ref d, .int 0 0, .int es.size 0, .int ep 0] }).get? b = some u := fun b u e => Heap.get?_push_of_some _ e
 have I3 : Inv X pins σ (upd H1 d (.frz o (.dT kvs))) { s1 with heap := s1.heap.push { cls := .type "dict_keyiterator", data := .fields #[.ref d, .int 0 0, .int es.size 0, .int ep 0] } } := I2.kept (t' := s1.toks) k
 refine ⟨s1.heap.objs.size, [s1.heap.objs.size], _, ItD d o kvs (xs.map (·.2.1)), upd H1 d (.frz o (.dT kvs)), rfl, I3, turn_dict hc hdat hl hk, ⟨_, Heap.get?_push_size _ rfl, rfl, rfl⟩, fun b hb => ?_, q o _ hn (paired_as (P := X.prog) (w := X.w) pr)⟩
 rw [List.mem_singleton.mp hb]
 exact I2.fpOk (Nat.le_refl _) (I2.hok.fresh (Nat.le_refl _))
def tLCD (ti : TE) (tt : TT) (te : TE) (js : List Nat) : TE := fun σ H Q => ti σ H fun x H1 => ∃ (d : Addr) (kvs : List (List Key × V)) (f : List Key → Bool) (g : List Key → V), x = .ref d ∧ H1 d = some (.dT kvs) ∧ kvs.length < sizeLine ∧
 (∀ ks ∈ kvs.map (·.1), ∀ (a : Addr) (Hx : Hp), Hx a = some (.tup (ks.map kV)) → tt (some (.ref a) :: js.map (fun j => σ.getD j none)) Hx fun b H2 => if b = true then te (some (.ref a) :: js.map (fun j => σ.getD j none)) H2 (fun y H3 => f ks = true ∧ y = g ks ∧ H3 = Hx) else (f ks = false ∧ H2 = Hx)) ∧
 ∀ l, H1 l = none → Q (.ref l) (upd H1 l (.lst (((kvs.map (·.1)).filter f).map g)))
theorem lcd_of {ti : TE} {tt : TT} {te : TE} {js : List Nat} {σ : St} {H : Hp} {Q : VK} (mono : ∀ σ H Q Q', (∀ x H1, Q x H1 → Q' x H1) → ti σ H Q → ti σ H Q') (h : tLCD ti tt te js σ H Q) :
   tLCIf (iDT X ti) tt te js σ H (fun v H4 => ∃ (l d : Addr) (H1 : Hp) (o : Obj) (kvs : List (List Key × V)) (ys : List V), v = .ref l ∧ H1 d = some (.dT kvs) ∧ H1 l = none ∧ l ≠ d ∧ H4 = upd (upd H1 d (.frz o (.dT kvs))) l (.lst ys) ∧ (∀ o' u', X.H₀ d ≠ some (.frz o' u')) ∧ Q (.ref l) (upd H1 l (.lst ys))) := by
 refine mono σ H _ _ (fun x H1 q => ?_) h
 obtain ⟨d, kvs, f, g, rfl, hd, hz, hs, q⟩ := q
 refine ⟨d, kvs, rfl, hd, fun o as hn pr => ?_⟩
 have hlen := pr.length
 refine ⟨fun i m ys Hx => m = kvs.length - i ∧ i ≤ kvs.length ∧ Hx = upd H1 d (.frz o (.dT kvs)) ∧ ys = (((kvs.map (·.1)).take i).filter f).map g, ⟨kvs.length, by simp, Nat.zero_le _, rfl, rfl⟩, ?_⟩
 rintro i m ys Hx ⟨rfl, hi, rfl, rfl⟩
 by_cases hlt : i < kvs.length
 · refine .inr ⟨⟨uqs, by omega⟩, ?_, ?_⟩
   · refine Nat.lt_of_le_of_lt ?_ hz
     rw [List.length_map]
     refine Nat.le_trans (List.length_filter_le ..) ?_
     rw [List.length_take, List.length_map]
     omega
   · have hks : (kvs.map (·.1))[i]? = some kvs[i].1 := by rw [List.getElem?_map, List.getElem?_eq_getElem hlt]; rfl
     have tk : (kvs.map (·.1)).take (i + 1) = (kvs.map (·.1)).take i ++ [kvs[i].1] := by rw [List.take_add_one, hks]; rfl
     refine ⟨fun y H3 => f kvs[i].1 = true ∧ y = g kvs[i].1 ∧ H3 = upd H1 d (.frz o (.dT kvs)), fun H2 => f kvs[i].1 = false ∧ H2 = upd H1 d (.frz o (.dT kvs)), ?_, ?_, ?_⟩
     · rintro y H2 ⟨e1, rfl, rfl⟩
       refine ⟨kvs.length - (i + 1), by omega, rfl, hlt, rfl, ?_⟩
       rw [tk, List.filter_append, List.map_append]
       simp [e1]
     · rintro H2 ⟨e1, rfl⟩
       refine ⟨kvs.length - (i + 1), by omega, rfl, hlt, rfl, ?_⟩
       rw [tk, List.filter_append, List.map_append]
       simp [e1]
     · rintro x H' ⟨rfl, a, ha, rfl⟩
       refine hs kvs[i].1 (List.mem_of_getElem? hks) a _ ?_
       have pa : ∀ {l : List (List Key × V)} {bs : List Addr}, Paired (fun (p : List Key × V) (a : Addr) => H1 a = some (.tup (p.1.map kV))) l bs → ∀ (i : Nat) (h : i < l.length) (b : Addr), bs[i]? = some b → H1 b = some (.tup (l[i].1.map kV)) := by
         intro l bs pr
         induction pr with
         | nil => intro i h; cases h
         | cons r rr ih =>
           intro i h b e
           cases i with
           | zero => cases e; exact r
           | succ j => exact ih j (by simpa using h) b (by simpa using e)
       have ht := pa pr i hlt a ha
       rw [uqn (ne_of ht hd (by intro z; cases z))]
       exact ht
 · have e : i = kvs.length := by omega
   subst e
   refine .inl ⟨⟨uqs, by omega⟩, fun l hl => ?_⟩
   have nd : l ≠ d := fun z => by rw [z, uqs] at hl; cases hl
   rw [uqn nd] at hl
   refine ⟨l, d, H1, o, kvs, _, rfl, hd, hl, nd, rfl, hn, ?_⟩
   rw [show (kvs.map (·.1)).take kvs.length = kvs.map (·.1) by rw [← List.length_map (f := (·.1)), List.take_length]]
   exact q l hl
theorem thaw_eq {H1 : Hp} {d l : Addr} {o : Obj} {kvs : List (List Key × V)} {u : HO} (hd : H1 d = some (.dT kvs)) (hl : l ≠ d) : upd (upd (upd H1 d (.frz o (.dT kvs))) l u) d (.dT kvs) = upd H1 l u := by
 funext b
 by_cases h1 : b = d
 · subst h1
   rw [uqs, uqn (Ne.symm hl), hd]
 · rw [uqn h1]
   by_cases h2 : b = l
   · subst h2
     rw [uqs, uqs]
   · rw [uqn h2, uqn h2, uqn h1]
def MonoE (ti : TE) : Prop := ∀ σ H Q Q', (∀ x H1, Q x H1 → Q' x H1) → ti σ H Q → ti σ H Q'
theorem ps_setLCD {i : Nat} {t : Str} {elt iter c : Expr} {x : Str} {px pos cpos pos' : Pos} {scope : Scope} {cl : List (Str × Addr)} {ti : TE} {te : TE} {tt : TT} (js : List Nat) (hN : X.N.Nodup) (hi' : X.N[i]? = some t) (hx : Loc X.env.scope t) (hc : X.calm = true) (L : LcOk X x scope cl js) (hi : PE X iter ti) (mono : MonoE ti)
   (ht : ∀ C s2 H2 fp xe, PT (X.inC scope cl C s2 H2 fp (x :: js.map (fun j => X.N.getD j "")) xe) c tt)
   (he : ∀ C s2 H2 fp xe, PE (X.inC scope cl C s2 H2 fp (x :: js.map (fun j => X.N.getD j "")) xe) elt te)
   (hs : ∀ z, foldedSetIterable iter X.env z = pure z := by intro _; rfl) (hsw : swapsWith (.ListComp elt [⟨.Name x px, iter, [c], 0⟩] scope cpos) (some (.Name t pos')) pos.line X.env = pure true := by rfl)
   (hf : X.fn t = true ∨ X.env.scope.names.lookup t = some .local := by first | exact .inl rfl | exact .inr rfl | assumption) :
   PS X (.Assign [.Name t pos'] (.ListComp elt [⟨.Name x px, iter, [c], 0⟩] scope cpos) pos) (tAsg (tLCD ti tt te js) (gName i)) := by
 intro pins s σ H D I h
 rw [exec_Assign_Name_used _ _ _ _ hsw]
 refine wpAny_bind (wpAny_standAt (wpAny_bind ?_))
 show wpAny _ X.A (do let _ ← comprehension (.ListComp elt [⟨.Name x px, iter, [c], 0⟩] scope cpos) scope X.env _ (newList []) false (eval iter X.env) (some (assign (.Name t pos') X.env))) _ _ s
 refine wpAny_bind (wpAny_mono (lcIf_core (use := some (assign (.Name t pos') X.env)) (Qc := fun _ s' => SP X pins D .next s') hc L (pi_dT hi) he ht hs I (lcd_of (X := X) mono h) fun Dl C H4 s4 m hn fC I4 q => ?_) (fun _ s' hq => wpAny_pure (wpAny_pure hq)) fun _ _ e => e)
 obtain ⟨l, d, H1, o, kvs, ys, e, hd, hl, nd, rfl, hz, q⟩ := q
 cases e
 have I4t : ∀ h', Heap.SameBut C s4.heap h' → Inv X pins σ (upd H1 Dl (.lst ys)) { s4 with heap := h' } := fun h' sb => by
   have I5 := (I4 h' sb).thaw (d := d) (o := o) (kvs := kvs) (by rw [uqn (Ne.symm nd), uqs]) hz
   rw [thaw_eq hd nd] at I5
   exact I5
 have fCt : FpOk X pins (upd H1 Dl (.lst ys)) C := by
   refine ⟨?_, fC.2⟩
   have z := fC.1
   have c1 : C ≠ Dl := fun e => by rw [e, uqs] at z; cases z
   rw [uqn c1] at z ⊢
   have c2 : C ≠ d := fun e => by rw [e, uqs] at z; cases z
   rw [uqn c2] at z
   exact z
 show wpAny (model X.prog X.w) X.A (assign (.Name t pos') X.env (.ref Dl)) _ X.xe s4
 obtain ⟨oC, es, ep, hoC, hdC, rC⟩ := id hn
 have I4' : Inv X (pins ++ pinsAt [C] s4.heap) σ (upd H1 Dl (.lst ys)) s4 := (I4t s4.heap (.refl ..)).pinned (fun b hb => by rw [List.mem_singleton.mp hb]; exact fCt) fun b hb => by
   rw [List.mem_singleton.mp hb]
   exact ⟨oC, hoC, fun v z => by rw [hdC] at z; cases z⟩
 refine thn (pg_name hN hi' hx hf _ s4 σ _ (.ref Dl) (.ref Dl) D.nx I4' rfl q) fun _ s5 ⟨σ5, H5, I5, q5⟩ => ?_
 obtain ⟨e5, n5, _⟩ := I5.pin (C, oC) (List.mem_append_right _ (List.mem_append_right _ (mem_pinsAt (List.mem_singleton.mpr rfl) hoC)))
 refine ⟨m, ⟨oC, es, ep, e5, hdC, rC⟩, fun h' sb => ⟨σ5, H5, ?_, q5⟩⟩
 obtain ⟨_, f1, _, f3, f4, f5⟩ := fCt
 exact I5.unpinned.turned (t' := s5.toks) (it := C) (fun b o hb e => (sb.2 b hb).trans e) n5 f1 f3 f4 f5
end
end L2
namespace L2
open PySem PySem.Spec PyProof.Rows L3
def DefM (K : PySem.W.Frag) (C : Addr) (m qual : Str) (st : Stmt) (dV : Value) : Prop := ∃ f fd, FunD K m qual st f fd dV ∧ Meth K C m f
def CalM (P : Program) (w : World) (K : PySem.W.Frag) (mg : Str → Option Value) (base : Heap) (CX : CXT) (cm : Bool) (k : Nat) (C : Addr) (m : Str) (ps : List Str) (ds : List V) (sp : Sp) : Prop :=
 ∃ f fd dvs, FnOk P w K mg base CX cm k f fd ps sp ∧ Meth K C m f ∧ Binds K fd ps [] ∧ Vals ds dvs ∧ Binds K fd ps dvs
def DefI (K : PySem.W.Frag) (C : Addr) (qual : Str) (st : Stmt) (dV : Value) : Prop := ∃ f fd, FunD K "__init__" qual st f fd dV ∧ Mk K C f
def CalI (P : Program) (w : World) (K : PySem.W.Frag) (mg : Str → Option Value) (base : Heap) (CX : CXT) (cm : Bool) (k : Nat) (C : Addr) (ps : List Str) (ds : List V) (sp : Sp) : Prop :=
 ∃ f fd dvs, FnOk P w K mg base CX cm k f fd ps sp ∧ Mk K C f ∧ Binds K fd ps [] ∧ Vals ds dvs ∧ Binds K fd ps dvs
theorem ix_seqC {X : Cx} {scope : Scope} {cl : List (Str × Addr)} {C : Addr} {s2 : Shared} {H2 : Hp} {fp : List Addr} {N' : List Str} {xe : Value → Shared → Prop} : IxR (X.inC scope cl C s2 H2 fp N' xe) (rIx X.K) := ix_seq (X := X.inC scope cl C s2 H2 fp N' xe)
theorem mono_var (i : Nat) : MonoE (tVar i) := fun σ H Q Q' k h => by
 obtain ⟨v, e, q⟩ := h
 exact ⟨v, e, k _ _ q⟩
theorem mono_fld {K : PySem.W.Frag} {ta : TE} {f : Str} (m : MonoE ta) : MonoE (tFld K ta f) := fun σ H Q Q' k h => by
 refine m σ H _ _ (fun x H1 q => ?_) h
 obtain ⟨a, C, dx, fs, v, e1, e2, e3, e4, e5, q⟩ := q
 exact ⟨a, C, dx, fs, v, e1, e2, e3, e4, e5, k _ _ q⟩
end L2
namespace L2
open PySem PySem.Spec PyProof.Rows L3
section
variable {X : Cx}
end
end L2
namespace L2
open PySem PySem.Spec PyProof.Rows L3
theorem lc_range {lo : Int} {n : Nat} {T : V → Hp → VK → Prop} {R : Addr → Hp → List V → Prop} {H : Hp} (Pv : Nat → List V → Hp → Prop) (h0 : Pv 0 [] H) (hn : n ≤ sizeLine) (hl : ∀ i ys H, i ≤ n → Pv i ys H → ys.length = i)
   (hs : ∀ i ys H, i < n → Pv i ys H → T (.int (lo + i)) H fun y H2 => Pv (i + 1) (ys ++ [y]) H2) (hd : ∀ ys H, Pv n ys H → ∀ l, H l = none → R l H ys) :
   ∃ W : Nat → Nat → List V → Hp → Prop, (∃ m, W 0 m [] H) ∧ ∀ i m ys H, W i m ys H →
     ((Itr lo n).stop i H ∧ ∀ l, H l = none → R l H ys) ∨ ((Itr lo n).go i H ∧ ys.length < sizeLine ∧ ∃ N : VK, (∀ y H2, N y H2 → ∃ m', m' < m ∧ W (i + 1) m' (ys ++ [y]) H2) ∧ ∀ x H', (Itr lo n).yld i H x H' → T x H' N) := by
 refine ⟨fun i m ys H => m = n - i ∧ i ≤ n ∧ Pv i ys H, ⟨n, by simp, Nat.zero_le _, h0⟩, ?_⟩
 rintro i m ys H ⟨rfl, hi, p⟩
 have hy := hl i ys H hi p
 by_cases hlt : i < n
 · refine .inr ⟨hlt, by omega, fun y H2 => Pv (i + 1) (ys ++ [y]) H2, fun y H2 p' => ⟨n - (i + 1), by omega, rfl, hlt, p'⟩, fun x H' ⟨e, y⟩ => ?_⟩
   subst e y
   exact hs i ys _ hlt p
 · have e : i = n := by omega
   subst e
   exact .inl ⟨Nat.le_refl _, hd ys H p⟩
end L2
namespace L2
open PySem PySem.Spec PyProof.Rows L3
section
variable {X : Cx}
theorem Inv.laidAll {pins : List (Addr × Obj)} {σ : St} {H H' : Hp} {s : Shared} {h' : Heap} {t' : Nat} (I : Inv X pins σ H s) (k : ∀ b u, s.heap.get? b = some u → h'.get? b = some u) (same : ∀ b o, H b = some o → H' b = some o)
   (new : ∀ b, b < s.heap.objs.size → H b = none → H' b = none) (ok : ∀ b o, H b = none → H' b = some o → ObjOk X.prog X.w H' h' b o) : Inv X pins σ H' { s with heap := h', toks := t' } := by
 refine I.un ⟨fun b u q _ _ _ => k b u q, fun b u q _ _ _ => ⟨u.slots, k b u q⟩, fun b u q n _ => new b (Heap.lt_size q) n, fun b u q _ => ⟨u, k b u q⟩, fun b xs q => same _ _ q, fun b o u q => same _ _ q, fun b ps q => ⟨#[], by rw [same _ _ q]; simp⟩⟩ fun b o e => ?_
 cases hb : H b with
 | none => exact ok b o hb e
 | some o1 =>
   have e2 := same b o1 hb
   rw [e] at e2
   cases e2
   exact (I.hok b _ hb).stay (fun c v _ q => k c v q) (fun c q => same _ _ q) fun c xs q => same _ _ q
def eqT (K : PySem.W.Frag) (H : Hp) (x y : V) : Prop := (x = y ∧ eqPl x = true) ∨ ∃ a b xs, x = .ref a ∧ y = .ref b ∧ SqT K H a xs ∧ SqT K H b xs ∧ ∀ z ∈ xs, eqPl z = true
theorem Inv.eqT {pins : List (Addr × Obj)} {σ : St} {H : Hp} {s : Shared} {x y : V} {v u : Value} {A : Around} (I : Inv X pins σ H s) (hu : A.units < cLine) (e : eqT X.K H x y) (rx : RelV x v) (ry : RelV y u) : SeqAt.EqAt A s v u true := by
 rcases e with ⟨rfl, hp⟩ | ⟨a, b, xs, rfl, rfl, ha, hb, hp⟩
 · exact eqAt_self hp rx ry
 · cases rx
   cases ry
   by_cases hab : a = b
   · subst hab
     exact SeqAt.EqAt.same _
   obtain ⟨its, r, pl, hz⟩ := I.tuple ha
   obtain ⟨its2, r2, pl2, hz2⟩ := I.tuple hb
   have l1 := r.length
   have l2 := r2.length
   have h := SeqAt.RcAt.tuples (A := A) (e := fun _ => true) (show s.heap.IsTuple a its.toArray from pl) (show s.heap.IsTuple b its2.toArray from pl2) hu (fun j h1 h2 => by
     simp only [List.size_toArray] at h1 h2
     obtain ⟨x, e, rx⟩ := vals_at r j h1
     obtain ⟨x2, e2, rx2⟩ := vals_at r2 j h2
     rw [e] at e2
     cases e2
     simp only [List.getElem_toArray]
     exact eqAt_self (hp x (List.mem_of_getElem? e)) rx rx2)
   have hb : ((List.range (min its.toArray.size its2.toArray.size)).all (fun _ => true) && its.toArray.size == its2.toArray.size) = true := by
     simp only [List.size_toArray]
     rw [← l1, ← l2]
     simp
   rw [hb] at h
   exact SeqAt.EqAt.of_refs hab h
def EqLs (K : PySem.W.Frag) (H : Hp) (xs ys : List V) : Prop := xs.length = ys.length ∧ ∀ (j : Nat) x y, xs[j]? = some x → ys[j]? = some y → eqT K H x y
theorem op_eqD {cm : Bool} {k : Nat} (hr : Room cm k X.A) : OpR X (compareOp .Eq) (fun x y H Q => ∃ a b xs ys, x = .ref a ∧ y = .ref b ∧ SqL X.K H a xs ∧ SqL X.K H b ys ∧ EqLs X.K H xs ys ∧ Q (.bl true) H) := by
 intro pins s σ H x y v u Q I rx ry h
 obtain ⟨a, b, xs, ys, rfl, rfl, ha, hb, ⟨hl, he⟩, q⟩ := h
 cases rx
 cases ry
 obtain ⟨its, r, pl, hz⟩ := I.list ha
 obtain ⟨its2, r2, pl2, hz2⟩ := I.list hb
 have l1 := r.length
 have l2 := r2.length
 have hu : X.A.units < cLine := by have := hr.un; omega
 have hu1 : X.A.in1.units < cLine := by have := hr.un; show X.A.units + 1 < cLine; omega
 refine SeqAt.eq_listAt (e := fun _ => true) pl.isList pl2.isList (by simp only [List.size_toArray]; omega) hu (fun j h1 h2 => ?_) ?_
 · simp only [List.size_toArray] at h1 h2
   obtain ⟨x, e, rx⟩ := vals_at r j h1
   obtain ⟨x2, e2, rx2⟩ := vals_at r2 j h2
   simp only [List.getElem_toArray]
   exact I.eqT hu1 (he j x x2 e e2) rx rx2
 · rw [show ((List.range its.toArray.size).all fun _ => true) = true by simp]
   exact ⟨.bl true, H, I, rfl, q⟩
theorem op_neD {cm : Bool} {k : Nat} (hr : Room cm k X.A) : OpR X (compareOp .NotEq) (fun x y H Q => ∃ a b xs ys, x = .ref a ∧ y = .ref b ∧ SqL X.K H a xs ∧ SqL X.K H b ys ∧ EqLs X.K H xs ys ∧ Q (.bl false) H) := by
 intro pins s σ H x y v u Q I rx ry h
 obtain ⟨a, b, xs, ys, rfl, rfl, ha, hb, ⟨hl, he⟩, q⟩ := h
 cases rx
 cases ry
 obtain ⟨its, r, pl, hz⟩ := I.list ha
 obtain ⟨its2, r2, pl2, hz2⟩ := I.list hb
 have l1 := r.length
 have l2 := r2.length
 have hu : X.A.units < cLine := by have := hr.un; omega
 have hu1 : X.A.in1.units < cLine := by have := hr.un; show X.A.units + 1 < cLine; omega
 refine SeqAt.RcNeAt.lists (e := fun _ => true) pl.isList pl2.isList (by simp only [List.size_toArray]; omega) hu (fun j h1 h2 => ?_) _ _ _ _ ?_
 · simp only [List.size_toArray] at h1 h2
   obtain ⟨x, e, rx⟩ := vals_at r j h1
   obtain ⟨x2, e2, rx2⟩ := vals_at r2 j h2
   simp only [List.getElem_toArray]
   exact I.eqT hu1 (he j x x2 e e2) rx rx2
 · rw [show ((List.range its.toArray.size).all fun _ => true) = true by simp]
   exact ⟨.bl false, H, I, rfl, q⟩
theorem EqLs.refl {K : PySem.W.Frag} {H : Hp} {xs : List V} (h : ∀ z ∈ xs, eqPl z = true) : EqLs K H xs xs := ⟨rfl, fun j x y e1 e2 => by
 rw [e1] at e2
 cases e2
 exact .inl ⟨rfl, h x (List.mem_of_getElem? e1)⟩⟩
def rInsert : V → List V → Hp → VK → Prop := fun x vs H Q => ∃ (l : Addr) (xs : List V) (k : Nat) (y : V), x = .ref l ∧ vs = [.int k, y] ∧ H l = some (.lst xs) ∧ k ≤ xs.length ∧ xs.length < 10 ^ 6 ∧ Q .non (upd H l (.lst (xs.take k ++ y :: xs.drop k)))
theorem mt_insert : MtM X "list.insert" rInsert := by
 intro pins s σ H x vs v us Q I rx rv h
 obtain ⟨l, xs, k, y, rfl, rfl, hH, hk, hz, q⟩ := h
 cases rx
 cases rv with
 | cons r1 rr =>
   obtain ⟨u, rfl, ru⟩ := Vals.one rr
   obtain ⟨t, rfl⟩ := r1
   obtain ⟨z, its, n, r, hl, e⟩ := I.lstM hH
   have hline : 10 ^ 6 ≤ sizeLine := by decide
   obtain ⟨x, hx⟩ : ∃ x : Int, x = (k : Int) := ⟨_, rfl⟩
   rw [← hx]
   have hfit : ¬ (!Builtin.List.listFitsIndex x) = true := by
     unfold Builtin.List.listFitsIndex
     rw [decide_eq_true (by omega : -(2 ^ 63 : Int) ≤ x), decide_eq_true (by omega : x < 2 ^ 63)]
     decide
   generalize hits : its.toArray = arr at e
   have hsz : arr.size ≤ sizeLine := by rw [← hits, List.size_toArray]; omega
   have M := PySem.AutoListH.list_insert_list_int_val_1 l arr n x t u hfit hsz
   refine call_meets F.slot_list_insert ⟨_, e, rfl⟩ F.entry_list_insert (F.args_list_insert_3 _ _ _) M ⟨e, ?_⟩
   subst hits
   refine ⟨.non, _, I.lset (its' := its.take k ++ u :: its.drop k) hH e ?_ ?_ ?_, rfl, q⟩
   · have h1 : (if x < 0 then (x + ((its.toArray.size : Nat) : Int)).toNat else min x.toNat its.toArray.size) = k := by
       rw [if_neg (by omega), List.size_toArray]
       omega
     show (its.toArray.extract 0 (if x < 0 then (x + ((its.toArray.size : Nat) : Int)).toNat else min x.toNat its.toArray.size)).push u ++ its.toArray.extract (if x < 0 then (x + ((its.toArray.size : Nat) : Int)).toNat else min x.toNat its.toArray.size) = _
     rw [h1]
     apply Array.ext'
     simp
     exact List.take_of_length_le (by rw [List.length_drop]; exact Nat.le_refl _)
   · exact (r.take k).append (.cons ru (r.drop k))
   · rw [List.length_append, List.length_take, List.length_cons, List.length_drop]
     omega
def rJoin (K : PySem.W.Frag) : V → List V → Hp → VK → Prop := fun x vs H Q => ∃ (z : Str) (p : Addr) (zs : List Str), x = .str z ∧ vs = [.ref p] ∧ SqL K H p (zs.map V.str) ∧ JoinOk z zs = true ∧ Q (.str (Txt.join z zs)) H
theorem strs_of : ∀ {zs : List Str} {its : List Value}, Vals (zs.map V.str) its → ∃ l : List (Str × Tok), its = strValues l ∧ l.map (·.1) = zs
 | [], _, .nil => ⟨[], rfl, rfl⟩
 | z :: zs, _, .cons (b := v) r t => by
   obtain ⟨l, rfl, e⟩ := strs_of t
   obtain ⟨tk, rfl⟩ := r
   exact ⟨(z, tk) :: l, rfl, by rw [List.map_cons, e]⟩
theorem mt_join : MtR X "str.join" (rJoin X.K) := by
 intro pins s σ H x vs v us Q I rx rv h
 obtain ⟨z, p, zs, rfl, rfl, hS, ok, q⟩ := h
 obtain ⟨t, rfl⟩ := rx
 obtain ⟨u, rfl, ru⟩ := rv.one
 cases ru
 obtain ⟨its, r, pl, hz⟩ := I.list hS
 obtain ⟨l, rfl, e⟩ := strs_of r
 exact SC.join (l := l) pl.isList e ok fun t' k => ⟨.str _, H, I.kept (t' := k) fun _ _ e => e, ⟨t', rfl⟩, q⟩
theorem rel_key {P : Program} {w : World} {k : Key} {u : Value} (h : (mixKind P w).is k u = true) : RelV (kV k) u := by
 rcases keyIs_shape (show keyIs k u = true from h) with ⟨i, t, rfl, rfl⟩ | ⟨x, t, rfl, rfl⟩
 · exact ⟨t, rfl⟩
 · exact ⟨t, rfl⟩
def ivw (v d : Addr) : HO := .ext fun h => h.IsItemsView v d
def rItems : V → List V → Hp → VK → Prop := fun x vs H Q => ∃ (d : Addr) (kvs : List (Key × V)), x = .ref d ∧ vs = [] ∧ H d = some (.dK kvs) ∧ ∀ v, H v = none → Q (.ref v) (upd H v (ivw v d))
theorem mt_items : MtR X "dict.items" rItems := by
 intro pins s σ H x vs v us Q I rx rv h
 obtain ⟨d, kvs, rfl, rfl, hd, q⟩ := h
 cases rx
 cases rv
 obtain ⟨z, hsm, xs, rel, dd⟩ := dk_of I.hok hd
 refine call_meetsIn PySem.F.slot_dict_items dd.typeIs PySem.F.entry_dict_items (PySem.F.args_dict_items_1 _) (meets_dict_items (mixKind X.prog X.w) d hsm) ⟨⟨xs, dd⟩, ?_⟩
 refine ⟨.ref s.heap.objs.size, _, I.laid (a := s.heap.objs.size) (o := ivw s.heap.objs.size d) (t' := s.toks) (fun _ _ q => Heap.get?_push_of_some _ q) (Nat.le_refl _) ?_, rfl, q _ I.fresh⟩
 exact ⟨⟨_, Heap.get?_push_size _ rfl, rfl, rfl⟩, ⟨_, Heap.get?_push_size _ rfl⟩, fun h1 h2 ⟨o, ho, hc, hd⟩ k => ⟨o, k o ho, hc, hd⟩⟩
def hpPairs (H : Hp) (l : Addr) (as : List Addr) (kvs : List (Key × V)) : Hp := fun b => if b = l then some (.lst (as.map V.ref)) else match (as.zip kvs).find? (fun p => decide (p.1 = b)) with
 | some p => some (.tup [kV p.2.1, p.2.2])
 | none => H b
theorem find_zip : ∀ (as : List Addr) (kvs : List (Key × V)), as.Nodup → ∀ (j : Nat) a kv, as[j]? = some a → kvs[j]? = some kv → (as.zip kvs).find? (fun p => decide (p.1 = a)) = some (a, kv)
 | [], _, _, j, a, kv, h, _ => by simp at h
 | _ :: _, [], _, j, a, kv, _, h => by simp at h
 | b :: as, y :: kvs, nd, 0, a, kv, h1, h2 => by
   cases h1
   cases h2
   simp
 | b :: as, y :: kvs, nd, j + 1, a, kv, h1, h2 => by
   have nd' := List.nodup_cons.mp nd
   have h1' : as[j]? = some a := by simpa using h1
   have h2' : kvs[j]? = some kv := by simpa using h2
   have ne : ¬ b = a := fun z => nd'.1 (by rw [z]; exact List.mem_of_getElem? h1')
   rw [List.zip_cons_cons, List.find?_cons]
   simp only [ne, decide_false]
   exact find_zip as kvs nd'.2 j a kv h1' h2'
theorem find_zip_not {as : List Addr} {kvs : List (Key × V)} {b : Addr} (h : b ∉ as) : (as.zip kvs).find? (fun p => decide (p.1 = b)) = none := by
 rw [List.find?_eq_none]
 intro p hp
 have : p.1 ∈ as := (List.of_mem_zip hp).1
 simp only [decide_eq_true_eq]
 intro z
 exact h (z ▸ this)
def rListItems : List V → Hp → VK → Prop := fun xs H Q => ∃ (v d : Addr) (kvs : List (Key × V)), xs = [.ref v] ∧ H v = some (ivw v d) ∧ H d = some (.dK kvs) ∧
 ∀ (l : Addr) (as : List Addr) (H' : Hp), Same H H' → H l = none → H' l = some (.lst (as.map V.ref)) → as.length = kvs.length → (∀ (j : Nat) a kv, as[j]? = some a → kvs[j]? = some kv → H' a = some (.tup [kV kv.1, kv.2])) → Q (.ref l) H'
theorem call_list_items (hc : X.calm = true) : CallR X (.type "list") rListItems := by
 intro pins s σ H xs us Q I rv h
 obtain ⟨v, d, kvs, rfl, hv, hd, q⟩ := h
 obtain ⟨u, rfl, ru⟩ := rv.one
 cases ru
 obtain ⟨z, hsm, vs, rel, dd⟩ := dk_of I.hok hd
 obtain ⟨ep, da⟩ := dd.dictAt
 have hvw : s.heap.IsItemsView v d := (I.hok v _ hv).1
 have rl : kvs.length = vs.length := rel.length
 refine PySem.W.kdx_call (knd := mixKind X.prog X.w) (kvs := vs) (ep := ep) (I.ok.hd hc) hvw da (by omega) fun h' tk acc c as hk hS hl hG hacc => ?_
 have nd : as.Nodup := hG.rise.imp fun h => Nat.ne_of_lt h
 have above := hG.above
 have same : Same H (hpPairs H s.heap.objs.size as kvs) := fun b o e => by
   have hb : b < s.heap.objs.size := (I.hok b o e).lt
   unfold hpPairs
   rw [if_neg (Nat.ne_of_lt hb), find_zip_not (fun m => absurd (above b m) (Nat.not_lt.mpr (Nat.le_of_lt hb)))]
   exact e
 have hpair : ∀ (j : Nat) a kv, as[j]? = some a → kvs[j]? = some kv → hpPairs H s.heap.objs.size as kvs a = some (.tup [kV kv.1, kv.2]) := fun j a kv e1 e2 => by
   unfold hpPairs
   rw [if_neg (Nat.ne_of_gt (above a (List.mem_of_getElem? e1))), find_zip as kvs nd j a kv e1 e2]
 refine ⟨.ref s.heap.objs.size, hpPairs H s.heap.objs.size as kvs, I.laidAll hk same (fun b hb n => ?_) (fun b o n e => ?_), rfl, q _ as _ same I.fresh (by unfold hpPairs; rw [if_pos rfl]) (by omega) hpair⟩
 · unfold hpPairs
   rw [if_neg (Nat.ne_of_lt hb), find_zip_not (fun m => absurd (above b m) (Nat.not_lt.mpr (Nat.le_of_lt hb)))]
   exact n
 · by_cases hb : b = s.heap.objs.size
   · subst hb
     unfold hpPairs at e
     rw [if_pos rfl] at e
     cases e
     refine ⟨by rw [List.length_map]; omega, as.map Value.ref, c, ?_, ?_⟩
     · have all : ∀ l : List Addr, Vals (l.map V.ref) (l.map Value.ref) := fun l => by
         induction l with
         | nil => exact .nil
         | cons a l ih => exact .cons rfl ih
       exact all as
     · rw [hS, ← hacc]
   · by_cases hm : b ∈ as
     · obtain ⟨j, hj⟩ := List.mem_iff_getElem?.mp hm
       obtain ⟨key, k, x, e1, e2, e3⟩ := hG.pairs j b hj
       obtain ⟨kv, hkv, ek, ev⟩ : ∃ kv, kvs[j]? = some kv ∧ kv.1 = k ∧ RelV kv.2 x := by
         have all : ∀ {l : List (Key × V)} {m : List (Key × Value)}, KV l m → ∀ (j : Nat) p, m[j]? = some p → ∃ kv, l[j]? = some kv ∧ kv.1 = p.1 ∧ RelV kv.2 p.2 := by
           intro l m r
           unfold KV at r
           induction r with
           | nil => intro j p hp; simp at hp
           | @cons p q ps qs h t ih =>
             intro j p' hp
             cases j with
             | zero =>
               cases hp
               exact ⟨p, rfl, h.1, h.2⟩
             | succ j => exact ih j p' (by simpa using hp)
         exact all rel j (k, x) e1
       rw [hpair j b kv hj hkv] at e
       cases e
       refine ⟨by show 2 ≤ sizeLine; decide, [key, x], .cons ?_ (.cons ev .nil), ⟨_, e3, rfl, 0, rfl⟩⟩
       rw [ek]
       exact rel_key e2
     · unfold hpPairs at e
       rw [if_neg hb, find_zip_not hm, n] at e
       cases e
end
end L2
namespace L2
open PySem PySem.Spec PyProof.Rows L3
def tLCT (wi : TI) (g : TG) (te : TE) (n : Nat) (js : List Nat) : TE := fun σ H Q => wi σ H fun J H1 => ∃ W : Nat → Nat → List V → Hp → Prop, (∃ m, W 0 m [] H1) ∧ ∀ i m ys H, W i m ys H →
 (J.stop i H ∧ ∀ l, H l = none → Q (.ref l) (upd H l (.lst ys))) ∨ (J.go i H ∧ ys.length < sizeLine ∧ ∃ N : VK, (∀ y H2, N y H2 → ∃ m', m' < m ∧ W (i + 1) m' (ys ++ [y]) H2) ∧ ∀ x H', J.yld i H x H' → ∀ σ0 : St, σ0.length = n → g x (σ0 ++ js.map (fun j => σ.getD j none)) H' fun σ6 H6 => ∃ σ1 : St, σ1.length = n ∧ σ6 = σ1 ++ js.map (fun j => σ.getD j none) ∧ te σ6 H6 N)
section
variable {X : Cx}
structure LcOkT (X : Cx) (xs : List Str) (scope : Scope) (cl : List (Str × Addr)) (js : List Nat) : Prop where
 clos : closureFor scope X.env = pure cl
 sub : ∀ y c, cl.lookup y = some c → X.env.cells.lookup y = some c
 kind : scope.kind = .function
 cell : ∀ y ∈ scope.names, y.2 ≠ .cell
 names : ∀ y ∈ scope.names, y.2 = .local → scope.names.lookup y.1 = some .local
 loc : ∀ x ∈ xs, scope.names.lookup x = some .local
 has : ∀ y, (((relabel scope X.env).names.lookup y = some .cell) ∨ ((relabel scope X.env).names.lookup y = some .free)) → ∃ c, cl.lookup y = some c
 nd : (xs ++ js.map (fun j => X.N.getD j "")).Nodup
 fr : ∀ j ∈ js, ∃ y, X.N[j]? = some y ∧ X.env.kindOf y = some .cell ∧ (relabel scope X.env).names.lookup y = some .cell ∧ ∃ c, cl.lookup y = some c
theorem Inv.inCT {xs : List Str} {scope : Scope} {cl : List (Str × Addr)} {js : List Nat} {pins : List (Addr × Obj)} {σ : St} {H2 : Hp} {s2 : Shared} {fp : List Addr} {C D : Addr} {h1 : Heap} {xe : Value → Shared → Prop} {oD : Obj} {m0 : Str → Option Value}
   (L : LcOkT X xs scope cl js) (I2 : Inv X pins σ H2 s2) (f2 : ∀ b ∈ fp, FpOk X pins H2 b) (fo : ∀ b ∈ fp, ∃ o, s2.heap.get? b = some o) (hC : s2.heap.objs.size ≤ C) (hD : s2.heap.objs.size ≤ D) (hDC : D ≠ C)
   (old : ∀ b o, s2.heap.get? b = some o → h1.get? b = some o) (hns : h1.Ns C m0) (hoD : h1.get? D = some oD) (hdD : ∀ v, oD.data ≠ .cell v) {t' : Nat} :
   Inv (X.inC scope cl C s2 H2 fp (xs ++ js.map (fun j => X.N.getD j "")) xe) [(D, oD)] (xs.map (fun _ => none) ++ js.map (fun j => σ.getD j none)) H2 { s2 with heap := h1, toks := t' } where
 ok := {
   mod := I2.ok.mod
   kind := L.kind
   glob := I2.ok.glob
   blt := I2.ok.blt
   above := hC
   inj := fun a b c e1 e2 => I2.ok.inj a b c (L.sub a c e1) (L.sub b c e2)
   has := fun y hy => L.has y hy
   cab := fun _ _ z => nomatch z
   hd := I2.ok.hd
   frames := I2.ok.frames
   stk := .inl rfl
   exf := fun b hb => by
     obtain ⟨o, e⟩ := fo b hb
     refine ⟨Nat.ne_of_lt (Nat.lt_of_lt_of_le (Heap.lt_size e) hC), fun y c e' => ?_⟩
     exact (f2 b hb).2.2.2.2.1 y c (L.sub y c e')
   bs := fun b o e => I2.bs b o e
   bsz := Nat.le_trans I2.ok.bsz I2.sz
   noex := fun b o e hb => by
     rcases (f2 b hb).2.2.2.1 with z | z
     · exact I2.ok.noex b o e z
     · exact absurd (Nat.lt_of_lt_of_le (Heap.lt_size e) (Nat.le_trans I2.ok.bsz z)) (Nat.lt_irrefl _)
   exfs := fun b hb z => by
     rcases List.mem_cons.mp (I2.stkSub b z) with e | e
     · exact (f2 b hb).2.1 e
     · exact (f2 b hb).2.2.1 e
   funs := I2.stack
   frf := I2.stkFree }
 os := rfl
 bare := I2.bare
 base := Un.kept old
 loc := by
   refine ⟨m0, hns, fun i y v e1 e2 e3 => ?_⟩
   have hik : ¬ i < xs.length := fun z => by
     have e2' : (xs.map (fun _ => (none : Option V)) ++ js.map (fun j => σ.getD j none))[i]? = some (some v) := e2
     rw [List.getElem?_append_left (by rw [List.length_map]; exact z), List.getElem?_map] at e2'
     rw [List.getElem?_eq_getElem z] at e2'
     cases e2'
   have hsplit : ∃ k, i = xs.length + k := ⟨i - xs.length, by omega⟩
   obtain ⟨k, rfl⟩ := hsplit
   · have e1' : (js.map (fun j => X.N.getD j ""))[k]? = some y := by
       have e1' : (xs ++ js.map (fun j => X.N.getD j ""))[xs.length + k]? = some y := e1
       rw [List.getElem?_append_right (by omega)] at e1'
       simpa using e1'
     have e2' : (js.map (fun j => σ.getD j none))[k]? = some (some v) := by
       have e2' : (xs.map (fun _ => (none : Option V)) ++ js.map (fun j => σ.getD j none))[xs.length + k]? = some (some v) := e2
       rw [List.getElem?_append_right (by rw [List.length_map]; omega)] at e2'
       simpa using e2'
     rw [List.getElem?_map] at e1' e2'
     cases hj : js[k]? with
     | none => rw [hj] at e1'; cases e1'
     | some j =>
       rw [hj] at e1' e2'
       obtain ⟨y', n1, n2, n3, c, n4⟩ := L.fr j (List.mem_of_getElem? hj)
       have e1'' : X.N.getD j "" = y := Option.some.inj e1'
       have e2'' : σ.getD j none = some v := Option.some.inj e2'
       have : y' = y := by
         rw [List.getD, n1] at e1''
         exact e1''
       subst this
       have hσ : σ[j]? = some (some v) := by
         rw [List.getD] at e2''
         cases q : σ[j]? with
         | none => rw [q] at e2''; cases e2''
         | some z => rw [q] at e2''; exact congrArg some e2''
       obtain ⟨m, hn, hl⟩ := I2.loc
       obtain ⟨u, r, l⟩ := hl j y' v n1 hσ (.inr (.inl n2))
       refine ⟨u, r, ?_⟩
       rcases l with ⟨k1, _⟩ | ⟨_, c', k2, k3⟩
       · rw [n2] at k1; cases k1
       · have : c' = c := by
           have := L.sub _ _ n4
           rw [k2] at this
           exact Option.some.inj this
         subst this
         obtain ⟨o, ho, hd⟩ := k3
         exact .inr ⟨.inl n3, c', n4, o, old _ _ ho, hd⟩
 cell := fun y c e => by
   obtain ⟨v, o, ho, hd⟩ := I2.cell y c (L.sub y c e)
   exact ⟨v, o, old _ _ ho, hd⟩
 free := I2.hok.fresh hC
 freeC := fun y c e => I2.freeC y c (L.sub y c e)
 pin := fun p hp => by
   have e : p = (D, oD) := by simpa [Cx.inC] using hp
   subst e
   refine ⟨hoD, I2.hok.fresh hD, hDC, fun z => ?_, hdD⟩
   rcases List.mem_cons.mp (I2.stkSub D z) with e | e
   · exact absurd I2.lt (by rw [← e]; exact Nat.not_lt.mpr hD)
   · exact I2.nofs hD e
 hok := I2.hok.kept old
 len := by simp [Cx.inC]
theorem lcT_core {elt iter tg : Expr} {g : TG} {xs : List Str} {pos cpos : Pos} {scope : Scope} {cl : List (Str × Addr)} {wi : TI} {te : TE} {js : List Nat} {use : Option (Value → Sem Unit)} {Qc : Value → Shared → Prop} {pins : List (Addr × Obj)} {s : Shared} {σ : St} {H : Hp} {Q : VK}
   (hc : X.calm = true) (L : LcOkT X xs scope cl js) (hi : PI X tg iter wi) (hg : ∀ C s2 H2 fp xe, PG (X.inC scope cl C s2 H2 fp (xs ++ js.map (fun j => X.N.getD j "")) xe) tg g)
   (he : ∀ C s2 H2 fp xe, PE (X.inC scope cl C s2 H2 fp (xs ++ js.map (fun j => X.N.getD j "")) xe) elt te)
   (hs : ∀ z, foldedSetIterable iter X.env z = pure z) (I : Inv X pins σ H s) (h : tLCT wi g te xs.length js σ H Q)
   (fin : ∀ (D C : Addr) (H4 : Hp) (s4 : Shared) (m : Str → Option Value), s4.heap.Ns C m → FpOk X pins H4 C → (∀ h', Heap.SameBut C s4.heap h' → Inv X pins σ H4 { s4 with heap := h' }) → Q (.ref D) H4 → compPost (model X.prog X.w) X.A X.xe use Qc (.ref D) C (.ok .next) s4) :
   wpAny (model X.prog X.w) X.A (comprehension (.ListComp elt [⟨tg, iter, [], 0⟩] scope pos) scope X.env cpos (newList []) false (eval iter X.env) use) Qc X.xe s := by
 refine wpAny_comprehension_free (cl := cl) (use := use) rfl hs L.clos L.kind L.names ?_
 refine thn (hi pins s σ H _ I h) fun v s1 h1 => thn h1 fun itv s2 h2 => ?_
 obtain ⟨it, fp, tn, J, H2, e, I2, T, st2, f2, W, ⟨k0, w0⟩, turn⟩ := h2
 subst e
 refine wpAny_newObj_type (wpAny_newFunctionEnv L.cell (by intro y hy; simp at hy) (fun h₁ hns₁ hsb₁ => ?_) L.kind)
 dsimp only at hns₁ hsb₁ ⊢
 generalize hH2 : s2.heap.push { cls := .type "list", dict := none, data := .seq ([] : List Value).toArray } = Hp2 at hns₁ hsb₁ ⊢
 have hC : Hp2.objs.size = s2.heap.objs.size + 1 := by rw [← hH2, Heap.size_push]
 generalize hD0 : s2.heap.objs.size = D at hC ⊢
 generalize hC0 : Hp2.objs.size = C at hC hns₁ hsb₁ ⊢
 have hDC : D ≠ C := by omega
 have below : ∀ b, b < D → b ≠ C := fun b hb => by omega
 have old : ∀ b o, s2.heap.get? b = some o → h₁.get? b = some o := fun b o e =>
   hsb₁.extBut b o (below b (by rw [← hD0]; exact Heap.lt_size e)) (Heap.get?_push_of_some _ (hH2 ▸ Heap.get?_push_of_some _ e))
 have hacc : h₁.get? D = some { cls := .type "list", data := .seq ([] : List Value).toArray 0 } := by
   subst hD0
   exact hsb₁.extBut _ _ hDC (Heap.get?_push_of_some _ (hH2 ▸ Heap.get?_push_size _ rfl))
 have fo : ∀ b ∈ fp, ∃ o, s2.heap.get? b = some o := fun b hb => let ⟨o, e, _⟩ := T.obj _ _ st2 b hb; ⟨o, e⟩
 have flt : ∀ b ∈ fp, b < D := fun b hb => let ⟨o, e⟩ := fo b hb; by rw [← hD0]; exact Heap.lt_size e
 have st1 : tn 0 h₁ := T.keep _ _ _ st2 fun b hb o e => old b o e
 let R := compPost (model X.prog X.w) X.A X.xe use Qc (.ref D) C
 let xe := notedBy (model X.prog X.w) X.A (compEnvC scope cl C X.env) fun e s' => R (.error e) s'
 let X' := X.inC scope cl C s2 H2 fp (xs ++ js.map (fun j => X.N.getD j "")) xe
 have I0 : ∀ {t' : Nat}, Inv X' [(D, _)] (xs.map (fun _ => none) ++ js.map (fun j => σ.getD j none)) H2 { s2 with heap := h₁, toks := t' } := fun {t'} =>
   Inv.inCT L I2 f2 fo (by omega) (by omega) hDC old hns₁ hacc (fun v z => by cases z)
 have fpk : ∀ {pD : List (Addr × Obj)} {H' : Hp}, (∀ p ∈ pD, p.1 = D) → (∀ b ∈ fp, H' b = none) → ∀ b ∈ fp, FpOk X' pD H' b := fun {pD H'} hp hn b hb => by
   refine ⟨hn b hb, below b (flt b hb), fun z => ?_, .inl hb, fun y c e => (f2 b hb).2.2.2.2.1 y c (L.sub y c e), fun p hp' z => ?_⟩
   · rcases List.mem_cons.mp (I2.stkSub b z) with e | e
     · exact (f2 b hb).2.1 e
     · exact (f2 b hb).2.2.1 e
   · have q := hp p (by simpa [X', Cx.inC] using hp')
     have := flt b hb
     rw [← z, q] at this
     exact Nat.lt_irrefl _ this
 have loop : ∀ s3 : Shared, (∃ k i ys H' its n, ∃ σ0 : St, σ0.length = xs.length ∧ Inv X' [(D, { cls := .type "list", data := .seq (its : List Value).toArray n })] (σ0 ++ js.map (fun j => σ.getD j none)) H' s3 ∧ tn i s3.heap ∧ (∀ b ∈ fp, H' b = none) ∧ W i k ys H' ∧ Vals ys its ∧ ys.length ≤ sizeLine) →
     codeAny (model X.prog X.w) X.A (.compLoop (.ListComp elt [⟨tg, iter, [], 0⟩] scope pos) 0 (.ref it) (.ref D) (compEnvC scope cl C X.env)) R s3 := by
   rintro s3 ⟨k, hk⟩
   refine codeAny_loop rfl (fun k s3 => ∃ i ys H' its n, ∃ σ0 : St, σ0.length = xs.length ∧ Inv X' [(D, { cls := .type "list", data := .seq (its : List Value).toArray n })] (σ0 ++ js.map (fun j => σ.getD j none)) H' s3 ∧ tn i s3.heap ∧ (∀ b ∈ fp, H' b = none) ∧ W i k ys H' ∧ Vals ys its ∧ ys.length ≤ sizeLine) (fun k s3 hI => ?_) k hk
   obtain ⟨i, ys, H3, its, n, σ0, hσ0, I3, st3, fr3, w3, vy, hz⟩ := hI
   show wpAny _ _ ((compTurn (.ListComp elt [⟨tg, iter, [], 0⟩] scope pos) 0 (.ref it) (.ref D) (compEnvC scope cl C X.env)).onRaise (fun x => do noteFrame x (compEnvC scope cl C X.env); theTreesLotGoes x)) _ _ s3
   refine wpAny_noted ?_
   rw [compTurn_list1]
   have hpD : ∀ {o : Obj}, ∀ p ∈ [(D, o)], p.1 = D := fun p hp => by rw [List.mem_singleton.mp hp]
   refine wpAny_bind (wpAny_standAt (wpAny_bind ?_))
   rcases turn i k ys H3 w3 with ⟨stop, qn⟩ | ⟨go, hlen, N, hN, step⟩
   · refine thn (T.done X' rfl rfl rfl hc i _ s3 _ H3 xe I3 (fpk hpD fr3) st3 stop) fun r s4 ⟨hr, I4⟩ => ?_
     subst hr
     refine wpAny_pure ?_
     obtain ⟨m, hn, _⟩ := I4.loc
     obtain ⟨eD, nD, _⟩ := I4.pin (D, _) (List.mem_append_right _ (List.mem_singleton.mpr rfl))
     have fC : FpOk X pins (upd H3 D (.lst ys)) C := I2.fpOk (by omega) (by
       rw [uqn (Ne.symm hDC)]
       exact I4.free)
     refine fin D C (upd H3 D (.lst ys)) s4 m hn fC (fun h' sb => ?_) (qn D nD)
     obtain ⟨hh, g, d, t, os'⟩ := s4
     obtain rfl : os' = s2.os := I4.os
     have kp : ∀ b o, b ≠ C → hh.get? b = some o → h'.get? b = some o := fun b o hb e => (sb.2 b hb).trans e
     have lt2 : ∀ b o, s2.heap.get? b = some o → b ≠ C ∧ b ≠ D := fun b o e => by
       have q : b < D := by rw [← hD0]; exact Heap.lt_size e
       exact ⟨below b q, Nat.ne_of_lt q⟩
     have B : Un (frs X.stack) fp H2 H3 s2.heap hh := I4.base
     have hDn : H3 D = none := nD
     have I5 : Inv X pins σ (upd H3 D (.lst ys)) { s2 with heap := h', gens := g, drawn := d, toks := t } := by
       refine I2.call (h' := h') (g' := g) (d' := d) (t' := t) (ch := fp) ⟨?_, ?_, ?_, ?_, ?_, ?_, ?_⟩ ?_ I4.bare ?_
       · exact fun b o e n hb hx => kp b o (lt2 b o e).1 (B.keep b o e n hb hx)
       · intro b o e n hb hx
         obtain ⟨sl, q⟩ := B.slot b o e n hb hx
         exact ⟨sl, kp b _ (lt2 b o e).1 q⟩
       · intro b o e n hx
         rw [uqn (lt2 b o e).2]
         exact B.free b o e n hx
       · intro b o e hx
         obtain ⟨o', q⟩ := B.there b o e hx
         exact ⟨o', kp b o' (lt2 b o e).1 q⟩
       · intro b xs e
         have q := B.tups b xs e
         rw [uqn (nqn q hDn)]
         exact q
       · intro b o u e
         have q := B.frzs b o u e
         rw [uqn (nqn q hDn)]
         exact q
       · intro b ps e
         obtain ⟨more, q⟩ := B.tbls b ps e
         exact ⟨more, by rw [uqn (nqn q hDn)]; exact q⟩
       · intro b u e
         by_cases hb : b = D
         · subst hb
           rw [uqs] at e
           cases e
           exact ⟨hz, its, n, vy, kp _ _ hDC eD⟩
         · rw [uqn hb] at e
           have nC : ∀ c o, H3 c = some o → c ≠ C := fun c o q => nqn q I4.free
           refine (I4.hok b u e).stay (fun c v hc' q => kp c v ?_ q) (fun c q => by rw [uqn (nqn q hDn)]; exact q) fun c xs q => by rw [uqn (nqn q hDn)]; exact q
           rcases hc' with z | z
           · rw [z]; exact nC b u e
           · exact nC c _ z
       · intro b hb
         obtain ⟨_, f1, _, f3, f4, f5⟩ := f2 b hb
         exact ⟨f3, f1, f4, f5⟩
     exact I5
   · refine thn (T.item X' rfl rfl rfl hc i _ s3 _ H3 xe I3 (fpk hpD fr3) st3 go) fun r s4 ⟨u, hr, h4⟩ => ?_
     subst hr
     refine wpAny_bind (thn h4 fun _ s5 ⟨xv, H5, I5, r5, y5, st5, fr5⟩ => ?_)
     have I5' := I5.pinned (fpk hpD fr5) (T.obj _ _ st5)
     refine wpAny_bind (thn (hg C s2 H2 fp xe _ s5 _ H5 xv u _ I5' r5 (step xv _ y5 σ0 hσ0)) fun _ s6 ⟨σ6, H6, I6, σ1, hσ1, e6, st6⟩ => ?_)
     subst e6
     refine wpAny_bind (wpAny_bind (thn (he C s2 H2 fp xe _ s6 _ _ _ I6 st6) fun y s7 ⟨yv, H7, I7, ry, n7⟩ => ?_))
     obtain ⟨m', hm, w7⟩ := hN yv H7 n7
     have I7' := I7.unpinned
     obtain ⟨eD, nD, neC, nfs, _⟩ := I7'.pin (D, _) (List.mem_append_right _ (List.mem_singleton.mpr rfl))
     have eD' : s7.heap.get? D = some { cls := .type "list", data := .seq its.toArray n } := eD
     have lv := vy.length
     refine wpAny_bind (call_meets F.slot_list_append ⟨_, eD', rfl⟩ F.entry_list_append (F.args_list_append_2 _ _) (PySem.list_append D its.toArray n y (by rw [List.size_toArray]; omega)) ⟨eD', ?_⟩)
     refine wpAny_pure (wpAny_pure ⟨rfl, m', hm, i + 1, ys ++ [yv], H7, its ++ [y], ?_⟩)
     have q := PySem.IsL.update eD' (fun a : Array Value => a.push y)
     have I8 : Inv X' [] (σ1 ++ js.map (fun j => σ.getD j none)) H7 { s7 with heap := s7.heap.update D (Obj.mapSeq (fun a : Array Value => a.push y)) } :=
       (I7'.pins_of (pins' := []) (fun p hp => nomatch hp)).turned (t' := s7.toks) (it := D) (fun b o hb e => (Heap.get?_update_other s7.heap _ (Ne.symm hb)).trans e) nD neC (.inr (by show s2.heap.objs.size ≤ D; omega))
         (fun z c e w => by
           obtain ⟨v', o', ho', _⟩ := I2.cell z c (L.sub z c e)
           have := Heap.lt_size ho'
           rw [w, hD0] at this
           exact Nat.lt_irrefl _ this) (fun p hp => nomatch hp)
     have pinf : ∀ b ∈ fp, ∀ o, s5.heap.get? b = some o → s7.heap.get? b = some o ∧ H7 b = none := fun b hb o e => by
       have z := I7.pin (b, o) (List.mem_append_right _ (List.mem_append_right _ (mem_pinsAt hb e)))
       exact ⟨z.1, z.2.1⟩
     obtain ⟨n', q'⟩ : ∃ n', (s7.heap.update D (Obj.mapSeq (fun a : Array Value => a.push y))).get? D = some { cls := .type "list", data := .seq (its ++ [y]).toArray n' } := by
       rw [show (its ++ [y]).toArray = its.toArray.push y by simp]
       exact ⟨_, q⟩
     refine ⟨n', σ1, hσ1, I8.pins_of fun p hp => ?_, ?_, fun b hb => ?_, w7, vy.append (.cons ry .nil), by rw [List.length_append, List.length_singleton]; omega⟩
     · rw [List.mem_singleton.mp hp]
       exact ⟨q', nD, neC, nfs, fun v z => by cases z⟩
     · refine T.keep _ _ _ st5 fun b hb o e => ?_
       have hb' : D ≠ b := fun z => by
         have := flt b hb
         rw [← z] at this
         exact Nat.lt_irrefl _ this
       exact (Heap.get?_update_other s7.heap _ hb').trans (pinf b hb o e).1
     · obtain ⟨o, e, _⟩ := T.obj _ _ st5 b hb
       exact (pinf b hb o e).2
 have start : ∀ {t' : Nat}, ∃ k i ys H' its n, ∃ σ0 : St, σ0.length = xs.length ∧ Inv X' [(D, { cls := .type "list", data := .seq (its : List Value).toArray n })] (σ0 ++ js.map (fun j => σ.getD j none)) H' { s2 with heap := h₁, toks := t' } ∧ tn i h₁ ∧ (∀ b ∈ fp, H' b = none) ∧ W i k ys H' ∧ Vals ys its ∧ ys.length ≤ sizeLine := fun {t'} =>
   ⟨k0, 0, [], H2, [], 0, xs.map (fun _ => none), List.length_map .., I0, st1, fun b hb => (f2 b hb).1, w0, .nil, Nat.zero_le _⟩
 exact codeAny_compStart_list (loop _ start) (T.self X.A 0 _ _ _ st1 (loop _ start))
theorem pe_lcT {elt iter tg : Expr} {g : TG} {xs : List Str} {pos : Pos} {scope : Scope} {cl : List (Str × Addr)} {wi : TI} {te : TE} (js : List Nat) (hc : X.calm = true) (L : LcOkT X xs scope cl js) (hi : PI X tg iter wi)
   (hg : ∀ C s2 H2 fp xe, PG (X.inC scope cl C s2 H2 fp (xs ++ js.map (fun j => X.N.getD j "")) xe) tg g)
   (he : ∀ C s2 H2 fp xe, PE (X.inC scope cl C s2 H2 fp (xs ++ js.map (fun j => X.N.getD j "")) xe) elt te)
   (hs : ∀ z, foldedSetIterable iter X.env z = pure z := by intro _; rfl) :
   PE X (.ListComp elt [⟨tg, iter, [], 0⟩] scope pos) (tLCT wi g te xs.length js) := by
 intro pins s σ H Q I h
 rw [eval_ListComp]
 exact lcT_core (use := none) hc L hi hg he hs I h fun D C H4 s4 m hn _ I4 q => ⟨m, hn, fun h' sb => ⟨.ref D, H4, I4 h' sb, rfl, q⟩⟩
theorem LcOkT.plain {X : Cx} {xs : List Str} {scope : Scope} (hfree : ∀ y ∈ scope.names, y.2 ≠ .free) (hcell : ∀ y ∈ scope.names, y.2 ≠ .cell) (hkind : scope.kind = .function) (hnames : ∀ y ∈ scope.names, y.2 = .local → scope.names.lookup y.1 = some .local)
   (hloc : ∀ x ∈ xs, scope.names.lookup x = some .local) (hnd : xs.Nodup) : LcOkT X xs scope [] [] where
 clos := closureFor_none hfree
 sub := fun _ _ e => nomatch e
 kind := hkind
 cell := hcell
 names := hnames
 loc := hloc
 has := fun y h => by
   rcases h with h | h
   · exact (lookup_relabel_not hfree hcell h).elim
   · exact (lookup_relabel_not hfree hfree h).elim
 nd := by simpa using hnd
 fr := fun _ h => nomatch h
end
end L2
namespace L2
open PySem PySem.Spec PyProof.Rows PySem.W PySem.Calls L3
theorem bits_ns : ∀ {ns : List Int}, WData.weightAll (ns.map WData.int) ≤ 2 ^ 20 → ∀ w ∈ ns, Builtin.Int.intBits w ≤ 2 ^ 20
 | [], _, w, h => nomatch h
 | n :: ns, h, w, hw => by
   have h' : WData.weight (.int n) + 1 + WData.weightAll (ns.map WData.int) ≤ 2 ^ 20 := h
   rcases List.mem_cons.mp hw with rfl | m
   · have e : WData.weight (.int w) = if w == 0 then 0 else w.natAbs.log2 + 1 := rfl
     rw [e] at h'
     unfold Builtin.Int.intBits
     by_cases c : w = 0
     · subst c
       simp
     · simp [c] at h' ⊢
       omega
   · exact bits_ns (by omega) w m
theorem attach_callB {l : OpenLaw} {n : Nat} {q : Program} {loose : List Str} {XP : (Str → Option Value) → Heap → Prop} {YP : World → Heap → Prop} {d : DefRec}
   (hn : l.most = some n) (hdf : d.params.defaults = [])
   (call : ∀ (w : World) (s₀ s₁ : Shared) (mg mb : Str → Option Value) (fa : Addr) (o : Obj) (pm cd doc : Value) (a : Addr) (vs : List Value) (ns : List Int),
     Ground q loose [] XP w s₀ mg mb s₁.heap → YP w s₁.heap →
     s₁.heap.get? fa = some o → o.data = .func (docDef d.name d.params d.body d.scope pm cd doc) → s₁.heap.CodeRec cd d.name → mg d.name = some (.ref fa) →
     s₁.heap.get? a = some { cls := .type "list", data := .seq vs.toArray } → IntsAre vs ns → ns.length ≤ n → (∀ w ∈ ns, Builtin.Int.intBits w ≤ 2 ^ 20) → s₁.gens = #[] →
     codeAny (model l.prog w) callerA (.call (.ref fa) ⟨[.ref a], []⟩) (fun r s' => r = .ok (.ret (.bool true)) ∧ OldK s₁.heap s'.heap ∧ s'.os = s₁.os ∧ AllBare s'.gens) s₁) :
   WalkO q loose XP YP l.row.toRowW d [] (fun f vs => PySem.call f vs) := by
 intro w s₀ s₁ mg mb G Y fa o pm cd doc dV kV ho hd hcd hD hmg hg args vals as hpre hlay hrd hwl hlo
 obtain rfl : dV = .none := Dflts.none hD hdf
 obtain rfl : kV = .none := Dflts.noKw hD
 obtain ⟨a, vs, ns, rfl, rfl, hobj, hints, hlen⟩ := Att.script_of hn hpre hwl
 have hb : ∀ w ∈ ns, Builtin.Int.intBits w ≤ 2 ^ 20 := by
   have h1 : WData.layable (.list (ns.map WData.int)) = true := by
     have := hlay
     unfold WData.layableAll at this
     simpa using this
   unfold WData.layable at h1
   rw [Bool.and_eq_true, decide_eq_true_eq] at h1
   exact bits_ns h1.2
 refine enter_call (codeAny_mono (call w s₀ s₁ mg mb fa o pm cd doc a vs ns G Y ho (fd_plain hd) hcd hmg hobj hints hlen hb hg) fun r s' hq => ?_)
 obtain ⟨rfl, h2, h3, h4⟩ := hq
 exact ⟨.inl ⟨.bool true, .bool true, [], rfl, fun _ => rfl, .bool true, Att.post_true l _, fun _ => ⟨List.Pairwise.nil, fun _ hm => (nomatch hm)⟩⟩, h2, h3, h4⟩
theorem walk_ofB {l : PySem.W.OpenLaw} {n k : Nat} {q : Program} {loose : List Str} {XP : (Str → Option Value) → Heap → Prop} {YP : World → Heap → Prop} {d : DefRec} {K : Params → PySem.W.Frag} {CX : World → CXT} {sp : World → Sp} {x : Str}
   (hn : l.most = some n) (hn2 : n ≤ sizeLine) (hdf : d.params.defaults = []) (hr : Room true k callerA)
   (hY : ∀ (w : World) (h : Heap), YP w h → (K w.params).In h)
   (F : ∀ (w : World) (mg : Str → Option Value) (fa : Addr) (h : Heap), (K w.params).In h → h.Ns mainGlobals mg → mg d.name = some (.ref fa) →
     ∃ fd : FuncData, (∀ (s : Shared) (u : Value), BindsTo s fd ⟨[u], []⟩ [(x, u)]) ∧
       ∀ base : Heap, (K w.params).In base → base.Ns mainGlobals mg → FnOk l.prog w (K w.params) mg base (CX w) true k fa fd [x] (sp w))
   (hsp : ∀ (w : World) (H : Hp) (a : Addr) (ns : List Int), ns.length ≤ n → (∀ w ∈ ns, Builtin.Int.intBits w ≤ 2 ^ 20) → Only H → SqL (K w.params) H a (ns.map V.int) → sp w [.ref a] H (fun v _ => v = .bl true) fun _ _ _ => False)
   (hCX : ∀ (w : World) (H : Hp) (s : Shared) (e : Value) (s' : Shared), CX w [] H s (fun _ _ _ => False) e s' → False) :
   PySem.W.WalkO q loose XP YP l.row.toRowW d [] (fun f vs => PySem.call f vs) := by
 refine attach_callB hn hdf fun w s₀ s₁ mg mb fa o pm cd doc a vs ns G Y ho hd hcd hmg hobj hints hlen hb2 hg => ?_
 have KX := hY w _ Y
 obtain ⟨fd, hb, hF⟩ := F w mg fa _ KX G.T.g hmg
 exact law_call KX G.T.g G.T.b G.T.builtins G.T.nolimit hg hobj hints (Nat.le_trans hlen hn2) hr hF hb (fun H hO hS => hsp w H a ns hlen hb2 hO hS) fun H e s' => hCX w H s₁ e s'
end L2
namespace L2
open PySem PySem.Spec PyProof.Rows L3
theorem lc_listIf {K : PySem.W.Frag} {a : Addr} {xs : List V} {T : V → Hp → VK → Prop} {B : V → Hp → (Bool → Hp → Prop) → Prop} {R : Addr → Hp → List V → Prop} {H : Hp} (Pv : Nat → List V → Hp → Prop) (h0 : Pv 0 [] H) (hn : xs.length ≤ sizeLine) (hl : ∀ i ys H, i ≤ xs.length → Pv i ys H → SqL K H a xs ∧ ys.length ≤ i)
   (hs : ∀ i x ys H, xs[i]? = some x → Pv i ys H → B x H fun b H2 => if b = true then T x H2 (fun y H3 => Pv (i + 1) (ys ++ [y]) H3) else Pv (i + 1) ys H2) (hd : ∀ ys H, Pv xs.length ys H → ∀ l, H l = none → R l H ys) :
   ∃ W : Nat → Nat → List V → Hp → Prop, (∃ m, W 0 m [] H) ∧ ∀ i m ys H, W i m ys H →
     ((Itl K a).stop i H ∧ ∀ l, H l = none → R l H ys) ∨ ((Itl K a).go i H ∧ ys.length < sizeLine ∧ ∃ (N : VK) (S : Hp → Prop), (∀ y H2, N y H2 → ∃ m', m' < m ∧ W (i + 1) m' (ys ++ [y]) H2) ∧ (∀ H2, S H2 → ∃ m', m' < m ∧ W (i + 1) m' ys H2) ∧
       ∀ x H', (Itl K a).yld i H x H' → B x H' fun b H2 => if b = true then T x H2 N else S H2) := by
 refine ⟨fun i m ys H => m = xs.length - i ∧ i ≤ xs.length ∧ Pv i ys H, ⟨xs.length, by simp, Nat.zero_le _, h0⟩, ?_⟩
 rintro i m ys H ⟨rfl, hi, p⟩
 obtain ⟨q, hy⟩ := hl i ys H hi p
 by_cases hlt : i < xs.length
 · refine .inr ⟨⟨xs, xs[i], q, by simp [hlt]⟩, by omega, fun y H2 => Pv (i + 1) (ys ++ [y]) H2, fun H2 => Pv (i + 1) ys H2, fun y H2 p' => ⟨xs.length - (i + 1), by omega, rfl, hlt, p'⟩, fun H2 p' => ⟨xs.length - (i + 1), by omega, rfl, hlt, p'⟩, fun x H' ⟨e, y⟩ => ?_⟩
   subst e
   exact hs i x ys _ (y xs q) p
 · have e : i = xs.length := by omega
   subst e
   exact .inl ⟨⟨xs, q, Nat.le_refl _⟩, hd ys H p⟩
theorem pg_nameT {X : Cx} {xs : List Str} {scope : Scope} {cl : List (Str × Addr)} {js : List Nat} {C : Addr} {s2 : Shared} {H2 : Hp} {fp : List Addr} {xe : Value → Shared → Prop} {i : Nat} {x : Str} {px : Pos} (L : LcOkT X xs scope cl js) (hi : (xs ++ js.map (fun j => X.N.getD j ""))[i]? = some x) (hx : x ∈ xs) :
   PG (X.inC scope cl C s2 H2 fp (xs ++ js.map (fun j => X.N.getD j "")) xe) (.Name x px) (gName i) :=
 pg_name (X := X.inC scope cl C s2 H2 fp (xs ++ js.map (fun j => X.N.getD j "")) xe) L.nd hi (Or.inl (lookup_relabel_local (L.loc x hx))) (Or.inr (lookup_relabel_local (L.loc x hx)))
theorem pg_tup2T {X : Cx} {x1 x2 : Str} {p1 p2 pos : Pos} {k : Nat} {scope : Scope} {cl : List (Str × Addr)} {js : List Nat} (hc : X.calm = true) (L : LcOkT X [x1, x2] scope cl js) :
   ∀ (C : Addr) (s2 : Shared) (H2 : Hp) (fp : List Addr) (xe : Value → Shared → Prop), PG (X.inC scope cl C s2 H2 fp ([x1, x2] ++ js.map (fun j => X.N.getD j "")) xe) (.Tuple [.Name x1 p1, .Name x2 p2] k pos) (gTup X.K 2 (gCons (gName 0) (gCons (gName 1) gNil))) := fun C s2 H2 fp xe =>
 pg_tup (X := X.inC scope cl C s2 H2 fp ([x1, x2] ++ js.map (fun j => X.N.getD j "")) xe) hc (pgs_cons (pg_nameT (i := 0) L rfl List.mem_cons_self) (pgs_cons (pg_nameT (i := 1) L rfl (List.mem_cons_of_mem _ List.mem_cons_self)) pgs_nil))
theorem join_ok {zs : List Str} (h : zs.length ≤ 8) (h1 : ∀ z ∈ zs, z.length = 1) : JoinOk "" zs = true := by
 unfold JoinOk
 rw [Bool.not_eq_true', StrLaws.joinTotal]
 have s : (zs.map (·.length)).sum = zs.length := by
   clear h
   induction zs with
   | nil => rfl
   | cons z r ih =>
     rw [List.map_cons, List.sum_cons, ih fun y hy => h1 y (List.mem_cons_of_mem _ hy), h1 z List.mem_cons_self, List.length_cons]
     omega
 rw [s]
 have e : ("" : Str).length = 0 := rfl
 rw [e]
 unfold Builtin.Str.tooLong
 have hline : 600 ≤ sizeLine := by decide
 exact decide_eq_false (by omega)
end L2
namespace PySem.W
open PySem PySem.Calls PyProof.Rows PyProof.V PySem.Spec
section
variable {prog : Program} {w : World} {A : Around} {E : Value → Shared → Prop}
theorem lkeys_miss : typeLookup (.type "list") "keys" = pure none := by rw [typeLookup_type, builtinLookup_eq_fast]; kernel_rfl
theorem keys_none_list {s : Shared} {a : Addr} {o : Obj} {xs : Array Value} {k : Nat} {Q : Option Value → Shared → Prop} (hx : s.heap.get? a = some o) (hc : o.cls = .type "list") (hdat : o.data = .seq xs k) (hd : o.dict = none) (hA : A.handled = none)
   (hq : ∀ h' tk e, Heap.NewExcOf s.heap h' e "AttributeError" → Q none { s with heap := h', toks := tk }) :
   wpAny (model prog w) A (getAttr? (.ref a) "keys") Q E s := by
 obtain ⟨c, dct, dat, sl⟩ := o
 simp only at hc hdat hd
 subst hc hdat hd
 obtain ⟨hp, g, d, tk, os⟩ := s
 have hT : ∀ tk', (⟨hp, g, d, tk', os⟩ : Shared).TypeIs (.ref a) "list" := fun _ => ⟨_, hx, rfl⟩
 have f1 := sub_AttributeError
 have f3 := F.slot_list_getattribute.lookup
 have f4 := F.slot_list_getattribute.bind (.ref a)
 have f5 := am_list_getattr_none
 have hname : (["__module__", "__name__", "__qualname__", "__doc__", "__annotations__"] : List Str).contains "keys" = false := by decide +kernel
 have hsz : ("keys" : Str).length + 100 ≤ sizeLine := by decide +kernel
 unfold getAttr? getAttrBy? getAttrBy
 repeat (any_goals (first | assumption | exact hT _ | ((with_reducible show wpAny _ _ (call (Value.builtin "list.__getattribute__") _ _) _ _ _); refine call_meets F.slot_list_getattribute (hT _) am_entry_list_getattribute (F.args_list_getattribute_2 _ _) (meets_getattribute_miss_list a xs k sl "keys" _ lkeys_miss hname hsz) ⟨hx, hA, fun h' tk' e hx' => ?_⟩) | wp_step))
 obtain ⟨t', u', he⟩ := hx'.there
 show wpAny _ _ (getattributeRaised _ _ _ _ _ _ _) _ _ _
 unfold getattributeRaised
 repeat (any_goals (first | assumption | wp_step))
 exact hq _ _ _ hx'.of
theorem entry_upd_loop : entryFor table "dict.update.loop" = some Builtin.«dict.update.loop» := entryFor_of_fast (by kernel_rfl)
theorem plain_upd_loop : plainId "dict.update.loop" = true := by decide +kernel
variable {K : Type} [DecidableEq K] {knd : KeyKind prog w K}
structure PairAt (knd : KeyKind prog w K) (h : Heap) (v : Value) (k : K) (x : Value) : Prop where
 is : ∃ a key, v = .ref a ∧ knd.is k key = true ∧ IsTup h a #[key, x]
theorem pair_set {s : Shared} {d : Addr} {kvs : List (K × Value)} {v x : Value} {k : K} {Q : Unit → Shared → Prop} (i : Int) (p : PairAt knd s.heap v k x) (hm : s.heap.DictOf knd d kvs) (hsz : kvs.length ≤ sizeLine)
   (hQ : ∀ h', h'.DictOf knd d (stored kvs k x) → Heap.SameBut d s.heap h' → Q () { s with heap := h', toks := s.toks + 1 }) :
   wpAny (model prog w) A (holding [v] (do
     let pair ← (Builtin.Dict.pairItems v).tryCatch fun e => do
       if !(← isInstance e (.type "TypeError")) then throw e
       rule "dict.update.element-no-sequence"
       raiseError "TypeError" s!"cannot convert dictionary update sequence element #{i} to a sequence"
     match pair with
     | [k, v] => holding [k, v] (dictSet d k v)
     | l =>
       rule "dict.update.element-length"
       raiseError "ValueError" s!"dictionary update sequence element #{i} has length {l.length}; 2 is required")) Q E s := by
 obtain ⟨a, key, rfl, hk, o, ho, hc, n, hd⟩ := p.is
 refine wpAny_holding ?_
 have hT : s.TypeIs (.ref a) "tuple" := ⟨o, ho, hc⟩
 refine wpAny_bind (wpAny_tryCatch ?_)
 unfold Builtin.Dict.pairItems
 refine wpAny_bind (wpAny_typeOf hT ?_)
 rw [if_pos (by decide +kernel)]
 refine wpAny_bind (wpAny_seqItems ho hd (wpAny_pure ?_))
 show wpAny _ _ (holding [key, x] (dictSet d key x)) _ _ _
 exact wpAny_holding (wpAny_dictSet_pairs hk hm hQ hsz)
def storedAll (kvs : List (K × Value)) (ps : List (K × Value)) : List (K × Value) := ps.foldl (fun acc p => stored acc p.1 p.2) kvs
theorem upd_loop {s : Shared} {d it l : Addr} {items : List Value} {ps : List (K × Value)} {R : Result → Shared → Prop} (hh : A.handled = none) (hdi : d ≠ it) (hil : it ≠ l) (hdl : d ≠ l) (hlen : items.length = ps.length) (hn : ps.length ≤ 10 ^ 6) {h₁ : Heap}
   (old : ∀ (j : Nat) v p, items[j]? = some v → ps[j]? = some p → PairAt knd h₁ v p.1 p.2 ∧ v ≠ .ref d ∧ v ≠ .ref it)
   (hR : ∀ h' tk, h'.DictOf knd d (storedAll [] ps) → (∀ b o, b ≠ d → b ≠ it → h₁.get? b = some o → h'.get? b = some o) → R (.ok (.ret .none)) { s with heap := h', toks := tk }) :
   ∀ (k i : Nat) (h : Heap) (tk : Nat), ps.length - i = k → i ≤ ps.length → h.IsListIter it l i → h.IsList l items.toArray → h.DictOf knd d (storedAll [] (ps.take i)) → (∀ b o, b ≠ d → b ≠ it → h₁.get? b = some o → h.get? b = some o) →
     codeAny (model prog w) A (.builtin "dict.update.loop" ⟨[.ref d, .ref it, rawInt i, .none], []⟩) R { s with heap := h, toks := tk } := by
 have hline : 10 ^ 6 ≤ sizeLine := by decide
 have hst : ∀ (n : Nat), (storedAll ([] : List (K × Value)) (ps.take n)).length ≤ n := by
   intro n
   have all : ∀ (qs kvs : List (K × Value)), (storedAll kvs qs).length ≤ kvs.length + qs.length := by
     intro qs
     induction qs with
     | nil => intro kvs; exact Nat.le_refl _
     | cons q qs ih =>
       intro kvs
       have h1 := ih (stored kvs q.1 q.2)
       have h2 : (stored kvs q.1 q.2).length ≤ kvs.length + 1 := by
         unfold stored
         split <;> simp
       show (storedAll (stored kvs q.1 q.2) qs).length ≤ _
       rw [List.length_cons]
       omega
   have := all (ps.take n) []
   rw [List.length_take] at this
   simp at this
   omega
 intro k
 induction k with
 | zero =>
   intro i h tk hk hi hit hl hm keep
   have hin : i = ps.length := by omega
   subst hin
   refine codeAny_builtin entry_upd_loop ?_
   rw [Around.under_plainId plain_upd_loop _]
   show wpAny _ A.in1 (pyNext (.ref it) >>= _) _ _ _
   refine wpAny_bind (wpAny_pyNext_list_end (s := { s with heap := h, toks := tk }) hh hit hl (by simp [hlen]) fun h' he => ?_)
   rw [List.take_length] at hm
   refine wpAny_bind (wpAny_pure ?_)
   refine wpAny_pure (hR h' tk (hm.extBut he hdi) fun b o h1 h2 e => he b o h2 (keep b o h1 h2 e))
 | succ k ih =>
   intro i h tk hk hi hit hl hm keep
   have hlt : i < ps.length := by omega
   obtain ⟨v, hv⟩ : ∃ v, items[i]? = some v := ⟨items[i], List.getElem?_eq_getElem (by omega)⟩
   obtain ⟨p, hp⟩ : ∃ p, ps[i]? = some p := ⟨ps[i], List.getElem?_eq_getElem hlt⟩
   obtain ⟨⟨a, key, rfl, hkk, o, ho, hc, n, hd⟩, nd, ni⟩ := old i v p hv hp
   refine codeAny_builtin entry_upd_loop ?_
   rw [Around.under_plainId plain_upd_loop _]
   show wpAny _ A.in1 (pyNext (.ref it) >>= _) _ _ _
   refine wpAny_bind (wpAny_pyNext_list_item (s := { s with heap := h, toks := tk }) hit hl (x := .ref a) (by simpa using hv) fun h' hit' sb => ?_)
   have ad : a ≠ d := fun e => nd (by rw [e])
   have ai : a ≠ it := fun e => ni (by rw [e])
   have ha' : h'.get? a = some o := (sb.2 a ai).trans (keep a o ad ai ho)
   refine wpAny_bind (pair_set (s := { s with heap := h', toks := tk }) (knd := knd) (i : Int) (k := p.1) (x := p.2) ⟨a, key, rfl, hkk, o, ha', hc, n, hd⟩ (hm.extBut sb.extBut hdi) (Nat.le_trans (hst i) (by omega)) fun h2 hm2 sb2 => ?_)
   refine wpAny_pure ⟨plainId_quiet plain_upd_loop _, ?_⟩
   have := ih (i + 1) h2 (tk + 1) (by omega) hlt ?_ ?_ ?_ ?_
   · exact this
   · obtain ⟨oi, h1, h3⟩ := hit'
     exact ⟨oi, (sb2.2 it (Ne.symm hdi)).trans h1, h3⟩
   · obtain ⟨ol, h1, h3⟩ := hl
     exact ⟨ol, (sb2.2 l (Ne.symm hdl)).trans ((sb.2 l (Ne.symm hil)).trans h1), h3⟩
   · rw [List.take_succ, hp]
     unfold storedAll at hm2 ⊢
     rw [List.foldl_append]
     exact hm2
   · intro b o' h1 h2' e
     exact (sb2.2 b h1).trans ((sb.2 b h2').trans (keep b o' h1 h2' e))
theorem call_dict_pairs {s : Shared} {l : Addr} {o : Obj} {n : Nat} {items : List Value} {ps : List (K × Value)} {Q : Value → Shared → Prop} (hh : A.handled = none) (ho : s.heap.get? l = some o) (hc : o.cls = .type "list") (hd : o.dict = none) (hdat : o.data = .seq items.toArray n) (hlen : items.length = ps.length) (hn : ps.length ≤ 10 ^ 6)
   (old : ∀ (j : Nat) v p, items[j]? = some v → ps[j]? = some p → PairAt knd s.heap v p.1 p.2)
   (hQ : ∀ h' tk, h'.DictOf knd s.heap.objs.size (storedAll [] ps) → (∀ b o, s.heap.get? b = some o → h'.get? b = some o) → Q (.ref s.heap.objs.size) { s with heap := h', toks := tk }) :
   wpAny (model prog w) A (call (.type "dict") [.ref l]) Q E s := by
 refine callType_codes (Q₁ := fun obj s₁ => obj = .ref s.heap.objs.size ∧ s₁ = { s with heap := s.heap.push { cls := .type "dict", data := .dict #[] } }) F.kt_called_dict (F.kt_typeCall_dict_1 _) F.entry_dict_init (kt_code_dict_new _ ⟨rfl, rfl⟩) ?_
 rintro obj s₁ ⟨rfl, rfl⟩
 have hnew : (s.heap.push { cls := .type "dict", data := .dict #[] }).DictOf knd s.heap.objs.size [] := Heap.DictOf.new s.heap
 have ho' : (s.heap.push { cls := .type "dict", data := .dict #[] }).get? l = some o := Heap.get?_push_of_some _ ho
 have hll : l < s.heap.objs.size := Heap.lt_size ho
 refine ⟨hnew.typeIs, F.args_dict_init_2 _ _, ?_⟩
 unfold Builtin.«dict.__init__»
 refine wpAny_bind ?_
 unfold Builtin.Dict.selfAndRest
 refine wpAny_bind (wpAny_notOrdered_dict hnew.typeIs ?_)
 show wpAny _ _ (pure (s.heap.objs.size, [Value.ref l])) _ _ _
 refine wpAny_pure ?_
 show wpAny _ _ (Builtin.Dict.updateFrom "dict.__init__" s.heap.objs.size (.ref l) [] .none) _ _ _
 unfold Builtin.Dict.updateFrom
 refine wpAny_bind (wpAny_typeOf (T := "list") ⟨_, ho', hc⟩ ?_)
 rw [if_pos (by decide +kernel)]
 refine wpAny_bind ?_
 refine keys_none_list (s := { s with heap := s.heap.push { cls := .type "dict", data := .dict #[] } }) ho' hc hdat hd hh fun h' tk e hx => ?_
 rw [if_pos (show (none : Option Value).isNone = true from rfl)]
 refine wpAny_bind (wpAny_rule ?_)
 have hk1 : ∀ b ob, s.heap.get? b = some ob → h'.get? b = some ob := fun b ob hb => hx.keeps b ob (Heap.get?_push_of_some _ hb)
 have hl' : h'.IsList l items.toArray := ⟨o, hk1 l o ho, hc, n, hdat⟩
 have hd' : h'.DictOf knd s.heap.objs.size [] := by
   obtain ⟨od, es, ep, h1, r⟩ := hnew
   exact ⟨od, es, ep, hx.keeps _ _ h1, r⟩
 have hlt' : s.heap.objs.size < h'.objs.size := by
   obtain ⟨od, es, ep, h1, r⟩ := hd'
   exact Heap.lt_size h1
 refine wpAny_bind (wpAny_pyIter_list (s := { s with heap := h', toks := tk }) hl' ?_)
 refine wpAny_pure ⟨plainId_quiet plain_upd_loop _, ?_⟩
 have hold : ∀ b ob, s.heap.get? b = some ob → (h'.push { cls := .type "list_iterator", data := .fields #[.ref l, .int 0 0] }).get? b = some ob := fun b ob hb => Heap.get?_push_of_some _ (hk1 b ob hb)
 refine upd_loop (s := s) (A := A.in1) (knd := knd) (d := s.heap.objs.size) (it := h'.objs.size) (l := l) (items := items) (ps := ps) (h₁ := s.heap) hh (Nat.ne_of_lt hlt') (Nat.ne_of_gt (Nat.lt_trans hll hlt')) (Nat.ne_of_gt hll) hlen hn (fun j v p e1 e2 => ?_) (fun h2 tk2 dd keep => ?_) ps.length 0 _ _ (Nat.sub_zero _) (Nat.zero_le _) ⟨_, Heap.get?_push_size _ rfl, rfl, rfl⟩ ⟨o, Heap.get?_push_of_some _ (hk1 l o ho), hc, n, hdat⟩ (hd'.push _) (fun b ob _ _ hb => hold b ob hb)
 · have q := old j v p e1 e2
   obtain ⟨a, key, rfl, hkk, o2, ho2, hc2, n2, hd2⟩ := q.is
   have hal := Heap.lt_size ho2
   refine ⟨q, fun z => ?_, fun z => ?_⟩
   · injection z with z
     exact absurd hal (by rw [z]; exact Nat.lt_irrefl _)
   · injection z with z
     exact absurd (Nat.lt_trans hal hlt') (by rw [z]; exact Nat.lt_irrefl _)
 · refine ⟨rfl, hQ h2 tk2 dd fun b ob hb => keep b ob (Nat.ne_of_lt (Heap.lt_size hb)) ?_ hb⟩
   exact Nat.ne_of_lt (Nat.lt_trans (Heap.lt_size hb) hlt')
end
end PySem.W
namespace L2
open PySem PySem.Spec PyProof.Rows L3
section
variable {X : Cx}
def putAll (kvs : List (Key × V)) (ps : List (Key × V)) : List (Key × V) := ps.foldl (fun acc p => putK acc p.1 p.2) kvs
theorem KV.putAll : ∀ {ps : List (Key × V)} {qs : List (Key × Value)} {kvs : List (Key × V)} {vs : List (Key × Value)}, KV ps qs → KV kvs vs → KV (putAll kvs ps) (PySem.W.storedAll vs qs) := by
 intro ps qs kvs vs r
 unfold KV at r
 induction r generalizing kvs vs with
 | nil => intro q; exact q
 | @cons p q ps qs h t ih =>
   intro r0
   have e : KV (putK kvs p.1 p.2) (stored vs q.1 q.2) := by
     have := r0.put p.1 h.2
     rw [← h.1]
     exact this
   exact ih e
theorem len_putAll : ∀ (ps kvs : List (Key × V)), (putAll kvs ps).length ≤ kvs.length + ps.length
 | [], kvs => Nat.le_refl _
 | p :: r, kvs => by
   have h1 := len_putAll r (putK kvs p.1 p.2)
   have h2 := length_putK kvs p.1 p.2
   show (putAll (putK kvs p.1 p.2) r).length ≤ _
   rw [List.length_cons]
   omega
def rDictPairs (K : PySem.W.Frag) : List V → Hp → VK → Prop := fun xs H Q => ∃ (l : Addr) (L : List (Addr × Key × V)), xs = [.ref l] ∧ H l = some (.lst (L.map fun z => .ref z.1)) ∧ L.length ≤ 10 ^ 6 ∧ (∀ z ∈ L, H z.1 = some (.tup [kV z.2.1, z.2.2])) ∧
 ∀ d, H d = none → Q (.ref d) (upd H d (.dK (putAll [] (L.map (·.2)))))
theorem refs_are : ∀ {L : List (Addr × Key × V)} {its : List Value}, Vals (L.map fun z => V.ref z.1) its → its = L.map fun z => Value.ref z.1
 | [], _, .nil => rfl
 | z :: L, _, .cons r t => by
   rw [refs_are t, List.map_cons]
   cases r
   rfl
theorem call_dict_of (hc : X.calm = true) : CallR X (.type "dict") (rDictPairs X.K) := by
 intro pins s σ H xs us Q I rv h
 obtain ⟨l, L, rfl, hl, hn, hL, q⟩ := h
 obtain ⟨u, rfl, ru⟩ := rv.one
 cases ru
 obtain ⟨z, its, n, r, e⟩ := I.hok l _ hl
 have hits := refs_are r
 subst hits
 -- the values as they stand in the tuples
 have hex : ∃ qs : List (Key × Value), KV (L.map (·.2)) qs ∧ ∀ (j : Nat) v p, (L.map fun z => Value.ref z.1)[j]? = some v → qs[j]? = some p → PySem.W.PairAt (mixKind X.prog X.w) s.heap v p.1 p.2 := by
   clear r e q hl z hn
   induction L with
   | nil => exact ⟨[], .nil, fun j v p h => by simp at h⟩
   | cons y L ih =>
     obtain ⟨qs, rel, hp⟩ := ih fun z hz => hL z (List.mem_cons_of_mem _ hz)
     obtain ⟨_, ts, rt, o, ho, hcl, n2, hdt⟩ := I.hok y.1 _ (hL y List.mem_cons_self)
     cases rt with
     | cons r1 rr =>
       obtain ⟨u2, rfl, r2⟩ := Vals.one rr
       rename_i u1
       refine ⟨(y.2.1, u2) :: qs, .cons ⟨rfl, r2⟩ rel, fun j v p e1 e2 => ?_⟩
       cases j with
       | zero =>
         cases e1
         cases e2
         exact ⟨y.1, u1, rfl, kV_is r1, o, ho, hcl, n2, hdt⟩
       | succ j => exact hp j v p (by simpa using e1) (by simpa using e2)
 obtain ⟨qs, rel, hp⟩ := hex
 have hlen : L.length = qs.length := by
   have := rel.length
   rw [List.length_map] at this
   exact this
 refine PySem.W.call_dict_pairs (knd := mixKind X.prog X.w) (ps := qs) (I.ok.hd hc) e rfl rfl rfl (by rw [List.length_map]; exact hlen) (by omega) hp fun h' tk dd keep => ?_
 refine ⟨.ref s.heap.objs.size, _, I.laid (a := s.heap.objs.size) (o := .dK (putAll [] (L.map (·.2)))) (t' := tk) keep (Nat.le_refl _) ?_, rfl, q _ I.fresh⟩
 have hline : 10 ^ 6 ≤ sizeLine := by decide
 have hl2 := len_putAll (L.map (·.2)) []
 rw [List.length_map] at hl2
 refine dk_new (by simp at hl2; omega) ?_ (rel.putAll .nil) dd
 have hb := I.big
 exact beq_eq_false_iff_ne.mpr (Nat.ne_of_gt hb)
def rListD : List V → Hp → VK → Prop := fun xs H Q => ∃ (d : Addr) (kvs : List (Key × V)), xs = [.ref d] ∧ H d = some (.dK kvs) ∧ ∀ l, H l = none → Q (.ref l) (upd H l (.lst (kvs.map fun kv => kV kv.1)))
theorem call_list_dict (hc : X.calm = true) : CallR X (.type "list") rListD := by
 intro pins s σ H xs us Q I rv h
 obtain ⟨d, kvs, rfl, hd, q⟩ := h
 obtain ⟨u, rfl, ru⟩ := rv.one
 cases ru
 obtain ⟨z, hsm, vs, rel, dd⟩ := dk_of I.hok hd
 obtain ⟨ep, da⟩ := dd.dictAt
 have rl : kvs.length = vs.length := rel.length
 refine PySem.W.kdl_call (PySem.W.kdl_dict (knd := mixKind X.prog X.w) (kvs := vs) (ep := ep) hsm) (I.ok.hd hc) da (by omega) fun h' tk acc c hk hS hacc => ?_
 have hv : Vals (kvs.map fun kv => kV kv.1) acc.toList := by
   have all : ∀ {kvs : List (Key × V)} {vs : List (Key × Value)} (us : List Value), KV kvs vs → us.length = vs.length → (∀ (j : Nat) v, us[j]? = some v → ∃ k x, vs[j]? = some (k, x) ∧ (mixKind X.prog X.w).is k v = true) → Vals (kvs.map fun kv => kV kv.1) us := by
     intro kvs vs us r
     unfold KV at r
     induction r generalizing us with
     | nil =>
       intro h1 _
       cases us with
       | nil => exact .nil
       | cons _ _ => simp at h1
     | @cons p q ps qs h t ih =>
       intro h1 h2
       cases us with
       | nil => simp at h1
       | cons u us =>
         obtain ⟨k, x, e1, e2⟩ := h2 0 u rfl
         cases e1
         refine .cons ?_ (ih us (by simpa using h1) fun j v hj => by
           obtain ⟨k, x, e3, e4⟩ := h2 (j + 1) v (by simpa using hj)
           exact ⟨k, x, by simpa using e3, e4⟩)
         show RelV (kV p.1) u
         rw [h.1]
         exact rel_key e2
   refine all acc.toList rel (by rw [Array.length_toList]; exact hacc.1) fun j v hj => hacc.2 j v ?_
   rw [← Array.getElem?_toList]
   exact hj
 refine ⟨.ref s.heap.objs.size, _, I.laid (a := s.heap.objs.size) (o := .lst (kvs.map fun kv => kV kv.1)) (t' := tk) hk (Nat.le_refl _) ⟨by rw [List.length_map]; exact z, acc.toList, c, hv, ?_⟩, rfl, q _ I.fresh⟩
 rw [hS]
end
theorem bt_dict : bootBuiltins "dict" = some (.type "dict") := by decide +kernel
end L2
namespace PySem.W
open PySem PySem.Calls PyProof.Rows PyProof.V PySem.Spec
section
variable {prog : Program} {w : World} {A : Around} {E : Value → Shared → Prop} {s : Shared} {r l : Addr} {items : Array Value}
end
end PySem.W
namespace L2
open PySem PySem.Spec PyProof.Rows L3
section
variable {X : Cx}
end
end L2
namespace L2
open PySem PySem.Spec PyProof.Rows L3
def DefX (K : PySem.W.Frag) (C : Addr) (qual : Str) (st : Stmt) : Prop := ∃ f fd, FunD K "__init__" qual st f fd .none ∧ PySem.W.findIn K (.ref C) "__init__" = some (some (.ref f)) ∧ PySem.W.isFn K (.ref f) = true
def CalX (P : Program) (w : World) (K : PySem.W.Frag) (mg : Str → Option Value) (base : Heap) (cm : Bool) (k : Nat) (C : Addr) (ps : List Str) (sp : Sp) : Prop :=
 ∃ f fd, PySem.W.findIn K (.ref C) "__init__" = some (some (.ref f)) ∧ PySem.W.isFn K (.ref f) = true ∧ FnOk P w K mg base CX0 cm k f fd ps sp ∧ Binds K fd ps []
section
variable {X : Cx}
def EqO (K : PySem.W.Frag) (H : Hp) (x y : V) : Prop := (x = .non ∧ y = .non) ∨ ∃ a b xs, x = .ref a ∧ y = .ref b ∧ SqT K H a xs ∧ SqT K H b xs ∧ ∀ z ∈ xs, eqPl z = true
theorem op_eqO {cm : Bool} {k : Nat} (hr : Room cm k X.A) : OpR X (compareOp .Eq) (fun x y H Q => EqO X.K H x y ∧ Q (.bl true) H) := by
 intro pins s σ H x y v u Q I rx ry ⟨h, q⟩
 rcases h with ⟨rfl, rfl⟩ | ⟨a, b, xs, rfl, rfl, ha, hb, hp⟩
 · exact op_eq pins s σ H .non .non v u Q I rx ry ⟨rfl, by rw [show decide ((V.non) = V.non) = true from rfl]; exact q⟩
 · cases rx
   cases ry
   obtain ⟨its, r, pl, hz⟩ := I.tuple ha
   obtain ⟨its2, r2, pl2, hz2⟩ := I.tuple hb
   have l1 := r.length
   have l2 := r2.length
   have hu : X.A.units < cLine := by have := hr.un; omega
   refine SeqAt.eq_tupleAt (e := fun _ => true) (show s.heap.IsTuple a its.toArray from pl) (show s.heap.IsTuple b its2.toArray from pl2) hu (fun j h1 h2 => ?_) ?_
   · simp only [List.size_toArray] at h1 h2
     obtain ⟨x, e, rx⟩ := vals_at r j h1
     obtain ⟨x2, e2, rx2⟩ := vals_at r2 j h2
     rw [e] at e2
     cases e2
     simp only [List.getElem_toArray]
     exact eqAt_self (hp x (List.mem_of_getElem? e)) rx rx2
   · have hb : ((List.range (min its.toArray.size its2.toArray.size)).all (fun _ => true) && its.toArray.size == its2.toArray.size) = true := by
       simp only [List.size_toArray]
       rw [← l1, ← l2]
       simp
     rw [hb]
     exact ⟨.bl true, H, I, rfl, q⟩
theorem op_neO {cm : Bool} {k : Nat} (hr : Room cm k X.A) : OpR X (compareOp .NotEq) (fun x y H Q => EqO X.K H x y ∧ Q (.bl false) H) := by
 intro pins s σ H x y v u Q I rx ry ⟨h, q⟩
 rcases h with ⟨rfl, rfl⟩ | ⟨a, b, xs, rfl, rfl, ha, hb, hp⟩
 · exact op_ne pins s σ H .non .non v u Q I rx ry ⟨rfl, by rw [show (!decide ((V.non) = V.non)) = false from rfl]; exact q⟩
 · cases rx
   cases ry
   obtain ⟨its, r, pl, hz⟩ := I.tuple ha
   obtain ⟨its2, r2, pl2, hz2⟩ := I.tuple hb
   have l1 := r.length
   have l2 := r2.length
   have hu : X.A.units < cLine := by have := hr.un; omega
   refine SeqAt.RcNeAt.tuples (e := fun _ => true) (show s.heap.IsTuple a its.toArray from pl) (show s.heap.IsTuple b its2.toArray from pl2) hu (fun j h1 h2 => ?_) _ _ _ _ ?_
   · simp only [List.size_toArray] at h1 h2
     obtain ⟨x, e, rx⟩ := vals_at r j h1
     obtain ⟨x2, e2, rx2⟩ := vals_at r2 j h2
     rw [e] at e2
     cases e2
     simp only [List.getElem_toArray]
     exact eqAt_self (hp x (List.mem_of_getElem? e)) rx rx2
   · have hb : (!((List.range (min its.toArray.size its2.toArray.size)).all (fun _ => true) && its.toArray.size == its2.toArray.size)) = false := by
       simp only [List.size_toArray]
       rw [← l1, ← l2]
       simp
     rw [hb]
     exact ⟨.bl false, H, I, rfl, q⟩
end
end L2
namespace L2
open PySem PySem.W PyProof.Rows
structure Ord (n : Nat) (lt : Nat → Nat → Bool) : Prop where
 tri : ∀ i j, i < n → j < n → i ≠ j → lt i j = !lt j i
 tr : ∀ i j k, i < n → j < n → k < n → lt i j = true → lt j k = true → lt i k = true
structure PermN (n : Nat) (p : Array Nat) : Prop where
 pm : p.toList.Perm (List.range n)
theorem PermN.size {n : Nat} {p : Array Nat} (h : PermN n p) : p.size = n := by
 have := h.pm.length_eq
 simpa using this
theorem gD {p : Array Nat} {i : Nat} (h : i < p.size) : p.getD i 0 = p[i] := by
 rw [Array.getD_eq_getD_getElem?, Array.getElem?_eq_getElem h]
 rfl
theorem PermN.lt {n : Nat} {p : Array Nat} (h : PermN n p) {i : Nat} (hi : i < n) : p.getD i 0 < n := by
 rw [gD (by rw [h.size]; exact hi)]
 have : p[i]'(by rw [h.size]; exact hi) ∈ p.toList := by simp
 exact List.mem_range.mp (h.pm.mem_iff.mp this)
theorem PermN.inj {n : Nat} {p : Array Nat} (h : PermN n p) {i j : Nat} (hi : i < n) (hj : j < n) (hne : i ≠ j) : p.getD i 0 ≠ p.getD j 0 := by
 have hi' : i < p.toList.length := by rw [Array.length_toList, h.size]; exact hi
 have hj' : j < p.toList.length := by rw [Array.length_toList, h.size]; exact hj
 have nd : p.toList.Nodup := h.pm.nodup_iff.mpr List.nodup_range
 rw [gD (by rw [h.size]; exact hi), gD (by rw [h.size]; exact hj)]
 intro e
 exact hne ((List.getElem_inj (h₀ := hi') (h₁ := hj') nd).mp (by simpa using e))
def Up (lt : Nat → Nat → Bool) (p : Array Nat) (m : Nat) : Prop := ∀ i j, i < j → j < m → lt (p.getD i 0) (p.getD j 0) = true
def Dn (lt : Nat → Nat → Bool) (p : Array Nat) (m : Nat) : Prop := ∀ i j, i < j → j < m → lt (p.getD j 0) (p.getD i 0) = true
section
variable {n : Nat} {lt : Nat → Nat → Bool} {cmp : Nat → Nat → (Bool → Shared → Prop) → Shared → Prop} {s : Shared}
theorem Up.next (O : Ord n lt) {p : Array Nat} (P : PermN n p) {m : Nat} (h1 : 1 ≤ m) (hm : m < n) (u : Up lt p m) (h : lt (p.getD (m - 1) 0) (p.getD m 0) = true) : Up lt p (m + 1) := by
 intro i j hij hj
 by_cases e : j = m
 · subst e
   by_cases e2 : i = j - 1
   · subst e2; exact h
   · exact O.tr _ _ _ (P.lt (by omega)) (P.lt (by omega)) (P.lt hm) (u i (j - 1) (by omega) (by omega)) h
 · exact u i j hij (by omega)
theorem Dn.next (O : Ord n lt) {p : Array Nat} (P : PermN n p) {m : Nat} (h1 : 1 ≤ m) (hm : m < n) (u : Dn lt p m) (h : lt (p.getD m 0) (p.getD (m - 1) 0) = true) : Dn lt p (m + 1) := by
 intro i j hij hj
 by_cases e : j = m
 · subst e
   by_cases e2 : i = j - 1
   · subst e2; exact h
   · exact O.tr _ _ _ (P.lt hm) (P.lt (by omega)) (P.lt (by omega)) h (u i (j - 1) (by omega) (by omega))
 · exact u i j hij (by omega)
end
end L2
namespace L2
open PySem PySem.W PySem.Spec PyProof.Rows L3
section
variable {prog : Program} {w : World} {s : Shared} {A : Around} {E : Value → Shared → Prop}
theorem RawD.stay {h h' : Heap} {d : Addr} {es : Array DictEntry} {ep : Nat} (x : RawD h d es ep) (k : ∀ o, h.get? d = some o → h'.get? d = some o) : RawD h' d es ep := by
 obtain ⟨o, ho, r⟩ := x
 exact ⟨o, k o ho, r⟩
theorem RawD.lt {h : Heap} {d : Addr} {es : Array DictEntry} {ep : Nat} (x : RawD h d es ep) : d < h.objs.size := by
 obtain ⟨o, ho, _⟩ := x
 exact Heap.lt_size ho
end
end L2
namespace L2
open PySem PySem.W PySem.Spec PyProof.Rows L3
section
variable {prog : Program} {w : World} {s : Shared} {A : Around} {E : Value → Shared → Prop}
end
end L2
namespace L2
open PySem PySem.W PySem.Spec PyProof.Rows L3
section
variable {prog : Program} {w : World} {s : Shared} {A : Around} {E : Value → Shared → Prop}
end
end L2
namespace L2
open PySem PySem.W PySem.Spec PyProof.Rows L3
section
variable {prog : Program} {w : World} {s : Shared} {A : Around} {E : Value → Shared → Prop}
def TwoAt (h : Heap) (a : Addr) (k : Str × Str) : Prop := ∃ o n t u, h.get? a = some o ∧ o.cls = .type "tuple" ∧ o.data = .seq #[.str k.1 t, .str k.2 u] n
inductive TwosAt (h : Heap) : List Addr → List (Str × Str) → Prop where
 | nil : TwosAt h [] []
 | cons {a : Addr} {k : Str × Str} {as : List Addr} {ks : List (Str × Str)} (x : TwoAt h a k) (r : TwosAt h as ks) : TwosAt h (a :: as) (k :: ks)
theorem TwosAt.keep {h h' : Heap} (kp : ∀ b o, h.get? b = some o → h'.get? b = some o) : ∀ {as : List Addr} {ks : List (Str × Str)}, TwosAt h as ks → TwosAt h' as ks
 | _, _, .nil => .nil
 | _, _, .cons ⟨o, n, t, u, e, r⟩ x => .cons ⟨o, n, t, u, kp _ _ e, r⟩ (x.keep kp)
theorem TwosAt.len {h : Heap} : ∀ {as : List Addr} {ks : List (Str × Str)}, TwosAt h as ks → as.length = ks.length
 | _, _, .nil => rfl
 | _, _, .cons _ r => congrArg (· + 1) r.len
theorem TwosAt.at {h : Heap} : ∀ {as : List Addr} {ks : List (Str × Str)} (i : Nat), TwosAt h as ks → i < as.length → ∃ a, (as.map Value.ref).getD i Value.none = .ref a ∧ TwoAt h a (ks.getD i ("", ""))
 | _, _, i, .nil, hi => absurd hi (Nat.not_lt_zero _)
 | _, _, 0, .cons x _, _ => ⟨_, rfl, x⟩
 | _, _, i + 1, .cons _ r, hi => by
   obtain ⟨a, e, x⟩ := r.at i (by simpa using hi)
   exact ⟨a, by simpa [List.getD] using e, by simpa [List.getD] using x⟩
end
end L2
namespace L2
open PySem PySem.W PySem.Spec PyProof.Rows L3
section
variable {X : Cx}
end
end L2
namespace L2
open PySem PySem.Spec PyProof.Rows L3
section
variable {X : Cx}
end
end L2
namespace L2
open PySem PySem.Spec PyProof.Rows L3
end L2
namespace L2
open PySem PySem.Spec PyProof.Rows L3
section
variable {X : Cx}
end
end L2
namespace L2
open PySem PySem.Spec PyProof.Rows L3
section
variable {X : Cx}
end
end L2
namespace L2
open PySem PySem.Spec PyProof.Rows L3
section
variable {X : Cx}
def eqP (K : PySem.W.Frag) (H : Hp) (x y : V) : Prop := ∃ a b xs, x = .ref a ∧ y = .ref b ∧ SqL K H a xs ∧ SqL K H b xs ∧ ∀ z ∈ xs, eqPl z = true
theorem Inv.eqP {pins : List (Addr × Obj)} {σ : St} {H : Hp} {s : Shared} {x y : V} {v u : Value} {A : Around} (I : Inv X pins σ H s) (hu : A.units < cLine) (e : eqP X.K H x y) (rx : RelV x v) (ry : RelV y u) : SeqAt.EqAt A s v u true := by
 obtain ⟨a, b, xs, rfl, rfl, ha, hb, hp⟩ := e
 cases rx
 cases ry
 by_cases hab : a = b
 · subst hab
   exact SeqAt.EqAt.same _
 obtain ⟨its, r, pl, hz⟩ := I.list ha
 obtain ⟨its2, r2, pl2, hz2⟩ := I.list hb
 have l1 := r.length
 have l2 := r2.length
 have h := SeqAt.RcAt.lists (A := A) (e := fun _ => true) pl.isList pl2.isList (by simp only [List.size_toArray]; omega) hu (fun j h1 h2 => by
   simp only [List.size_toArray] at h1 h2
   obtain ⟨x, e, rx⟩ := vals_at r j h1
   obtain ⟨x2, e2, rx2⟩ := vals_at r2 j h2
   rw [e] at e2
   cases e2
   simp only [List.getElem_toArray]
   exact eqAt_self (hp x (List.mem_of_getElem? e)) rx rx2)
 rw [show ((List.range its.toArray.size).all fun _ => true) = true by simp] at h
 exact SeqAt.EqAt.of_refs hab h
end
end L2
namespace PySem.W
open PySem
section
variable {prog : Program} {w : World} {A : Around} {E : Value → Shared → Prop} {s : Shared}
end
end PySem.W
namespace L2
open PySem PySem.W PySem.Spec PyProof.Rows L3
section
variable {X : Cx}
end
end L2
namespace L2
open PySem PySem.W PySem.Spec PyProof.Rows L3
section
variable {X : Cx} {CX : CXT} {cm : Bool} {k : Nat} {f C : Addr} {fd : FuncData} {ps : List Str} {sp : Sp} {dvs : List V} {ds : List Value} {E : XK} {x m : Str} {p pos apos : Pos} {e : Expr} {es : List Expr} {t : TA} {mc : Value}
end
end L2
namespace L2
open PySem PySem.W PySem.Spec PyProof.Rows L3
section
variable {X : Cx}
def eqLi (K : PySem.W.Frag) (H : Hp) (x y : V) : Prop := ∃ a b xs ys, x = .ref a ∧ y = .ref b ∧ SqL K H a xs ∧ SqL K H b ys ∧ EqLs K H xs ys
theorem Inv.eqLi {pins : List (Addr × Obj)} {σ : St} {H : Hp} {s : Shared} {x y : V} {v u : Value} {A : Around} (I : Inv X pins σ H s) (hu : A.units < cLine) (hu1 : A.in1.units < cLine) (e : eqLi X.K H x y) (rx : RelV x v) (ry : RelV y u) : SeqAt.EqAt A s v u true := by
 obtain ⟨a, b, xs, ys, rfl, rfl, ha, hb, hl, he⟩ := e
 cases rx
 cases ry
 by_cases hab : a = b
 · subst hab
   exact SeqAt.EqAt.same _
 obtain ⟨its, r, pl, hz⟩ := I.list ha
 obtain ⟨its2, r2, pl2, hz2⟩ := I.list hb
 have l1 := r.length
 have l2 := r2.length
 have h := SeqAt.RcAt.lists (A := A) (e := fun _ => true) pl.isList pl2.isList (by simp only [List.size_toArray]; omega) hu (fun j h1 h2 => by
   simp only [List.size_toArray] at h1 h2
   obtain ⟨x, e, rx⟩ := vals_at r j h1
   obtain ⟨x2, e2, rx2⟩ := vals_at r2 j h2
   simp only [List.getElem_toArray]
   exact I.eqT hu1 (he j x x2 e e2) rx rx2)
 rw [show ((List.range its.toArray.size).all fun _ => true) = true by simp] at h
 exact SeqAt.EqAt.of_refs hab h
end
end L2
namespace L2
open PySem PySem.W PySem.Spec PyProof.Rows L3
section
variable {X : Cx} {CX : CXT} {cm : Bool} {k : Nat} {E : XK} {m : Str} {pos apos : Pos} {o : Expr} {ta : TE}
end
end L2
namespace L2
open PySem PySem.W PySem.Spec PyProof.Rows L3
section
variable {X : Cx}
def eqTu (K : PySem.W.Frag) (H : Hp) (x y : V) : Prop := ∃ a b xs ys, x = .ref a ∧ y = .ref b ∧ SqT K H a xs ∧ SqT K H b ys ∧ xs.length = ys.length ∧ ∀ (j : Nat) x y, xs[j]? = some x → ys[j]? = some y → eqT K H x y ∨ eqLi K H x y
theorem Inv.eqTu {pins : List (Addr × Obj)} {σ : St} {H : Hp} {s : Shared} {x y : V} {v u : Value} {A : Around} (I : Inv X pins σ H s) (w0 : A.units < cLine) (w1 : A.in1.units < cLine) (w2 : A.in1.in1.units < cLine) (t : eqTu X.K H x y) (rx : RelV x v) (ry : RelV y u) : SeqAt.EqAt A s v u true := by
 obtain ⟨a, b, xs, ys, rfl, rfl, ha, hb, hl, he⟩ := t
 cases rx
 cases ry
 by_cases hab : a = b
 · subst hab
   exact SeqAt.EqAt.same _
 obtain ⟨i1, r1, p1, z1⟩ := I.tuple ha
 obtain ⟨i2, r2, p2, z2⟩ := I.tuple hb
 have n1 := r1.length
 have n2 := r2.length
 have h := SeqAt.RcAt.tuples (A := A) (e := fun _ => true) (show s.heap.IsTuple a i1.toArray from p1) (show s.heap.IsTuple b i2.toArray from p2) w0 (fun j h1 h2 => by
   simp only [List.size_toArray] at h1 h2
   obtain ⟨x, e, rx⟩ := vals_at r1 j h1
   obtain ⟨x2, e2, rx2⟩ := vals_at r2 j h2
   simp only [List.getElem_toArray]
   rcases he j x x2 e e2 with w | w
   · exact I.eqT w1 w rx rx2
   · exact I.eqLi w1 w2 w rx rx2)
 rw [show ((List.range (min i1.toArray.size i2.toArray.size)).all (fun _ => true) && i1.toArray.size == i2.toArray.size) = true by
   simp only [List.size_toArray]
   rw [← n1, ← n2, hl]
   simp] at h
 exact SeqAt.EqAt.of_refs hab h
end
end L2
namespace L2
open PySem PySem.W PySem.Spec PyProof.Rows L3
section
variable {X : Cx}
theorem eqV_self {x : V} (h : flatV x = true) : eqV x x = true := by
 cases x <;> simp_all [flatV, eqV]
def tupB (xs ys : List V) : Bool := (List.range (min xs.length ys.length)).all (fun j => match xs[j]?, ys[j]? with | some x, some y => eqV x y | _, _ => true) && xs.length == ys.length
theorem tupB_self {xs : List V} (h : ∀ v ∈ xs, flatV v = true) : tupB xs xs = true := by
 unfold tupB
 rw [Bool.and_eq_true]
 refine ⟨List.all_eq_true.mpr fun j hj => ?_, by simp⟩
 have hj2 : j < xs.length := by simpa using hj
 rw [List.getElem?_eq_getElem hj2]
 exact eqV_self (h _ (List.getElem_mem hj2))
def eqTB (K : PySem.W.Frag) (H : Hp) (x y : V) (b : Bool) : Prop := ∃ a c xs ys, x = .ref a ∧ y = .ref c ∧ SqT K H a xs ∧ SqT K H c ys ∧ (∀ v ∈ xs, flatV v = true) ∧ (∀ v ∈ ys, flatV v = true) ∧ (a = c → xs = ys) ∧ b = tupB xs ys
theorem Inv.eqTB {pins : List (Addr × Obj)} {σ : St} {H : Hp} {s : Shared} {x y : V} {v u : Value} {b : Bool} {A : Around} (I : Inv X pins σ H s) (w0 : A.units < cLine) (t : eqTB X.K H x y b) (rx : RelV x v) (ry : RelV y u) : SeqAt.EqAt A s v u b := by
 obtain ⟨a, c, xs, ys, rfl, rfl, ha, hb, fx, fy, hs, rfl⟩ := t
 cases rx
 cases ry
 by_cases hab : a = c
 · subst hab
   rw [← hs rfl, tupB_self fx]
   exact SeqAt.EqAt.same _
 obtain ⟨i1, r1, p1, z1⟩ := I.tuple ha
 obtain ⟨i2, r2, p2, z2⟩ := I.tuple hb
 have n1 := r1.length
 have n2 := r2.length
 have h := SeqAt.RcAt.tuples (A := A) (e := fun j => match xs[j]?, ys[j]? with | some x, some y => eqV x y | _, _ => true) (show s.heap.IsTuple a i1.toArray from p1) (show s.heap.IsTuple c i2.toArray from p2) w0 (fun j h1 h2 => by
   simp only [List.size_toArray] at h1 h2
   obtain ⟨x, e, rx⟩ := vals_at r1 j h1
   obtain ⟨x2, e2, rx2⟩ := vals_at r2 j h2
   simp only [List.getElem_toArray]
   rw [e, e2]
   exact eqAt_V rx rx2 (fx x (List.mem_of_getElem? e)) (fy x2 (List.mem_of_getElem? e2)))
 rw [show ((List.range (min i1.toArray.size i2.toArray.size)).all (fun j => match xs[j]?, ys[j]? with | some x, some y => eqV x y | _, _ => true) && i1.toArray.size == i2.toArray.size) = tupB xs ys by
   unfold tupB
   simp only [List.size_toArray]
   rw [← n1, ← n2]] at h
 exact SeqAt.EqAt.of_refs hab h
def lstB (xs ys : List V) (e : Nat → Bool) : Bool := xs.length == ys.length && (List.range xs.length).all e
def eqLB (K : PySem.W.Frag) (H : Hp) (x y : V) (b : Bool) : Prop := ∃ a c xs ys e, x = .ref a ∧ y = .ref c ∧ SqL K H a xs ∧ SqL K H c ys ∧ (∀ (j : Nat) x y, xs[j]? = some x → ys[j]? = some y → eqTB K H x y (e j)) ∧ (a = c → lstB xs ys e = true) ∧ b = lstB xs ys e
theorem Inv.eqLB {pins : List (Addr × Obj)} {σ : St} {H : Hp} {s : Shared} {x y : V} {v u : Value} {b : Bool} {A : Around} (I : Inv X pins σ H s) (w0 : A.units < cLine) (w1 : A.in1.units < cLine) (t : eqLB X.K H x y b) (rx : RelV x v) (ry : RelV y u) : SeqAt.EqAt A s v u b := by
 obtain ⟨a, c, xs, ys, e, rfl, rfl, ha, hb, he, hs, rfl⟩ := t
 cases rx
 cases ry
 by_cases hab : a = c
 · subst hab
   rw [hs rfl]
   exact SeqAt.EqAt.same _
 obtain ⟨i1, r1, p1, z1⟩ := I.list ha
 obtain ⟨i2, r2, p2, z2⟩ := I.list hb
 have n1 := r1.length
 have n2 := r2.length
 by_cases hl : xs.length = ys.length
 · have h := SeqAt.RcAt.lists (A := A) (e := e) p1.isList p2.isList (by simp only [List.size_toArray]; omega) w0 (fun j h1 h2 => by
     simp only [List.size_toArray] at h1 h2
     obtain ⟨x, e1, rx⟩ := vals_at r1 j h1
     obtain ⟨x2, e2, rx2⟩ := vals_at r2 j h2
     simp only [List.getElem_toArray]
     exact I.eqTB w1 (he j x x2 e1 e2) rx rx2)
   rw [show (List.range i1.toArray.size).all e = lstB xs ys e by
     unfold lstB
     simp only [List.size_toArray]
     rw [← n1, hl]
     simp] at h
   exact SeqAt.EqAt.of_refs hab h
 · rw [show lstB xs ys e = false by
     unfold lstB
     rw [show (xs.length == ys.length) = false by simpa using hl]
     rfl]
   exact SeqAt.EqAt.of_refs hab (SeqAt.RcAt.lists_lengths (A := A) p1.isList p2.isList (by
     simp only [List.size_toArray]
     rw [← n1, ← n2]
     simpa using hl) w0)
end
end L2
namespace L2
open PySem PySem.W PySem.Spec PyProof.Rows L3
section
variable {X : Cx} {CX : CXT} {cm : Bool} {k : Nat} {E : XK} {m : Str} {pos apos : Pos} {o e : Expr} {es : List Expr} {ta : TE} {t : TA}
end
end L2
namespace L2
open PySem PySem.W PySem.Spec PyProof.Rows L3
section
variable {X : Cx}
end
end L2
namespace L2
open PySem PySem.W PySem.Spec PyProof.Rows L3
section
variable {X : Cx}
end
end L2
namespace L2
open PySem PySem.W PySem.Spec PyProof.Rows L3
section
variable {X : Cx}
end
end L2
namespace L2
open PySem PySem.W PySem.Spec PyProof.Rows L3
section
variable {X : Cx}
end
end L2
namespace L2
open PySem PySem.W PySem.Spec PyProof.Rows L3
section
variable {prog : Program} {w : World} {s : Shared} {A : Around} {E : Value → Shared → Prop} {M : Model}
structure StrS (prog : Program) (w : World) (h : Heap) (a : Addr) (es : Array (Int × Value)) (ep : Nat) (t : SetTable) : Prop where
 ob : ∃ o, h.get? a = some o ∧ o.ExactSet ∧ o.data = .set es ep t
 el : ElemsOf (strKind prog w) es.toList
 ft : t.fits es.size = true
 pl : es.size = 0 ∨ t.plain = false
 ld : t.led = !w.params.followText "set-order"
 sm : es.size < scanBound
theorem StrS.same {h h' : Heap} {a : Addr} {es : Array (Int × Value)} {ep : Nat} {t : SetTable} (x : StrS prog w h a es ep t) (k : ∀ o, h.get? a = some o → h'.get? a = some o) : StrS prog w h' a es ep t := by
 obtain ⟨⟨o, ho, r⟩, q1, q2, q3, q4, q5⟩ := x
 exact ⟨⟨o, k o ho, r⟩, q1, q2, q3, q4, q5⟩
end
end L2
namespace L2
open PySem PySem.W PySem.Spec PyProof.Rows L3
section
variable {prog : Program} {w : World} {A : Around} {R : Result → Shared → Prop} {I : Addr} {fp wr : List Addr} {G : Array GenState → Array GenState → Prop} {n : Nat} {P : Nat → Value → Prop} {St : Nat → Shared → Prop}
end
section
variable {prog : Program} {w : World} {A : Around} {E : Value → Shared → Prop} {s : Shared}
end
end L2
namespace L2
open PySem PySem.W PySem.Spec PyProof.Rows L3
section
variable {prog : Program} {w : World} {A : Around} {E : Value → Shared → Prop} {s : Shared}
theorem StrS.typeIs {a : Addr} {es : Array (Int × Value)} {ep : Nat} {t : SetTable} (X : StrS prog w s.heap a es ep t) : s.TypeIs (.ref a) "set" := by
 obtain ⟨o, ho, hx, hd⟩ := X.ob
 exact ⟨o, ho, hx.1⟩
end
end L2
namespace L2
open PySem PySem.W PySem.Spec PyProof.Rows L3
section
variable {prog : Program} {w : World} {A : Around} {E : Value → Shared → Prop} {s : Shared}
end
end L2
namespace L2
open PySem PySem.W PySem.Spec PyProof.Rows L3
section
variable {prog : Program} {w : World} {A : Around} {E : Value → Shared → Prop} {s : Shared}
end
end L2
namespace L2
open PySem PySem.W PySem.Spec PyProof.Rows L3
section
variable {prog : Program} {w : World} {A : Around} {E : Value → Shared → Prop} {s : Shared}
end
end L2
namespace L2
open PySem PySem.W PySem.Spec PyProof.Rows L3
section
variable {prog : Program} {w : World} {A : Around} {E : Value → Shared → Prop} {s : Shared}
end
section
variable {X : Cx}
theorem Inv.drawn {pins : List (Addr × Obj)} {σ : St} {H : Hp} {s : Shared} (I : Inv X pins σ H s) (d : Drawn) : Inv X pins σ H { s with drawn := d } := ⟨I.ok, I.os, I.bare, I.base, I.loc, I.cell, I.free, I.freeC, I.pin, I.hok, I.len⟩
end
end L2
namespace L2
open PySem PySem.W PySem.Spec PyProof.Rows L3
section
variable {X : Cx}
end
end L2
namespace L2
open PySem PySem.Spec PyProof.Rows L3
section
variable {X : Cx} {pins : List (Addr × Obj)} {σ : St} {H : Hp} {s : Shared}
theorem Inv.freezeK {d : Addr} {kvs : List (Key × V)} {o : Obj} (I : Inv X pins σ H s) (hd : H d = some (.dK kvs)) (ho : s.heap.get? d = some o) : Inv X pins σ (upd H d (.frz o (.dK kvs))) s := by
 have ne : ∀ b, H b = none → b ≠ d := fun b e z => by rw [z, hd] at e; cases e
 refine I.step (h' := s.heap) (g' := s.gens) (t' := s.toks) (d' := s.drawn) (ch := []) (fun _ z => nomatch z) (fun b o _ _ _ e _ => e) (fun b o _ _ _ e _ => ⟨o.slots, e⟩) (fun b o _ _ n => by rw [uqn (ne b n)]; exact n) (fun b o _ e => ⟨o, e⟩)
   (fun b xs e => ?_) (fun b o u e => ?_) (fun b ps e => ⟨#[], ?_⟩) (fun m h => h) ?_ I.bare
 · rw [uqn (ne_of e hd (by intro z; cases z))]; exact e
 · rw [uqn (ne_of e hd (by intro z; cases z))]; exact e
 · rw [uqn (ne_of e hd (by intro z; cases z))]; simpa using e
 · have own : ∀ (c y : Addr), H c = some (.own y) → upd H d (.frz o (.dK kvs)) c = some (.own y) := fun c y e => by rw [uqn (ne_of e hd (by intro z; cases z))]; exact e
   have tup : ∀ (c : Addr) (xs : List V), H c = some (.tup xs) → upd H d (.frz o (.dK kvs)) c = some (.tup xs) := fun c xs e => by rw [uqn (ne_of e hd (by intro z; cases z))]; exact e
   intro b u e
   by_cases hb : b = d
   · subst hb
     rw [uqs] at e
     cases e
     exact ⟨ho, (I.hok b _ hd).stay (fun _ _ _ q => q) (fun c q => own c b q) tup⟩
   · rw [uqn hb] at e
     exact (I.hok b u e).stay (fun _ _ _ q => q) (fun c q => own c b q) tup
end
theorem kv_at {l : List (Key × V)} {m : List (Key × Value)} (r : KV l m) : ∀ (j : Nat) kv, l[j]? = some kv → ∃ u, m[j]? = some (kv.1, u) ∧ RelV kv.2 u := by
 unfold KV at r
 induction r with
 | nil => intro j p hp; simp at hp
 | @cons p q ps qs h t ih =>
   intro j p' hp
   cases j with
   | zero =>
     cases hp
     obtain ⟨q1, q2⟩ := q
     refine ⟨q2, ?_, h.2⟩
     show some (q1, q2) = _
     rw [h.1]
   | succ j => exact ih j p' (by simpa using hp)
def ItI (d : Addr) (o : Obj) (kvs : List (Key × V)) : It :=
 ⟨fun i H => H d = some (.frz o (.dK kvs)) ∧ i < kvs.length, fun i H x H' => ∃ t kv, x = .ref t ∧ H t = none ∧ H' = upd H t (.tup [kV kv.1, kv.2]) ∧ kvs[i]? = some kv, fun i H => H d = some (.frz o (.dK kvs)) ∧ kvs.length ≤ i⟩
theorem turn_items {P : Program} {w : World} {K : PySem.W.Frag} {elts : List Expr} {x1} {pos : Pos} {d it : Addr} {o : Obj} {kvs : List (Key × V)} {vs : List (Key × Value)} {ep : Nat} (rel : KV kvs vs) (hdi : d ≠ it)
   (hda : ∀ h : Heap, h.get? d = some o → h.DictAt (mixKind P w) d vs ep) : Turn P w K (.Tuple elts x1 pos) (ItI d o kvs) [it] it (fun i h => ∃ ok ov, IsItemIter h it d i vs.length ep ok ov) where
 mem := by simp
 obj := fun i h st b hb => by
   obtain ⟨ok, ov, he⟩ := st
   rw [List.mem_singleton.mp hb]
   exact ⟨_, he, fun v z => by
     have z' : Data.fields _ = Data.cell v := z
     cases z'⟩
 keep := fun i h h' st k => by
   obtain ⟨ok, ov, he⟩ := st
   exact ⟨ok, ov, k it (by simp) _ he⟩
 item := by
   intro X hP hw hK hc i pins s σ H E I hf st hg
   subst hP hw hK
   obtain ⟨hdf, hlt⟩ := hg
   obtain ⟨ok, ov, hi⟩ := st
   obtain ⟨f0, f1, f2, f3, f4, f5⟩ := hf it (by simp)
   obtain ⟨kv, hkv⟩ : ∃ kv, kvs[i]? = some kv := ⟨_, List.getElem?_eq_getElem hlt⟩
   obtain ⟨u, hu, ru⟩ := kv_at rel i kv hkv
   have raw := hda s.heap (show ObjOk X.prog X.w H s.heap d (.frz o (.dK kvs)) from I.hok d _ hdf).1
   refine wpAny_pyNext_items_item hi raw hu fun key h1 hkey heo ht1 hz1 hk1 => ?_
   refine ⟨_, rfl, wpAny_letOwnedTupleGo_items heo fun h2 he2 hs2 => ?_⟩
   replace hs2 : Heap.SameBut it h1 h2 := hs2
   have li : it < s.heap.objs.size := Heap.lt_size hi
   obtain ⟨oi2, hoi2⟩ : ∃ o, h2.get? it = some o := ⟨_, he2⟩
   have hfe : oi2.isFreed = false := by
     have : oi2 = _ := Option.some.inj (hoi2.symm.trans he2)
     rw [this]
     exact Obj.isFreed_of_fields rfl
   have gA : (s.heap.update it (fun _ => oi2)).get? it = some oi2 := Heap.get?_update_self (fun _ => oi2) hi hfe
   have oA : ∀ b, b ≠ it → (s.heap.update it (fun _ => oi2)).get? b = s.heap.get? b := fun b hb => Heap.get?_update_other _ _ (Ne.symm hb)
   have IA : Inv X pins σ H { s with heap := s.heap.update it (fun _ => oi2), toks := s.toks } := I.turned (t' := s.toks) (it := it) (fun b o hb q => (oA b hb).trans q) f0 f1 f3 f4 f5
   generalize hA : s.heap.update it (fun _ => oi2) = HA at gA oA IA
   have zA : HA.objs.size = s.heap.objs.size := by rw [← hA]; exact Heap.size_after_update ..
   have kB : ∀ b o, HA.get? b = some o → h2.get? b = some o := fun b o q => by
     by_cases bi : b = it
     · subst bi
       rw [gA] at q
       cases q
       exact hoi2
     · rw [oA b bi] at q
       exact (hs2.2 b bi).trans (hk1 b o bi q)
   have hT : h2.get? s.heap.objs.size = some { cls := .type "tuple", data := .seq #[key, u] } := (hs2.2 _ (Nat.ne_of_gt li)).trans ht1
   have IC := IA.laid (a := s.heap.objs.size) (o := .tup [kV kv.1, kv.2]) (t' := s.toks) (h' := h2) kB (Nat.le_of_eq zA) ⟨(by show 2 ≤ sizeLine; decide), [key, u], .cons (rel_key hkey) (.cons ru .nil), ⟨_, hT, rfl, _, rfl⟩⟩
   refine ⟨.ref s.heap.objs.size, _, IC, rfl, ⟨_, kv, rfl, I.hok.fresh (Nat.le_refl _), rfl, hkv⟩, ⟨_, _, he2⟩, fun b hb => ?_⟩
   rw [List.mem_singleton.mp hb, uqn (Nat.ne_of_lt li)]
   exact f0
 done := by
   intro X hP hw hK hc i pins s σ H E I hf st hg
   subst hP hw hK
   obtain ⟨hdf, hge⟩ := hg
   obtain ⟨ok, ov, hi⟩ := st
   obtain ⟨f0, f1, f2, f3, f4, f5⟩ := hf it (by simp)
   have raw := hda s.heap (show ObjOk X.prog X.w H s.heap d (.frz o (.dK kvs)) from I.hok d _ hdf).1
   have hl : kvs.length = vs.length := rel.length
   exact wpAny_pyNext_items_end (I.ok.hd hc) hi raw (List.getElem?_eq_none (by omega)) fun h' eb => ⟨rfl, I.turned (t' := s.toks) (fun b o hb e => eb b o hb e) f0 f1 f3 f4 f5⟩
 self := fun A i s Q E st h => by
   obtain ⟨ok, ov, he⟩ := st
   exact PySem.W.kcp_self he h
section
variable {X : Cx}
def iItems (te : TE) : TI := fun σ H R => te σ H fun x H1 => ∃ (v d : Addr) (kvs : List (Key × V)), x = .ref v ∧ H1 v = some (ivw v d) ∧ H1 d = some (.dK kvs) ∧ ∀ o : Obj, R (ItI d o kvs) (upd H1 d (.frz o (.dK kvs)))
theorem pi_items {elts : List Expr} {x1} {tp : Pos} {e : Expr} {te : TE} (he : PE X e te) : PI X (.Tuple elts x1 tp) e (iItems te) := by
 intro pins s σ H R I h
 refine thn (he pins s σ H _ I h) fun v s1 ⟨x, H1, I1, r1, q1⟩ => ?_
 obtain ⟨v, d, kvs, rfl, hv, hd, q⟩ := q1
 cases r1
 obtain ⟨z, hsm, vs, rel, dd⟩ := dk_of I1.hok hd
 obtain ⟨ep, da⟩ := dd.dictAt
 have hvw : s1.heap.IsItemsView v d := (I1.hok v _ hv).1
 obtain ⟨o, es, ho, rest⟩ := id da
 have I2 := I1.freezeK hd ho
 refine wpAny_pyIter_items hvw da ?_
 have k : ∀ b u, s1.heap.get? b = some u → (s1.heap.push { cls := .type "dict_itemiterator", data := .fields #[.none, .bool false, .ref d, .int 0 0, .int vs.length 0, .int ep 0, .none, .none] }).get? b = some u := fun b u e => Heap.get?_push_of_some _ e
 have I3 : Inv X pins σ (upd H1 d (.frz o (.dK kvs))) { s1 with heap := s1.heap.push { cls := .type "dict_itemiterator", data := .fields #[.none, .bool false, .ref d, .int 0 0, .int vs.length 0, .int ep 0, .none, .none] } } := I2.kept (t' := s1.toks) k
 refine ⟨s1.heap.objs.size, [s1.heap.objs.size], _, ItI d o kvs, upd H1 d (.frz o (.dK kvs)), rfl, I3, turn_items rel (Nat.ne_of_lt (Heap.lt_size ho)) (fun h hh => ⟨o, es, hh, rest⟩), ⟨_, _, Heap.get?_push_size _ rfl⟩, fun b hb => ?_, q o⟩
 rw [List.mem_singleton.mp hb]
 exact I2.fpOk (Nat.le_refl _) (I2.hok.fresh (Nat.le_refl _))
theorem for_items {d : Addr} {o : Obj} {kvs : List (Key × V)} {g : TG} {tb : TS} {D : Ends} {σ : St} {H : Hp} (Pv : Nat → St → Hp → Prop) (h0 : Pv 0 σ H) (hl : ∀ i σ H, i ≤ kvs.length → Pv i σ H → H d = some (.frz o (.dK kvs)))
   (hs : ∀ i kv σ H t, kvs[i]? = some kv → Pv i σ H → H t = none → g (.ref t) σ (upd H t (.tup [kV kv.1, kv.2])) fun σ2 H2 => tb { D with nx := Pv (i + 1), ct := Pv (i + 1), bk := D.nx } σ2 H2) (hd : ∀ σ H, Pv kvs.length σ H → D.nx σ H) :
   ∃ W : Nat → Nat → St → Hp → Prop, (∃ m, W 0 m σ H) ∧ ∀ i m σ H, W i m σ H →
     ((ItI d o kvs).stop i H ∧ D.nx σ H) ∨ ((ItI d o kvs).go i H ∧ ∃ N : St → Hp → Prop, (∀ σ' H', N σ' H' → ∃ m', m' < m ∧ W (i + 1) m' σ' H') ∧ ∀ x H', (ItI d o kvs).yld i H x H' → g x σ H' fun σ2 H2 => tb { D with nx := N, ct := N, bk := D.nx } σ2 H2) := by
 refine ⟨fun i m σ H => m = kvs.length - i ∧ i ≤ kvs.length ∧ Pv i σ H, ⟨kvs.length, by simp, Nat.zero_le _, h0⟩, ?_⟩
 rintro i m σ H ⟨rfl, hi, p⟩
 have q := hl i σ H hi p
 by_cases hlt : i < kvs.length
 · refine .inr ⟨⟨q, hlt⟩, Pv (i + 1), fun σ' H' p' => ⟨kvs.length - (i + 1), by omega, rfl, hlt, p'⟩, fun x H' y => ?_⟩
   obtain ⟨t, kv, rfl, ht, rfl, hk⟩ := y
   exact hs i kv σ H t hk p ht
 · have e : i = kvs.length := by omega
   subst e
   exact .inl ⟨⟨q, Nat.le_refl _⟩, hd σ H p⟩
end
end L2
namespace L2
open PySem PySem.W PySem.Spec PyProof.Rows L3
abbrev TH := Value → Option Addr → Hp → Ends → St → Prop
def thNil : TH := fun _ _ _ _ _ => False
def thAs (K : PySem.W.Frag) (CB : Addr) (i : Nat) (ts : TS) (th : TH) : TH := fun C dx H' D σ =>
 (PySem.W.exmOne K C (.ref CB) = some true ∧ ∀ x, H' x = none →
   ts { nx := fun σ2 H2 => D.nx (σ2.set i none) H2, rt := D.rt, bk := fun σ2 H2 => D.bk (σ2.set i none) H2, ct := fun σ2 H2 => D.ct (σ2.set i none) H2 } (σ.set i (some (.ref x))) (upd H' x (excO x C dx))) ∨
 (PySem.W.exmOne K C (.ref CB) = some false ∧ th C dx H' D σ)
def PH (X : Cx) (hs : List ExceptHandler) (th : TH) : Prop := ∀ (pins : List (Addr × Obj)) (σ : St) (H' : Hp) (D : Ends) (T x : Addr) (C : Value) (dx : Option Addr) (s3 : Shared), X.Ok → Inv X pins σ H' s3 → FpOk X pins H' T → FpOk X pins H' x → T ≠ x → Rec s3.heap x C dx (.ref T) → Tra s3.heap T .none → th C dx H' D σ →
 wpAny (model X.prog X.w) X.A (handleBy (.ref x) X.env hs) (SP X pins D) X.xe s3
def tTryH (tb : (St → Prop) → XK → TS) (th : TH) : TS := fun D σ H => tb (fun σ' => σ' = σ) (fun C dx H' => th C dx H' D σ) D σ H
section
variable {X : Cx}
theorem ph_nil : PH X [] thNil := fun _ _ _ _ _ _ _ _ _ _ _ _ _ _ _ _ h => h.elim
theorem ph_as {y n : Str} {np hpos : Pos} {b0 : Stmt} {suite : List Stmt} {hs : List ExceptHandler} {CB : Addr} {i : Nat} {ts : TS} {th : TH} (hN : X.N.Nodup) (hi : X.N[i]? = some n) (hl : X.env.scope.names.lookup n = some .local)
   (hg : Gl X y) (hm : X.mg y = some (.ref CB)) (hs1 : ∀ x, PSs (sup X x) (b0 :: suite) ts) (hr : PH X hs th) (hdb : (y == ("__debug__" : Str)) = false := by decide) : PH X (.ExceptHandler (some (.Name y np)) (some n) (b0 :: suite) hpos :: hs) (thAs X.K CB i ts th) := by
 intro pins σ' H' D T x C dx s3 ok I3 fT own ne r3 t3 h
 have LT : PySem.W.Looks (model X.prog X.w) s3.heap (typeOf (.ref x)) C := by
   obtain ⟨oe, vs, he, hc, _⟩ := id r3
   exact hc ▸ (PySem.W.Looks.ld he).andThen .now
 rcases h with ⟨hmt, hsu⟩ | ⟨hmt, hth⟩
 · refine wpAny_handleBy_cons (codeAny_handlers_test (ld_glob (X := sup X x) (inv_sup I3 x) hg hm ((PySem.W.exm_one I3.kIn LT hmt).here ?_) hdb)) (by intro z; cases z)
   show codeAny _ _ (.handlers (.ref x) [.ExceptHandler none (some n) (b0 :: suite) hpos] X.env) _ s3
   refine codeAny_handlers_suite_as (flight_none r3 ne t3 fun h4 a4 r4 t4 => ?_)
   have I4 : Inv X pins σ' H' { s3 with heap := h4 } := aft I3 (a4.mono (by simp) fun _ z => z) (by intro b hb; have : b = T := by simpa using hb
                                                                                                    subst this; exact fT)
   have I5 := track (o := excO x C dx) I4 own (excO_ok r4)
   refine store_ok (X := sup X x) (inv_sup I5 x) hN hi (.inl hl) (v := .ref x) rfl (fun s6 I6 => ?_) (.inr hl)
   refine wpAny_mono (hs1 x pins s6 _ _ _ I6 (hsu x own.1)) (fun f s7 q => ?_) fun _ _ z => z.elim
   cases f with
   | next => obtain ⟨σ7, H7, I7, q7⟩ := q; exact unbind_ok (inv_unsup ok I7) hN hi hl fun s8 I8 => ⟨_, _, I8, q7⟩
   | brk => obtain ⟨σ7, H7, I7, q7⟩ := q; exact unbind_ok (inv_unsup ok I7) hN hi hl fun s8 I8 => ⟨_, _, I8, q7⟩
   | cont => obtain ⟨σ7, H7, I7, q7⟩ := q; exact unbind_ok (inv_unsup ok I7) hN hi hl fun s8 I8 => ⟨_, _, I8, q7⟩
   | ret u => obtain ⟨v7, σ7, H7, I7, r7, q7⟩ := q; exact unbind_ok (inv_unsup ok I7) hN hi hl fun s8 I8 => ⟨v7, _, _, I8, r7, q7⟩
 · refine wpAny_handleBy_cons (codeAny_handlers_test (ld_glob (X := sup X x) (inv_sup I3 x) hg hm ((PySem.W.exm_one I3.kIn LT hmt).here ?_) hdb)) (by intro z; cases z)
   exact hr pins σ' H' D T x C dx s3 ok I3 fT own ne r3 t3 hth
theorem ps_tryH {body : List Stmt} {h0 : ExceptHandler} {hs : List ExceptHandler} {pos : Pos} {tb : (St → Prop) → XK → TS} {th : TH}
   (hst : X.stack = X.env :: X.outer) (hfr : X.env.frame = some X.env.locals)
   (hb : ∀ (pn : List (Addr × Obj)) (E : Value → Shared → Prop) (R : St → Prop) (Ek : XK), PassesOwn (model X.prog X.w) X.A X.env E → XeIs (into X pn E) R Ek → PSs (into X pn E) body (tb R Ek)) (hh : PH X (h0 :: hs) th) : PS X (.Try body (h0 :: hs) [] [] pos) (tTryH tb th) := by
 intro pins s σ H D I h
 refine wpAny_Try_except ?_
 have hxe : XeIs (into X (X.pn ++ pins) (fun e s1 => wpAny (model X.prog X.w) X.A (noteFrame e X.env) (fun _ s2 => wpAny (model X.prog X.w) X.A (setFlight e none)
     (fun _ s3 => wpAny (model X.prog X.w) X.A (handleBy e X.env (h0 :: hs)) (SP X pins D) X.xe s3) X.xe s2) X.xe s1)) (fun σ' => σ' = σ)
     (fun C dx H' => th C dx H' D σ) := by
   rintro pins' σ' H' s' x C dx I' rfl ex hsu
   have I1 : Inv X pins σ' H' s' := inv_outof I'
   have own : FpOk X pins H' x := fp_outof ex.own
   have fin : ∀ (T : Addr) (s3 : Shared), Inv X pins σ' H' s3 → FpOk X pins H' T → T ≠ x → Rec s3.heap x C dx (.ref T) → Tra s3.heap T .none →
       wpAny (model X.prog X.w) X.A (handleBy (.ref x) X.env (h0 :: hs)) (SP X pins D) X.xe s3 :=
     fun T s3 I3 fT ne r3 t3 => hh pins σ' H' D T x C dx s3 I.ok I3 fT own ne r3 t3 hsu
   have fr : X.A.frames = some (X.env :: X.outer) := by rw [I1.ok.frames, hst]
   have stk : s'.heap.FunFrames X.base (X.env :: X.outer) := by rw [← hst]; exact I1.stack
   have big : ∀ {T : Addr}, s'.heap.objs.size ≤ T → (∃ tb, Rec s'.heap x C dx tb) → T ≠ x := fun sz ⟨_, oe, _, he, _⟩ z => absurd (Nat.lt_of_lt_of_le (Heap.lt_size he) (z ▸ sz)) (Nat.lt_irrefl _)
   rcases ex.tr with r | ⟨T0, fl0, r, ne0, t0, f0⟩
   · refine note_new fr stk hfr r fun h' T a sz r' t' => ?_
     have J1 := aft I1 (by rw [hst]; exact a) (by intro b hb; have : b = x := by simpa using hb
                                                  subst this; exact own)
     have ne := big sz ⟨_, r⟩
     have fT := I1.fpOk (H' := H') sz (I1.hok.fresh sz)
     refine flight_none r' ne t' fun h2 a2 r2 t2 => ?_
     exact fin T _ (aft (h' := h2) J1 (a2.mono (by simp) fun _ z => z) (by intro b hb; have : b = T := by simpa using hb
                                                                           subst this; exact fT)) fT ne r2 t2
   · refine note_any fr stk hfr r ne0 t0 fun h' T fl' a sz r' t' => ?_
     have J1 := aft I1 (by rw [hst]; exact a) (by intro b hb
                                                  rcases (show b = x ∨ b = T0 by simpa using hb) with z | z
                                                  · subst z; exact own
                                                  · subst z; exact fp_outof f0)
     have ne : T ≠ x := by
       rcases sz with z0 | z0
       · rw [z0]; exact ne0
       · exact big z0 ⟨_, r⟩
     have fT : FpOk X pins H' T := by
       rcases sz with z0 | z0
       · rw [z0]; exact fp_outof f0
       · exact I1.fpOk (H' := H') z0 (I1.hok.fresh z0)
     refine flight_none r' ne t' fun h2 a2 r2 t2 => ?_
     exact fin T _ (aft (h' := h2) J1 (a2.mono (by simp) fun _ z => z) (by intro b hb; have : b = T := by simpa using hb
                                                                           subst this; exact fT)) fT ne r2 t2
 refine wpAny_mono (hb (X.pn ++ pins) _ _ _ PassesOwn.looking hxe [] s σ H D (inv_into I _) h) (fun f s1 q => ?_) fun _ _ z => z
 have q' := sp_outof q
 cases f with
 | next => exact wpAny_execs_nil q'
 | brk => exact q'
 | cont => exact q'
 | ret u => exact q'
end
end L2
namespace Z
def numZ (c : Int) : Int := if c % 3 = 0 then c / 3 % 13 - 6 else if c % 3 = 1 then c / 3 % 2000003 - 1000001 else (c / 3 % 1000003 - 500001) ^ 11
theorem pow_le {x : Int} (k n : Nat) (h : x.natAbs ≤ n) : (x ^ k).natAbs ≤ n ^ k := by
 rw [Int.natAbs_pow]
 exact Nat.pow_le_pow_left h k
theorem num_in (c : Int) : -(2 ^ 210) ≤ numZ c ∧ numZ c ≤ 2 ^ 210 := by
 unfold numZ
 split
 · omega
 · split
   · omega
   · have p := pow_le 11 500001 (show (c / 3 % 1000003 - 500001).natAbs ≤ 500001 by omega)
     generalize (c / 3 % 1000003 - 500001) ^ 11 = z at p ⊢
     have e : (500001 : Nat) ^ 11 ≤ 2 ^ 210 := by decide
     omega
end Z
namespace N11
def gF (a b : Int) : Int := (Int.gcd a b : Nat)
theorem g_abs (a b : Int) : Int.gcd (a.natAbs : Int) (b.natAbs : Int) = Int.gcd a b := rfl
theorem g_turn {a b : Int} (ha : 0 ≤ a) (hb : 0 < b) : Int.gcd b (a.fmod b) = Int.gcd a b := by
 rw [Int.fmod_eq_emod_of_nonneg a (Int.le_of_lt hb)]
 obtain ⟨m, rfl⟩ := Int.eq_ofNat_of_zero_le ha
 obtain ⟨n, rfl⟩ := Int.eq_ofNat_of_zero_le (Int.le_of_lt hb)
 show Nat.gcd n (((m : Int) % (n : Int)).natAbs) = Nat.gcd m n
 rw [← Int.natCast_emod, Int.natAbs_natCast, Nat.gcd_comm n, ← Nat.gcd_rec, Nat.gcd_comm]
theorem g_out {a : Int} (ha : 0 ≤ a) : (Int.gcd a 0 : Int) = a := by
 rw [Int.gcd_zero_right]
 omega
theorem fm_lt {a b : Int} (hb : 0 < b) : 0 ≤ a.fmod b ∧ a.fmod b < b := ⟨Int.fmod_nonneg_of_pos a hb, Int.fmod_lt_of_pos a hb⟩
theorem frac {t b g : Int} (hb : b ≠ 0) (hg : g = (if b < 0 then -(gF t b) else gF t b)) :
   g ≠ 0 ∧ (Int.fdiv b g ≥ 1) ∧ gF (Int.fdiv t g) (Int.fdiv b g) = 1 ∧ Int.fdiv t g * b = t * Int.fdiv b g ∧ Int.fdiv t g * g = t ∧ Int.fdiv b g * g = b := by
 have g0 : 0 < Int.gcd t b := Int.gcd_pos_of_ne_zero_right t hb
 have gd : g ≠ 0 := by rw [hg]; unfold gF; split <;> omega
 have d1 : (Int.gcd t b : Int) ∣ t := Int.gcd_dvd_left ..
 have d2 : (Int.gcd t b : Int) ∣ b := Int.gcd_dvd_right ..
 have e1 : g ∣ t := by
   rw [hg]; unfold gF; split
   · exact (Int.neg_dvd).mpr d1
   · exact d1
 have e2 : g ∣ b := by
   rw [hg]; unfold gF; split
   · exact (Int.neg_dvd).mpr d2
   · exact d2
 obtain ⟨x, hx⟩ := e1
 obtain ⟨y, hy⟩ := e2
 have fx : Int.fdiv t g = x := by rw [hx]; exact Int.mul_fdiv_cancel_left x gd
 have fy : Int.fdiv b g = y := by rw [hy]; exact Int.mul_fdiv_cancel_left y gd
 rw [fx, fy]
 have na : g.natAbs = Int.gcd t b := by rw [hg]; unfold gF; split <;> omega
 have gg : Int.gcd x y = 1 := by
   have : Int.gcd t b = g.natAbs * Int.gcd x y := by
     conv => lhs; rw [hx, hy]
     rw [Int.gcd_mul_left]
   rw [na] at this
   exact Nat.eq_of_mul_eq_mul_left g0 (by omega)
 refine ⟨gd, ?_, ?_, ?_, ?_, ?_⟩
 · -- y ≥ 1
   by_cases c : b < 0
   · rw [if_pos c] at hg
     have gn : g < 0 := by rw [hg]; unfold gF; omega
     by_cases z : 1 ≤ y
     · exact z
     · exfalso
       have := Int.mul_nonneg (show (0 : Int) ≤ -g by omega) (show (0 : Int) ≤ -y by omega)
       rw [Int.neg_mul_neg] at this
       omega
   · rw [if_neg c] at hg
     have gn : 0 < g := by rw [hg]; unfold gF; omega
     by_cases z : 1 ≤ y
     · exact z
     · exfalso
       have := Int.mul_nonneg (show (0 : Int) ≤ g by omega) (show (0 : Int) ≤ -y by omega)
       rw [Int.mul_neg] at this
       omega
 · unfold gF; rw [gg]; rfl
 · rw [hy, hx]; rw [Int.mul_comm g x, Int.mul_assoc]
 · rw [hx, Int.mul_comm]
 · rw [hy, Int.mul_comm]
end N11
namespace N11
theorem pow_le {x : Int} (k n : Nat) (h : x.natAbs ≤ n) : (x ^ k).natAbs ≤ n ^ k := by
 rw [Int.natAbs_pow]
 exact Nat.pow_le_pow_left h k
def numF (c : Int) : Int :=
 if Int.fmod c 3 = 0 then Int.fmod (Int.fdiv c 3) 13 - 6
 else if Int.fmod c 3 = 1 then Int.fmod (Int.fdiv c 3) 2000003 - 1000001
 else (Int.fmod (Int.fdiv c 3) 1000003 - 500001) ^ 11
theorem fm (c : Int) {m : Int} (h : 0 < m) : 0 ≤ Int.fmod c m ∧ Int.fmod c m < m := ⟨Int.fmod_nonneg_of_pos c h, Int.fmod_lt_of_pos c h⟩
theorem num_in (c : Int) : -(2 ^ 210) ≤ numF c ∧ numF c ≤ 2 ^ 210 := by
 unfold numF
 split
 · have := fm (Int.fdiv c 3) (m := 13) (by decide); omega
 · split
   · have := fm (Int.fdiv c 3) (m := 2000003) (by decide); omega
   · have h := fm (Int.fdiv c 3) (m := 1000003) (by decide)
     have p := pow_le 11 500001 (show (Int.fmod (Int.fdiv c 3) 1000003 - 500001).natAbs ≤ 500001 by omega)
     generalize (Int.fmod (Int.fdiv c 3) 1000003 - 500001) ^ 11 = z at p ⊢
     have e : (500001 : Nat) ^ 11 ≤ 2 ^ 210 := by decide
     omega
structure GI (o p a b : Int) : Prop where
 is : gF a b = gF o p
theorem start {a b : Int} (ha : 0 ≤ a) (hb : 0 ≤ b) : 0 ≤ a ∧ 0 ≤ b ∧ GI a b a b := ⟨ha, hb, ⟨rfl⟩⟩
theorem turn {o p a b : Int} (h : GI o p a b) (ha : 0 ≤ a) (hb : 0 < b) : 0 ≤ b ∧ 0 ≤ Int.fmod a b ∧ GI o p b (Int.fmod a b) := by
 refine ⟨by omega, (fm_lt hb).1, ⟨?_⟩⟩
 rw [← h.is]
 unfold gF
 rw [g_turn ha hb]
theorem g_told (t b : Int) : 0 ≤ gF t b ∧ (b = 0 ∨ (0 < gF t b ∧ gF t b ≤ (b.natAbs : Int))) := by
 refine ⟨by unfold gF; omega, ?_⟩
 by_cases c : b = 0
 · exact .inl c
 · have g0 : 0 < Int.gcd t b := Int.gcd_pos_of_ne_zero_right t c
   have d := Nat.le_of_dvd (show 0 < b.natAbs by omega) (Int.gcd_dvd_natAbs_right t b)
   exact .inr ⟨by unfold gF; omega, by unfold gF; omega⟩
theorem fdiv_le (a b : Int) : (Int.fdiv a b).natAbs ≤ a.natAbs := by
 rcases a with (_ | k) | k <;> rcases b with (_ | j) | j
 all_goals first
   | exact Nat.zero_le _
   | exact Nat.div_le_self _ _
   | exact Nat.succ_le_succ (Nat.div_le_self _ _)
   | (show (Int.fdiv 0 _).natAbs ≤ 0; rw [Int.zero_fdiv]; exact Nat.le_refl _)
theorem low {t b d : Int} (hb : b ≠ 0) (hd : d = (if b < 0 then -(gF t b) else gF t b)) :
   1 ≤ Int.fdiv b d ∧ Int.fdiv b d ≤ (b.natAbs : Int) ∧ -(t.natAbs : Int) ≤ Int.fdiv t d ∧ Int.fdiv t d ≤ (t.natAbs : Int) ∧
   gF (Int.fdiv t d) (Int.fdiv b d) = 1 ∧ Int.fdiv t d * b = t * Int.fdiv b d := by
 have h := frac (t := t) (b := b) (g := d) hb hd
 have f1 := fdiv_le b d
 have f2 := fdiv_le t d
 exact ⟨h.2.1, by omega, by omega, by omega, h.2.2.1, h.2.2.2.1⟩
end N11
namespace N11
theorem g_turnE {a b : Int} (ha : 0 ≤ a) (hb : 0 < b) : gF b (a % b) = gF a b := by
 have h := g_turn ha hb
 rw [Int.fmod_eq_emod_of_nonneg a (Int.le_of_lt hb)] at h
 unfold gF
 rw [h]
theorem g_start (a b : Int) : gF ((a.natAbs : Nat) : Int) ((b.natAbs : Nat) : Int) = gF a b := by
 unfold gF
 rw [g_abs]
theorem g_end {a b x : Int} (h : gF x 0 = gF a b) (hx : 0 ≤ x) : x = gF a b := by
 rw [← h]
 unfold gF
 rw [g_out hx]
def dF (t b : Int) : Int := if b < 0 then -(gF t b) else gF t b
theorem dF_in {t b : Int} (hb : b ≠ 0) : dF t b ≠ 0 ∧ (dF t b).natAbs ≤ b.natAbs := by
 have h := g_told t b
 unfold dF
 split <;> omega
theorem lowD {t b : Int} (hb : b ≠ 0) : 1 ≤ Int.fdiv b (dF t b) ∧ Int.fdiv b (dF t b) ≤ (b.natAbs : Int) ∧ (Int.fdiv t (dF t b)).natAbs ≤ t.natAbs ∧ gF (Int.fdiv t (dF t b)) (Int.fdiv b (dF t b)) = 1 ∧ Int.fdiv t (dF t b) * b = t * Int.fdiv b (dF t b) := by
 have h := low (t := t) (b := b) (d := dF t b) hb rfl
 exact ⟨h.1, h.2.1, by omega, h.2.2.2.2.1, h.2.2.2.2.2⟩
end N11
namespace N13
theorem quot (x y : Int) : x = y * Int.fdiv x y + Int.fmod x y := by
 rw [Int.fmod_def]
 omega
def sizeF (t b : Int) : Int := Int.fdiv (2 * (t.natAbs : Int) + b) (2 * b)
def nearF (t b : Int) : Int := if t < 0 then -(sizeF t b) else sizeF t b
theorem size_facts (t b : Int) (hb : 1 ≤ b) : 0 ≤ sizeF t b ∧ -b < 2 * (sizeF t b * b) - 2 * (t.natAbs : Int) ∧ 2 * (sizeF t b * b) - 2 * (t.natAbs : Int) ≤ b := by
 have q := quot (2 * (t.natAbs : Int) + b) (2 * b)
 have r0 := Int.fmod_nonneg_of_pos (2 * (t.natAbs : Int) + b) (show 0 < 2 * b by omega)
 have r1 := Int.fmod_lt_of_pos (2 * (t.natAbs : Int) + b) (show 0 < 2 * b by omega)
 have e : 2 * b * sizeF t b = 2 * (sizeF t b * b) := by
   rw [Int.mul_assoc, Int.mul_comm b]
 have n0 : 0 ≤ sizeF t b := by
   unfold sizeF
   rw [Int.fdiv_eq_ediv_of_nonneg _ (by omega)]
   exact Int.ediv_nonneg (by omega) (by omega)
 have q' : 2 * (t.natAbs : Int) + b = 2 * b * sizeF t b + Int.fmod (2 * (t.natAbs : Int) + b) (2 * b) := q
 rw [e] at q'
 exact ⟨n0, by omega, by omega⟩
theorem size_le (t b : Int) (hb : 1 ≤ b) : sizeF t b ≤ (t.natAbs : Int) + 1 := by
 obtain ⟨n0, lo, hi⟩ := size_facts t b hb
 have := Int.mul_le_mul_of_nonneg_left hb n0
 rw [Int.mul_one] at this
 by_cases c : sizeF t b ≤ (t.natAbs : Int) + 1
 · exact c
 · exfalso
   have h1 : (t.natAbs : Int) + 2 ≤ sizeF t b := by omega
   have h2 := Int.mul_le_mul_of_nonneg_right h1 (show (0 : Int) ≤ b by omega)
   rw [Int.add_mul] at h2
   have h3 := Int.mul_le_mul_of_nonneg_left hb (show (0 : Int) ≤ (t.natAbs : Int) by omega)
   rw [Int.mul_one] at h3
   omega
theorem size_neg (t b : Int) : sizeF (-t) b = sizeF t b := by
 unfold sizeF
 rw [Int.natAbs_neg]
theorem size_zero (b : Int) (hb : 1 ≤ b) : sizeF 0 b = 0 := by
 obtain ⟨n0, lo, hi⟩ := size_facts 0 b hb
 by_cases c : sizeF 0 b = 0
 · exact c
 · have := Int.mul_le_mul_of_nonneg_right (show (1 : Int) ≤ sizeF 0 b by omega) (show (0 : Int) ≤ b by omega)
   simp at hi
   omega
theorem near_facts (t b : Int) (hb : 1 ≤ b) :
   (nearF t b).natAbs = sizeF t b ∧ 0 ≤ sizeF t b ∧ sizeF t b ≤ (t.natAbs : Int) + 1 ∧
   (nearF t b * b = if t < 0 then -(sizeF t b * b) else sizeF t b * b) ∧
   ((((nearF t b).natAbs : Nat) : Int) * b = sizeF t b * b) ∧
   -b < 2 * (sizeF t b * b) - 2 * (t.natAbs : Int) ∧ 2 * (sizeF t b * b) - 2 * (t.natAbs : Int) ≤ b ∧
   nearF (0 - t) b = 0 - nearF t b := by
 obtain ⟨n0, lo, hi⟩ := size_facts t b hb
 have l := size_le t b hb
 have e : (nearF t b).natAbs = sizeF t b := by
   unfold nearF
   split <;> omega
 refine ⟨e, n0, l, ?_, by rw [e], lo, hi, ?_⟩
 · unfold nearF
   split
   · rw [Int.neg_mul]
   · rfl
 · unfold nearF
   rw [Int.zero_sub, size_neg]
   by_cases z : t = 0
   · subst z
     simp [size_zero b hb]
   · split <;> split <;> omega
theorem near_one (t : Int) : nearF t 1 = t := by
 obtain ⟨e, n0, l, m, m', lo, hi, _⟩ := near_facts t 1 (by omega)
 rw [Int.mul_one, Int.mul_one] at m
 rw [Int.mul_one] at lo hi
 split at m <;> omega
end N13
namespace N13
def nearZ (t b : Int) : Int := if t < 0 then -(Int.fdiv (2 * ((t.natAbs : Nat) : Int) + b) (2 * b)) else Int.fdiv (2 * ((t.natAbs : Nat) : Int) + b) (2 * b)
theorem nearZ_eq (t b : Int) : nearZ t b = nearF t b := rfl
end N13
namespace N13
theorem nearOne (t : Int) : nearZ t 1 = t := near_one t
end N13
namespace N18
variable {α : Type}
def sm (j : Nat) : List (α × Nat × Int) → Int
 | [] => 0
 | z :: r => (if z.2.1 = j then z.2.2 else 0) + sm j r
def ct (j : Nat) : List (α × Nat × Int) → Int
 | [] => 0
 | z :: r => (if z.2.1 = j then 1 else 0) + ct j r
def wz (X Y : Nat → Int) (j : Nat) (a : Int) : Int := N13.nearZ (a * X j) (Y j)
def sw (X Y : Nat → Int) (j : Nat) : List (α × Nat × Int) → Int
 | [] => 0
 | z :: r => (if z.2.1 = j then wz X Y j z.2.2 else 0) + sw X Y j r
theorem near2 {t y : Int} (hy : 1 ≤ y) : -y ≤ 2 * (N13.nearZ t y * y) - 2 * t ∧ 2 * (N13.nearZ t y * y) - 2 * t ≤ y := by
 have h := N13.near_facts t y hy
 obtain ⟨h1, h2, h3, h4, h5, h6, h7, h8⟩ := h
 rw [N13.nearZ_eq, h4]
 split <;> omega
theorem off (X Y : Nat → Int) (j : Nat) (hy : 1 ≤ Y j) : ∀ L : List (α × Nat × Int), -(ct j L * Y j) ≤ 2 * (sw X Y j L * Y j) - 2 * (sm j L * X j) ∧ 2 * (sw X Y j L * Y j) - 2 * (sm j L * X j) ≤ ct j L * Y j
 | [] => by simp [ct, sw, sm]
 | z :: r => by
   have h := off X Y j hy r
   have n := near2 (t := z.2.2 * X j) hy
   show -(((if z.2.1 = j then 1 else 0) + ct j r) * Y j) ≤ 2 * (((if z.2.1 = j then wz X Y j z.2.2 else 0) + sw X Y j r) * Y j) - 2 * (((if z.2.1 = j then z.2.2 else 0) + sm j r) * X j) ∧ 2 * (((if z.2.1 = j then wz X Y j z.2.2 else 0) + sw X Y j r) * Y j) - 2 * (((if z.2.1 = j then z.2.2 else 0) + sm j r) * X j) ≤ ((if z.2.1 = j then 1 else 0) + ct j r) * Y j
   split
   · rw [Int.add_mul, Int.add_mul, Int.add_mul, Int.one_mul]
     have e : wz X Y j z.2.2 = N13.nearZ (z.2.2 * X j) (Y j) := rfl
     rw [e]
     omega
   · rw [Int.zero_add, Int.zero_add, Int.zero_add]
     exact h
theorem ct_nn (j : Nat) : ∀ L : List (α × Nat × Int), 0 ≤ ct j L
 | [] => Int.le_refl _
 | z :: r => by
   have := ct_nn j r
   show 0 ≤ (if z.2.1 = j then 1 else 0) + ct j r
   split <;> omega
theorem half (X Y : Nat → Int) (j : Nat) (hy : 1 ≤ Y j) (L : List (α × Nat × Int)) (h0 : sm j L = 0) : 2 * (((sw X Y j L).natAbs : Nat) : Int) ≤ ct j L := by
 have h := off X Y j hy L
 rw [h0, Int.zero_mul] at h
 have hc := ct_nn j L
 by_cases c : 2 * (((sw X Y j L).natAbs : Nat) : Int) ≤ ct j L
 · exact c
 exfalso
 by_cases s : 0 ≤ sw X Y j L
 · have h1 := Int.mul_le_mul_of_nonneg_right (show ct j L + 1 ≤ 2 * sw X Y j L by omega) (show (0 : Int) ≤ Y j by omega)
   rw [Int.add_mul, Int.one_mul, Int.mul_assoc] at h1
   omega
 · have h1 := Int.mul_le_mul_of_nonneg_right (show ct j L + 1 ≤ 2 * (-sw X Y j L) by omega) (show (0 : Int) ≤ Y j by omega)
   rw [Int.add_mul, Int.one_mul, Int.mul_assoc, Int.neg_mul] at h1
   omega
end N18
namespace N21
variable {κ : Type} [DecidableEq κ]
def tot (c : κ) : List (κ × Int) → Int
 | [] => 0
 | p :: r => (if p.1 = c then p.2 else 0) + tot c r
def add (acc : List κ) (c : κ) : List κ := if c ∈ acc then acc else acc ++ [c]
def firsts (cs : List κ) : List κ := cs.foldl add []
theorem firsts_snoc (cs : List κ) (c : κ) : firsts (cs ++ [c]) = add (firsts cs) c := by
 unfold firsts
 rw [List.foldl_append]
 rfl
theorem mem_foldl (c : κ) : ∀ (cs acc : List κ), c ∈ cs.foldl add acc ↔ c ∈ acc ∨ c ∈ cs
 | [], acc => by simp
 | d :: cs, acc => by
   rw [List.foldl_cons, mem_foldl c cs (add acc d), List.mem_cons]
   unfold add
   split
   · rename_i h
     constructor
     · rintro (h1 | h1)
       · exact .inl h1
       · exact .inr (.inr h1)
     · rintro (h1 | rfl | h1)
       · exact .inl h1
       · exact .inl h
       · exact .inr h1
   · rw [List.mem_append, List.mem_singleton]
     constructor
     · rintro ((h1 | h1) | h1)
       · exact .inl h1
       · exact .inr (.inl h1)
       · exact .inr (.inr h1)
     · rintro (h1 | h1 | h1)
       · exact .inl (.inl h1)
       · exact .inl (.inr h1)
       · exact .inr h1
theorem mem_firsts {c : κ} {cs : List κ} : c ∈ firsts cs ↔ c ∈ cs := by
 unfold firsts
 rw [mem_foldl]
 simp
theorem len_add (acc : List κ) (c : κ) : (add acc c).length ≤ acc.length + 1 := by
 unfold add
 split
 · omega
 · rw [List.length_append]; exact Nat.le_refl _
theorem len_foldl : ∀ (cs acc : List κ), (cs.foldl add acc).length ≤ acc.length + cs.length
 | [], acc => by simp
 | d :: cs, acc => by
   have h1 := len_foldl cs (add acc d)
   have h2 := len_add acc d
   rw [List.foldl_cons, List.length_cons]
   omega
theorem len_firsts (cs : List κ) : (firsts cs).length ≤ cs.length := by
 have := len_foldl cs ([] : List κ)
 unfold firsts
 simpa using this
theorem tot_snoc (c : κ) (p : κ × Int) : ∀ P : List (κ × Int), tot c (P ++ [p]) = tot c P + (if p.1 = c then p.2 else 0)
 | [] => by show _ + 0 = 0 + _; omega
 | q :: r => by
   show _ + tot c (r ++ [p]) = _ + tot c r + _
   rw [tot_snoc c p r]
   omega
theorem tot_not {c : κ} : ∀ {P : List (κ × Int)}, c ∉ P.map (·.1) → tot c P = 0
 | [], _ => rfl
 | q :: r, h => by
   have h1 : ¬ q.1 = c := fun e => h (by rw [← e]; exact List.mem_cons_self)
   have h2 := tot_not (P := r) fun m => h (List.mem_cons_of_mem _ m)
   show (if q.1 = c then q.2 else 0) + tot c r = 0
   rw [if_neg h1, h2]
   rfl
theorem tot_filter (c : κ) : ∀ P : List (κ × Int), ((P.filter fun p => decide (p.1 = c)).map (·.2)).sum = tot c P
 | [] => rfl
 | q :: r => by
   have ih := tot_filter c r
   by_cases h : q.1 = c
   · rw [List.filter_cons_of_pos (by simpa using h), List.map_cons, List.sum_cons, ih]
     show _ = (if q.1 = c then q.2 else 0) + tot c r
     rw [if_pos h]
   · rw [List.filter_cons_of_neg (by simpa using h), ih]
     show _ = (if q.1 = c then q.2 else 0) + tot c r
     rw [if_neg h, Int.zero_add]
theorem nodup_add {acc : List κ} (h : acc.Nodup) (c : κ) : (add acc c).Nodup := by
 unfold add
 split
 · exact h
 · rename_i n
   exact List.nodup_append.mpr ⟨h, by simp, fun a ha b hb => by rw [List.mem_singleton.mp hb]; exact fun e => n (e ▸ ha)⟩
theorem nodup_foldl : ∀ (cs acc : List κ), acc.Nodup → (cs.foldl add acc).Nodup
 | [], _, h => h
 | d :: cs, acc, h => nodup_foldl cs (add acc d) (nodup_add h d)
theorem nodup_firsts (cs : List κ) : (firsts cs).Nodup := nodup_foldl cs [] List.nodup_nil
theorem foldl_pre : ∀ (cs acc : List κ), ∃ T, cs.foldl add acc = acc ++ T
 | [], acc => ⟨[], by simp⟩
 | d :: cs, acc => by
   obtain ⟨T, h⟩ := foldl_pre cs (add acc d)
   rw [List.foldl_cons, h]
   unfold add
   split
   · exact ⟨T, rfl⟩
   · exact ⟨d :: T, by simp⟩
theorem firsts_cons (c : κ) (cs : List κ) : ∃ T, firsts (c :: cs) = c :: T := by
 obtain ⟨T, h⟩ := foldl_pre cs [c]
 exact ⟨T, h⟩
def rs (P : List (κ × Int)) : List (κ × Int) := (firsts (P.map (·.1))).map fun c => (c, tot c P)
end N21
namespace N22
set_option linter.unusedSectionVars false
variable {κ : Type} [DecidableEq κ]
abbrev Rv (κ : Type) := κ × κ × κ × Int
def sumIf (p : Rv κ → Bool) : List (Rv κ) → Int
 | [] => 0
 | z :: r => (if p z = true then z.2.2.2 else 0) + sumIf p r
theorem sumIf_app (p : Rv κ → Bool) : ∀ A B : List (Rv κ), sumIf p (A ++ B) = sumIf p A + sumIf p B
 | [], B => (Int.zero_add _).symm
 | z :: r, B => by
   show _ + sumIf p (r ++ B) = _ + sumIf p r + _
   rw [sumIf_app p r B]
   omega
theorem sumIf_filter (p : Rv κ → Bool) : ∀ L : List (Rv κ), ((L.filter p).map (·.2.2.2)).sum = sumIf p L
 | [] => rfl
 | z :: r => by
   have ih := sumIf_filter p r
   by_cases h : p z = true
   · rw [List.filter_cons_of_pos h, List.map_cons, List.sum_cons, ih]
     show _ = (if p z = true then z.2.2.2 else 0) + sumIf p r
     rw [if_pos h]
   · rw [List.filter_cons_of_neg h, ih]
     show _ = (if p z = true then z.2.2.2 else 0) + sumIf p r
     rw [if_neg h, Int.zero_add]
theorem sumIf_none {p : Rv κ → Bool} : ∀ {L : List (Rv κ)}, (∀ z ∈ L, p z = false) → sumIf p L = 0
 | [], _ => rfl
 | z :: r, h => by
   show (if p z = true then z.2.2.2 else 0) + sumIf p r = 0
   rw [h z List.mem_cons_self, sumIf_none fun y hy => h y (List.mem_cons_of_mem _ hy)]
   rfl
def sm (g : κ → Int) : List κ → Int
 | [] => 0
 | c :: r => g c + sm g r
theorem sm_zero {g : κ → Int} : ∀ {l : List κ}, (∀ c ∈ l, g c = 0) → sm g l = 0
 | [], _ => rfl
 | c :: r, h => by
   show g c + sm g r = 0
   rw [h c List.mem_cons_self, sm_zero fun y hy => h y (List.mem_cons_of_mem _ hy)]
   rfl
theorem sm_add (g h : κ → Int) : ∀ l : List κ, sm (fun c => g c + h c) l = sm g l + sm h l
 | [] => rfl
 | c :: r => by
   show g c + h c + sm (fun c => g c + h c) r = g c + sm g r + (h c + sm h r)
   rw [sm_add g h r]
   omega
theorem sm_congr {g h : κ → Int} : ∀ {l : List κ}, (∀ c ∈ l, g c = h c) → sm g l = sm h l
 | [], _ => rfl
 | c :: r, e => by
   show g c + sm g r = h c + sm h r
   rw [e c List.mem_cons_self, sm_congr fun y hy => e y (List.mem_cons_of_mem _ hy)]
theorem sm_one (g : κ → Int) (c : κ) : ∀ {l : List κ}, l.Nodup → sm (fun d => if d = c then g d else 0) l = if c ∈ l then g c else 0
 | [], _ => by simp [sm]
 | d :: r, h => by
   obtain ⟨h1, h2⟩ := List.nodup_cons.mp h
   show (if d = c then g d else 0) + sm (fun d => if d = c then g d else 0) r = _
   rw [sm_one g c h2]
   by_cases e : d = c
   · subst e
     simp [h1]
   · simp [e, Ne.symm e]
def oneDue (b : κ → κ) (s : κ) (t : κ → κ → Int) (f c : κ) : List (Rv κ) := if t f c ≠ 0 then [(f, b s, c, -t f c), (s, b f, c, t f c)] else []
def rowDue (b : κ → κ) (s : κ) (t : κ → κ → Int) (C : List κ) (f : κ) : List (Rv κ) := C.flatMap (oneDue b s t f)
def dues (b : κ → κ) (s : κ) (t : κ → κ → Int) (T C : List κ) : List (Rv κ) := T.flatMap (rowDue b s t C)
theorem sum_one (p : Rv κ → Bool) (b : κ → κ) (s : κ) (t : κ → κ → Int) (f c : κ) : sumIf p (oneDue b s t f c) = (if p (f, b s, c, -t f c) = true then -t f c else 0) + (if p (s, b f, c, t f c) = true then t f c else 0) := by
 unfold oneDue
 by_cases h : t f c = 0
 · rw [if_neg (by simpa using h), h]
   simp [sumIf]
 · rw [if_pos h]
   show (if p (f, b s, c, -t f c) = true then -t f c else 0) + ((if p (s, b f, c, t f c) = true then t f c else 0) + 0) = _
   rw [Int.add_zero]
theorem sum_flat (p : Rv κ → Bool) (g : κ → List (Rv κ)) : ∀ l : List κ, sumIf p (l.flatMap g) = sm (fun f => sumIf p (g f)) l
 | [] => rfl
 | f :: r => by
   rw [List.flatMap_cons, sumIf_app, sum_flat p g r]
   rfl
theorem sum_dues (p : Rv κ → Bool) (b : κ → κ) (s : κ) (t : κ → κ → Int) (T C : List κ) : sumIf p (dues b s t T C) = sm (fun f => sm (fun c => (if p (f, b s, c, -t f c) = true then -t f c else 0) + (if p (s, b f, c, t f c) = true then t f c else 0)) C) T := by
 unfold dues
 rw [sum_flat]
 refine sm_congr fun f _ => ?_
 unfold rowDue
 rw [sum_flat]
 exact sm_congr fun c _ => sum_one p b s t f c
def pFC (f c : κ) : Rv κ → Bool := fun z => decide (z.1 = f) && decide (z.2.2.1 = c)
theorem dues_fc (b : κ → κ) (s : κ) (t : κ → κ → Int) {T C : List κ} (nT : T.Nodup) (nC : C.Nodup) (f c : κ) :
   sumIf (pFC f c) (dues b s t T C) = (if f ∈ T then (if c ∈ C then -t f c else 0) else 0) + (if s = f then (if c ∈ C then sm (fun g => t g c) T else 0) else 0) := by
 rw [sum_dues]
 have e : ∀ g, sm (fun d => (if pFC f c (g, b s, d, -t g d) = true then -t g d else 0) + (if pFC f c (s, b g, d, t g d) = true then t g d else 0)) C = (if g = f then (if c ∈ C then -t g c else 0) else 0) + (if s = f then (if c ∈ C then t g c else 0) else 0) := by
   intro g
   rw [sm_add]
   congr 1
   · by_cases h : g = f
     · rw [if_pos h, ← sm_one (fun d => -t g d) c nC]
       refine sm_congr fun d _ => ?_
       by_cases hd : d = c <;> simp [pFC, h, hd]
     · rw [if_neg h]
       refine sm_zero fun d _ => ?_
       simp [pFC, h]
   · by_cases h : s = f
     · rw [if_pos h, ← sm_one (fun d => t g d) c nC]
       refine sm_congr fun d _ => ?_
       by_cases hd : d = c <;> simp [pFC, h, hd]
     · rw [if_neg h]
       refine sm_zero fun d _ => ?_
       simp [pFC, h]
 rw [sm_congr fun g _ => e g, sm_add, sm_one (fun g => if c ∈ C then -t g c else 0) f nT]
 congr 1
 by_cases h : s = f
 · simp only [h, if_true]
   by_cases hc : c ∈ C
   · simp [hc]
   · simp only [hc, if_false]
     exact sm_zero fun _ _ => rfl
 · simp only [h, if_false]
   exact sm_zero fun _ _ => rfl
theorem part (c : κ) : ∀ {V : List (Rv κ)} {F : List κ}, F.Nodup → (∀ z ∈ V, z.1 ∈ F) → sm (fun f => sumIf (pFC f c) V) F = sumIf (fun z => decide (z.2.2.1 = c)) V
 | [], F, _, _ => sm_zero fun _ _ => rfl
 | z :: V, F, nF, h => by
   have ih := part c (V := V) nF fun y hy => h y (List.mem_cons_of_mem _ hy)
   have e : sm (fun f => sumIf (pFC f c) (z :: V)) F = sm (fun f => if f = z.1 then (if z.2.2.1 = c then z.2.2.2 else 0) else 0) F + sm (fun f => sumIf (pFC f c) V) F := by
     rw [← sm_add]
     refine sm_congr fun f _ => ?_
     show (if pFC f c z = true then z.2.2.2 else 0) + sumIf (pFC f c) V = _
     congr 1
     by_cases h1 : f = z.1
     · subst h1
       by_cases h2 : z.2.2.1 = c <;> simp [pFC, h2]
     · simp [pFC, h1, Ne.symm h1]
   rw [e, ih, sm_one (fun _ => if z.2.2.1 = c then z.2.2.2 else 0) z.1 nF, if_pos (h z List.mem_cons_self)]
   show _ = (if decide (z.2.2.1 = c) = true then z.2.2.2 else 0) + _
   by_cases h2 : z.2.2.1 = c <;> simp [h2]
theorem half_zero (b : κ → κ) {V : List (Rv κ)} {s : κ} {T C : List κ} (nF : (s :: T).Nodup) (nC : C.Nodup) (hF : ∀ z ∈ V, z.1 ∈ s :: T) (hC : ∀ z ∈ V, z.2.2.1 ∈ C) (h0 : ∀ c ∈ C, sumIf (fun z => decide (z.2.2.1 = c)) V = 0) (f c : κ) :
   sumIf (pFC f c) V + sumIf (pFC f c) (dues b s (fun f c => sumIf (pFC f c) V) T C) = 0 := by
 obtain ⟨n1, nT⟩ := List.nodup_cons.mp nF
 rw [dues_fc b s _ nT nC]
 by_cases hc : c ∈ C
 · have pt := part c nF hF
   rw [h0 c hc] at pt
   have pt' : sumIf (pFC s c) V + sm (fun f => sumIf (pFC f c) V) T = 0 := pt
   by_cases hs : s = f
   · subst hs
     simp only [n1, if_false, if_true, hc]
     omega
   · by_cases hf : f ∈ T
     · simp only [hf, hs, if_true, if_false, hc]
       omega
     · have : sumIf (pFC f c) V = 0 := sumIf_none fun z hz => by
         have hz1 := hF z hz
         have : z.1 ≠ f := fun e => by
           rw [e] at hz1
           rcases List.mem_cons.mp hz1 with h | h
           · exact hs h.symm
           · exact hf h
         simp [pFC, this]
       rw [this]
       simp [hf, hs]
 · have : sumIf (pFC f c) V = 0 := sumIf_none fun z hz => by
     have hz1 := hC z hz
     have : z.2.2.1 ≠ c := fun e => hc (e ▸ hz1)
     simp [pFC, this]
   rw [this]
   simp [hc]
end N22
namespace N25
set_option linter.unusedSectionVars false
def sg {α : Type} (g : α → Int) : List α → Int
 | [] => 0
 | z :: r => g z + sg g r
theorem sg_app {α : Type} (g : α → Int) : ∀ A B : List α, sg g (A ++ B) = sg g A + sg g B
 | [], B => (Int.zero_add _).symm
 | z :: r, B => by
   show g z + sg g (r ++ B) = g z + sg g r + sg g B
   rw [sg_app g r B]
   omega
theorem sg_map {α β : Type} (g : β → Int) (f : α → β) : ∀ A : List α, sg g (A.map f) = sg (fun z => g (f z)) A
 | [] => rfl
 | z :: r => by
   show g (f z) + sg g (r.map f) = g (f z) + sg (fun z => g (f z)) r
   rw [sg_map g f r]
theorem sg_filter {α : Type} (g : α → Int) (p : α → Bool) : ∀ A : List α, sg g (A.filter p) = sg (fun z => if p z = true then g z else 0) A
 | [] => rfl
 | z :: r => by
   show _ = (if p z = true then g z else 0) + sg (fun z => if p z = true then g z else 0) r
   by_cases h : p z = true
   · rw [List.filter_cons_of_pos h, if_pos h, ← sg_filter g p r]
     rfl
   · rw [List.filter_cons_of_neg h, if_neg h, ← sg_filter g p r, Int.zero_add]
theorem sg_sum {α : Type} (g : α → Int) : ∀ A : List α, (A.map g).sum = sg g A
 | [] => rfl
 | z :: r => by
   rw [List.map_cons, List.sum_cons, sg_sum g r]
   rfl
theorem sg_congr {α : Type} {g h : α → Int} : ∀ {A : List α}, (∀ z ∈ A, g z = h z) → sg g A = sg h A
 | [], _ => rfl
 | z :: r, e => by
   show g z + sg g r = h z + sg h r
   rw [e z List.mem_cons_self, sg_congr fun y hy => e y (List.mem_cons_of_mem _ hy)]
theorem sg_zero {α : Type} {g : α → Int} : ∀ {A : List α}, (∀ z ∈ A, g z = 0) → sg g A = 0
 | [], _ => rfl
 | z :: r, e => by
   show g z + sg g r = 0
   rw [e z List.mem_cons_self, sg_zero fun y hy => e y (List.mem_cons_of_mem _ hy)]
   rfl
theorem sg_bound {α : Type} (B : Nat) (g : α → Int) : ∀ A : List α, (∀ z ∈ A, (g z).natAbs ≤ B) → (sg g A).natAbs ≤ A.length * B
 | [], _ => Nat.zero_le _
 | z :: r, h => by
   have h1 := h z List.mem_cons_self
   have h2 := sg_bound B g r fun y hy => h y (List.mem_cons_of_mem _ hy)
   show (g z + sg g r).natAbs ≤ (r.length + 1) * B
   rw [Nat.add_mul, Nat.one_mul]
   generalize r.length * B = m at *
   omega
variable {κ : Type} [DecidableEq κ]
theorem sm_sg (g : κ → Int) : ∀ A : List κ, N22.sm g A = sg g A
 | [] => rfl
 | z :: r => by
   show g z + N22.sm g r = g z + sg g r
   rw [sm_sg g r]
theorem sumIf_sg (p : N22.Rv κ → Bool) : ∀ A : List (N22.Rv κ), N22.sumIf p A = sg (fun z => if p z = true then z.2.2.2 else 0) A
 | [] => rfl
 | z :: r => by
   show (if p z = true then z.2.2.2 else 0) + N22.sumIf p r = _
   rw [sumIf_sg p r]
   rfl
theorem tot_sg (c : κ) : ∀ P : List (κ × Int), N21.tot c P = sg (fun p => if p.1 = c then p.2 else 0) P
 | [] => rfl
 | z :: r => by
   show (if z.1 = c then z.2 else 0) + N21.tot c r = _
   rw [tot_sg c r]
   rfl
abbrev Lv (κ : Type) := κ × (κ × κ) × Int × Int
def lnv (W : κ → Int → Int) (v : N22.Rv κ) : Lv κ := (v.1, (v.2.1, v.2.2.1), v.2.2.2, W v.2.2.1 v.2.2.2)
def fw (W : κ → Int → Int) (V : List (N22.Rv κ)) : List (κ × Int) := V.map fun v => (v.1, W v.2.2.1 v.2.2.2)
def rone (ro t : κ) (p : κ × Int) : List (Lv κ) := if p.2 ≠ 0 then [(p.1, (ro, t), 0, -p.2)] else []
def rnd (ro t : κ) (P : List (κ × Int)) : List (Lv κ) := (N21.rs P).flatMap (rone ro t)
def lines (W : κ → Int → Int) (ro t : κ) (V : List (N22.Rv κ)) : List (Lv κ) := V.map (lnv W) ++ rnd ro t (fw W V)
theorem rnd_mem {ro t : κ} {P : List (κ × Int)} {z : Lv κ} (h : z ∈ rnd ro t P) : z.2.1 = (ro, t) ∧ z.2.2.1 = 0 := by
 unfold rnd at h
 obtain ⟨p, _, hp⟩ := List.mem_flatMap.mp h
 unfold rone at hp
 split at hp
 · rw [List.mem_singleton.mp hp]
   exact ⟨rfl, rfl⟩
 · cases hp
def only (a : κ) (V : List (N22.Rv κ)) : List (N22.Rv κ) := V.map fun v => (a, v.2)
end N25
namespace N24
open N25
theorem ediv_ratio {A B C D : Int} (hB : 0 < B) (hD : 0 < D) (h : A * D = C * B) : A / B = C / D := by
 have h1 : A / B = A * D / (B * D) := (Int.mul_ediv_mul_of_pos_left A B hD).symm
 have h2 : C / D = C * B / (D * B) := (Int.mul_ediv_mul_of_pos_left C D hB).symm
 rw [h1, h2, h, Int.mul_comm B D]
variable {κ : Type} [DecidableEq κ]
theorem sg_abs {α : Type} {g n : α → Int} : ∀ {A : List α}, (∀ z ∈ A, 2 * (((g z).natAbs : Nat) : Int) ≤ n z) → 2 * (((sg g A).natAbs : Nat) : Int) ≤ sg n A
 | [], _ => Int.le_refl _
 | z :: r, h => by
   have h1 := h z List.mem_cons_self
   have h2 := sg_abs fun y hy => h y (List.mem_cons_of_mem _ hy)
   show 2 * (((g z + sg g r).natAbs : Nat) : Int) ≤ n z + sg n r
   omega
theorem sg_add {α : Type} (g h : α → Int) : ∀ A : List α, sg (fun z => g z + h z) A = sg g A + sg h A
 | [] => rfl
 | z :: r => by
   show g z + h z + sg (fun z => g z + h z) r = g z + sg g r + (h z + sg h r)
   rw [sg_add g h r]
   omega
theorem by_key {α : Type} (k : α → κ) (g : α → Int) {C : List κ} (nC : C.Nodup) : ∀ V : List α, (∀ v ∈ V, k v ∈ C) → sg (fun c => sg (fun v => if k v = c then g v else 0) V) C = sg g V
 | [], _ => sg_zero fun _ _ => rfl
 | v :: V, h => by
   have ih := by_key k g nC V fun y hy => h y (List.mem_cons_of_mem _ hy)
   have e : sg (fun c => sg (fun v => if k v = c then g v else 0) (v :: V)) C = sg (fun c => if c = k v then g v else 0) C + sg (fun c => sg (fun v => if k v = c then g v else 0) V) C := by
     rw [← sg_add]
     refine sg_congr fun c _ => ?_
     show (if k v = c then g v else 0) + _ = _
     congr 1
     by_cases e : c = k v
     · rw [if_pos e, if_pos e.symm]
     · rw [if_neg e, if_neg (Ne.symm e)]
   rw [e, ih, ← sm_sg, N22.sm_one (fun _ => g v) (k v) nC, if_pos (h v List.mem_cons_self)]
   rfl
theorem off {α : Type} (a W : α → Int) (X Y : Int) (hy : 1 ≤ Y) : ∀ V : List α, (∀ v ∈ V, -Y ≤ 2 * (W v * Y) - 2 * (a v * X) ∧ 2 * (W v * Y) - 2 * (a v * X) ≤ Y) → -((V.length : Int) * Y) ≤ 2 * (sg W V * Y) - 2 * (sg a V * X) ∧ 2 * (sg W V * Y) - 2 * (sg a V * X) ≤ (V.length : Int) * Y
 | [], _ => by simp [sg]
 | v :: V, h => by
   have h1 := h v List.mem_cons_self
   have h2 := off a W X Y hy V fun y hy => h y (List.mem_cons_of_mem _ hy)
   show -(((V.length + 1 : Nat) : Int) * Y) ≤ 2 * ((W v + sg W V) * Y) - 2 * ((a v + sg a V) * X) ∧ 2 * ((W v + sg W V) * Y) - 2 * ((a v + sg a V) * X) ≤ ((V.length + 1 : Nat) : Int) * Y
   rw [Int.natCast_add, Int.add_mul, Int.add_mul, Int.add_mul]
   show -((V.length : Int) * Y + 1 * Y) ≤ _ ∧ _ ≤ (V.length : Int) * Y + 1 * Y
   rw [Int.one_mul]
   omega
theorem half {S n Y : Int} (hY : 1 ≤ Y) (hn : 0 ≤ n) (h1 : -(n * Y) ≤ 2 * (S * Y)) (h2 : 2 * (S * Y) ≤ n * Y) : 2 * ((S.natAbs : Nat) : Int) ≤ n := by
 by_cases c : 2 * ((S.natAbs : Nat) : Int) ≤ n
 · exact c
 exfalso
 by_cases s : 0 ≤ S
 · have h := Int.mul_le_mul_of_nonneg_right (show n + 1 ≤ 2 * S by omega) (show (0 : Int) ≤ Y by omega)
   rw [Int.add_mul, Int.one_mul, Int.mul_assoc] at h
   omega
 · have h := Int.mul_le_mul_of_nonneg_right (show n + 1 ≤ 2 * (-S) by omega) (show (0 : Int) ≤ Y by omega)
   rw [Int.add_mul, Int.one_mul, Int.mul_assoc, Int.neg_mul] at h
   omega
theorem sg_len {α : Type} : ∀ V : List α, sg (fun _ => (1 : Int)) V = (V.length : Int)
 | [] => rfl
 | v :: V => by
   show 1 + sg (fun _ => (1 : Int)) V = ((V.length + 1 : Nat) : Int)
   rw [sg_len V]
   omega
theorem few (W : κ → Int → Int) (X Y : κ → Int) (t : κ) (hY : ∀ c, 1 ≤ Y c) (hW : ∀ c a, -Y c ≤ 2 * (W c a * Y c) - 2 * (a * X c) ∧ 2 * (W c a * Y c) - 2 * (a * X c) ≤ Y c) (ht : ∀ a, W t a = a)
   (V : List (N22.Rv κ)) (h0 : ∀ c, sg (fun v => if v.2.2.1 = c then v.2.2.2 else 0) V = 0) : 2 * (((sg (fun v => W v.2.2.1 v.2.2.2) V).natAbs : Nat) : Int) ≤ sg (fun v => if v.2.2.1 = t then 0 else 1) V := by
 have hm : ∀ v ∈ V, v.2.2.1 ∈ N21.firsts (V.map (·.2.2.1)) := fun v hv => N21.mem_firsts.mpr (List.mem_map.mpr ⟨v, hv, rfl⟩)
 rw [← by_key (fun v : N22.Rv κ => v.2.2.1) (fun v => W v.2.2.1 v.2.2.2) (N21.nodup_firsts (V.map (·.2.2.1))) V hm, ← by_key (fun v : N22.Rv κ => v.2.2.1) (fun v => if v.2.2.1 = t then 0 else 1) (N21.nodup_firsts (V.map (·.2.2.1))) V hm]
 refine sg_abs fun c _ => ?_
 have e1 : sg (fun v : N22.Rv κ => if v.2.2.1 = c then W v.2.2.1 v.2.2.2 else 0) V = sg (fun v => W c v.2.2.2) (V.filter fun v => decide (v.2.2.1 = c)) := by
   rw [sg_filter]
   exact sg_congr fun v _ => by by_cases h : v.2.2.1 = c <;> simp [h]
 have e2 : sg (fun v : N22.Rv κ => v.2.2.2) (V.filter fun v => decide (v.2.2.1 = c)) = 0 := by
   refine Eq.trans ?_ (h0 c)
   rw [sg_filter]
   exact sg_congr fun v _ => by by_cases h : v.2.2.1 = c <;> simp [h]
 rw [e1]
 by_cases hc : c = t
 · subst hc
   have e3 : sg (fun v : N22.Rv κ => W c v.2.2.2) (V.filter fun v => decide (v.2.2.1 = c)) = 0 := by
     refine Eq.trans ?_ e2
     exact sg_congr fun v _ => ht _
   have e4 : sg (fun v : N22.Rv κ => if v.2.2.1 = c then (if v.2.2.1 = c then (0 : Int) else 1) else 0) V = 0 := sg_zero fun v _ => by by_cases h : v.2.2.1 = c <;> simp [h]
   rw [e3, e4]
   exact Int.le_refl _
 · have e3 : sg (fun v : N22.Rv κ => if v.2.2.1 = c then (if v.2.2.1 = t then (0 : Int) else 1) else 0) V = ((V.filter fun v => decide (v.2.2.1 = c)).length : Int) := by
     rw [← sg_len, sg_filter]
     exact sg_congr fun v _ => by
       by_cases h : v.2.2.1 = c
       · simp [h, hc]
       · simp [h]
   rw [e3]
   have o := off (fun v : N22.Rv κ => v.2.2.2) (fun v => W c v.2.2.2) (X c) (Y c) (hY c) (V.filter fun v => decide (v.2.2.1 = c)) fun v _ => hW c v.2.2.2
   rw [e2, Int.zero_mul] at o
   exact half (hY c) (Int.natCast_nonneg _) (by omega) (by omega)
end N24
namespace N24
theorem size_is {t b m : Int} (hb : 1 ≤ b) (h1 : -b < 2 * (m * b) - 2 * ((t.natAbs : Nat) : Int)) (h2 : 2 * (m * b) - 2 * ((t.natAbs : Nat) : Int) ≤ b) : N13.sizeF t b = m := by
 obtain ⟨_, lo, hi⟩ := N13.size_facts t b hb
 have up : ∀ p q : Int, p + 1 ≤ q → p * b + b ≤ q * b := fun p q h => by
   have := Int.mul_le_mul_of_nonneg_right h (show (0 : Int) ≤ b by omega)
   rw [Int.add_mul, Int.one_mul] at this
   exact this
 rcases Int.lt_trichotomy (N13.sizeF t b) m with c | c | c
 · have := up _ _ (show N13.sizeF t b + 1 ≤ m by omega)
   omega
 · exact c
 · have := up _ _ (show m + 1 ≤ N13.sizeF t b by omega)
   omega
theorem abs_mul {a x : Int} (hx : 1 ≤ x) : (((a * x).natAbs : Nat) : Int) = ((a.natAbs : Nat) : Int) * x := by
 rw [Int.natAbs_mul, Int.natCast_mul]
 congr 1
 omega
theorem neg_mul {a x : Int} (hx : 1 ≤ x) : (a * x < 0) ↔ a < 0 := by
 constructor
 · intro h
   by_cases c : a < 0
   · exact c
   · exfalso
     have := Int.mul_nonneg (show 0 ≤ a by omega) (show 0 ≤ x by omega)
     omega
 · intro h
   exact Int.mul_neg_of_neg_of_pos h (by omega)
def lawW (a x y : Int) : Int :=
 let m := Int.fdiv (((a.natAbs : Nat) : Int) * x) y
 let k := if y ≤ 2 * (((a.natAbs : Nat) : Int) * x - m * y) then m + 1 else m
 if a < 0 then -k else k
theorem lawW_eq {a x y : Int} (hx : 1 ≤ x) (hy : 1 ≤ y) : lawW a x y = N13.nearZ (a * x) y := by
 have q := N13.quot (((a.natAbs : Nat) : Int) * x) y
 have r0 := Int.fmod_nonneg_of_pos (((a.natAbs : Nat) : Int) * x) (show 0 < y by omega)
 have r1 := Int.fmod_lt_of_pos (((a.natAbs : Nat) : Int) * x) (show 0 < y by omega)
 have ea := abs_mul (a := a) hx
 have s : N13.sizeF (a * x) y = if y ≤ 2 * (((a.natAbs : Nat) : Int) * x - Int.fdiv (((a.natAbs : Nat) : Int) * x) y * y) then Int.fdiv (((a.natAbs : Nat) : Int) * x) y + 1 else Int.fdiv (((a.natAbs : Nat) : Int) * x) y := by
   have e : y * Int.fdiv (((a.natAbs : Nat) : Int) * x) y = Int.fdiv (((a.natAbs : Nat) : Int) * x) y * y := Int.mul_comm ..
   rw [e] at q
   split
   · rename_i h
     refine size_is hy ?_ ?_ <;> rw [ea, Int.add_mul, Int.one_mul] <;> omega
   · rename_i h
     refine size_is hy ?_ ?_ <;> rw [ea] <;> omega
 rw [N13.nearZ_eq]
 unfold N13.nearF lawW
 rw [s]
 by_cases c : a < 0
 · rw [if_pos c, if_pos ((neg_mul hx).mpr c)]
 · rw [if_neg c, if_neg (fun z => c ((neg_mul hx).mp z))]
theorem near_ratio {a X Y x y : Int} (hx : 1 ≤ x) (hy : 1 ≤ y) (hY : 1 ≤ Y) (h : X * y = x * Y) : N13.nearZ (a * X) Y = N13.nearZ (a * x) y := by
 have hX : 1 ≤ X := by
   by_cases c : 1 ≤ X
   · exact c
   · exfalso
     have h1 := Int.mul_le_mul_of_nonneg_right (show X ≤ 0 by omega) (show (0 : Int) ≤ y by omega)
     rw [Int.zero_mul] at h1
     have h2 := Int.mul_pos (show 0 < x by omega) (show 0 < Y by omega)
     omega
 rw [N13.nearZ_eq, N13.nearZ_eq]
 unfold N13.nearF
 have s : N13.sizeF (a * X) Y = N13.sizeF (a * x) y := by
   unfold N13.sizeF
   rw [Int.fdiv_eq_ediv_of_nonneg _ (by omega), Int.fdiv_eq_ediv_of_nonneg _ (by omega), abs_mul hX, abs_mul hx]
   refine ediv_ratio (by omega) (by omega) ?_
   have e1 : ((a.natAbs : Nat) : Int) * X * y = ((a.natAbs : Nat) : Int) * x * Y := by
     rw [Int.mul_assoc, h, Int.mul_assoc]
   generalize ((a.natAbs : Nat) : Int) * X = P at *
   generalize ((a.natAbs : Nat) : Int) * x = R at *
   rw [Int.add_mul, Int.add_mul]
   have f1 : 2 * P * (2 * y) = 4 * (P * y) := by rw [Int.mul_assoc, Int.mul_left_comm P 2 y]; omega
   have f2 : 2 * R * (2 * Y) = 4 * (R * Y) := by rw [Int.mul_assoc, Int.mul_left_comm R 2 Y]; omega
   have f3 : Y * (2 * y) = y * (2 * Y) := by rw [Int.mul_left_comm Y 2 y, Int.mul_left_comm y 2 Y, Int.mul_comm Y y]
   rw [f1, f2, f3, e1]
 rw [s]
 by_cases c : a < 0
 · rw [if_pos ((neg_mul hX).mpr c), if_pos ((neg_mul hx).mpr c)]
 · rw [if_neg (fun z => c ((neg_mul hX).mp z)), if_neg (fun z => c ((neg_mul hx).mp z))]
end N24
namespace K24
open PySem L2 L3
def top (i : Nat) : Stmt := PySem.Challenge.pw_groupbooks_k24_lines.main.body.getD i (.Pass ⟨0, 0, 0, 0⟩)
abbrev s_rests_of : Stmt := top 8
abbrev s_half_rests : Stmt := top 9
abbrev s_firms_in : Stmt := top 10
abbrev s_dues_added : Stmt := top 11
abbrev s_with_dues : Stmt := top 12
abbrev s_lined_by : Stmt := top 13
abbrev s_entry_lines : Stmt := top 14
abbrev s_divisor : Stmt := top 16
abbrev s_fraction : Stmt := top 17
abbrev s_nearest : Stmt := top 19
abbrev s__law_cell_at : Stmt := top 23
abbrev s__law_whole : Stmt := top 24
abbrev s__law_mix : Stmt := top 25
abbrev s__law_names : Stmt := top 26
abbrev s__law_coins : Stmt := top 27
abbrev s__law_amount : Stmt := top 28
abbrev s__law_side : Stmt := top 29
abbrev s__law_sides : Stmt := top 30
abbrev s__law_closed : Stmt := top 31
abbrev s__law_firms : Stmt := top 32
abbrev s__law_rate : Stmt := top 33
abbrev s__law_table : Stmt := top 34
abbrev s__law_worth : Stmt := top 35
abbrev s__law_told_coin : Stmt := top 36
abbrev s__law_rates : Stmt := top 37
abbrev s__law_dues : Stmt := top 38
abbrev s__law_lines : Stmt := top 39
abbrev s__law_told : Stmt := top 40
abbrev s__law_lacking : Stmt := top 41
abbrev s__law_open : Stmt := top 42
abbrev s__law_refused : Stmt := top 43
abbrev s__law_few : Stmt := top 44
abbrev s__law_first : Stmt := top 45
abbrev s__law_lacks : Stmt := top 46
abbrev s__law_tell : Stmt := top 47
abbrev s_law : Stmt := top 48
section
variable {P : Program} {w : World} {K : PySem.W.Frag} {mg : Str → Option Value} {base : Heap} {cm : Bool}
def spLaw (K : PySem.W.Frag) : Sp := fun vs H Q _ => ∃ (a : Addr) (ns : List Int), vs = [.ref a] ∧ SqL K H a (ns.map V.int) ∧ ns.length ≤ 63 ∧ (∀ w ∈ ns, PySem.Builtin.Int.intBits w ≤ 2 ^ 20) ∧ ∀ H', Q (.bl true) H'
def spCell (K : PySem.W.Frag) : Sp := fun vs H Q _ => ∃ (a : Addr) (ns : List Int) (k : Nat), vs = [.ref a, .int k] ∧ SqL K H a (ns.map V.int) ∧ Q (.int (ns.getD k 0)) H
def spWhole : Sp := fun vs H Q _ => ∃ i : Int, vs = [.int i] ∧ Q (.bl true) H
def spG : Sp := fun vs H Q _ => ∃ a b : Int, vs = [.int a, .int b] ∧ Q (.int (N11.gF a b)) H
def spFrac (C : Addr) : Sp := fun vs H Q E => ∃ t b : Int, vs = [.int t, .int b] ∧ (b = 0 → E (.ref C) none H) ∧ (b ≠ 0 → b.natAbs ≤ 2 ^ 250 * 2 ^ 250 * 2 ^ 250 * 2 ^ 250 ∧ ∀ p, H p = none → Q (.ref p) (upd H p (.tup [.int (Int.fdiv t (N11.dF t b)), .int (Int.fdiv b (N11.dF t b))])))
theorem squ {H : Hp} {p : Addr} {o : HO} (h : H p = none) : Same H (upd H p o) := fun b o' hb => by
 rw [uqn (nqn hb h)]
 exact hb
theorem same_set {H0 H : Hp} {p : Addr} {o : HO} (e : Same H0 H) (h : H0 p = none) : Same H0 (upd H p o) := fun b o' hb => by
 rw [uqn (nqn hb h)]
 exact e _ _ hb
theorem cut_ints (ws : List Int) (lo hi : Option Int) : ∃ us : List Int, cutV (ws.map V.int) lo hi = us.map V.int ∧ us.length ≤ ws.length ∧ ∀ w ∈ us, w ∈ ws := by
 refine ⟨(ws.drop (HT.sIx ws.length 0 lo)).take (HT.sIx ws.length ws.length hi - HT.sIx ws.length 0 lo), ?_, ?_, fun w hw => List.mem_of_mem_drop (List.mem_of_mem_take hw)⟩
 · unfold cutV
   rw [List.length_map, ← List.map_drop, ← List.map_take]
 · rw [List.length_take, List.length_drop]
   omega
def spMix : Sp := fun vs H Q _ => ∃ c b : Int, vs = [.int c, .int b] ∧ b.natAbs ≤ 2 ^ 62 ∧ ∀ m : Int, 0 ≤ m → m < 2 ^ 31 → Q (.int m) H
def HeadL (x : Str) : Prop := ∃ c, x.cps.toList.head? = some c ∧ 97 ≤ c
def Let (x : Str) : Prop := HeadL x ∧ x.length ≤ 8
theorem app_cps (x y : Str) : (x ++ y).cps.toList = x.cps.toList ++ y.cps.toList := by
 show (x.cps ++ y.cps).toList = _
 simp
def due (x : Str) : Str := ".due." ++ x
theorem due_head (x : Str) : (due x).cps.toList.head? = some 46 := by
 unfold due
 rw [app_cps]
 rfl
def L26 : Str := "abcdefghijklmnopqrstuvwxyz"
theorem l26_at {i : Int} (h0 : 0 ≤ i) (h1 : i < 26) : atI L26.cps.toList i = some (97 + i.toNat) := by
 obtain ⟨n, rfl⟩ := Int.eq_ofNat_of_zero_le h0
 have hn : n < 26 := by omega
 have all : ∀ n, n < 26 → L26.cps.toList[n]? = some (97 + n) := by decide +kernel
 exact atI_nat (all n hn)
theorem l26_len : L26.length ≤ sizeLine := by decide +kernel
theorem sq8 : ∀ i : Nat, i < 8 → 0 ≤ (0 + (i : Int)) * (0 + (i : Int)) ∧ (0 + (i : Int)) * (0 + (i : Int)) ≤ 49 := by decide
theorem strs_at {ws : List Str} {i : Nat} {x : V} (h : (ws.map V.str)[i]? = some x) : ∃ w, ws[i]? = some w ∧ x = .str w := by
 rw [List.getElem?_map] at h
 cases e : ws[i]? with
 | none => rw [e] at h; cases h
 | some z => rw [e] at h; exact ⟨z, rfl, (Option.some.inj h).symm⟩
theorem str_in {ws : List Str} {i : Int} (h0 : 0 ≤ i) (h1 : i < ws.length) : ∃ w, w ∈ ws ∧ atI (ws.map V.str) i = some (.str w) := by
 obtain ⟨n, rfl⟩ := Int.eq_ofNat_of_zero_le h0
 have hn : n < ws.length := by omega
 exact ⟨ws[n], List.getElem_mem hn, atI_nat (by rw [List.getElem?_map, List.getElem?_eq_getElem hn]; rfl)⟩
theorem str_at {ws : List Str} {n : Nat} (hn : n < ws.length) : atI (ws.map V.str) ((n : Nat) : Int) = some (.str (ws.getD n "")) := atI_nat (by rw [List.getElem?_map, List.getElem?_eq_getElem hn]; simp [List.getD, hn])
theorem take3 {ws : List Str} {n : Nat} (h3 : n < 3) (hn : n < ws.length) : ws.getD n "" ∈ ws.take 3 := by
 rw [List.getD, List.getElem?_eq_getElem hn]
 exact List.mem_take_iff_getElem.mpr ⟨n, by omega, rfl⟩
theorem int_in {ws : List Int} {i : Int} (h0 : 0 ≤ i) (h1 : i < ws.length) : ∃ w ∈ ws, atI (ws.map V.int) i = some (.int w) := by
 obtain ⟨n, rfl⟩ := Int.eq_ofNat_of_zero_le h0
 have hn : n < ws.length := by omega
 exact ⟨ws[n], List.getElem_mem hn, atI_nat (by rw [List.getElem?_map, List.getElem?_eq_getElem hn]; rfl)⟩
theorem cut_drop (xs : List V) (t : Nat) : cutV xs (some (t : Int)) none = xs.drop (min t xs.length) := by
 unfold cutV
 rw [HT.sIx_nat, HT.sIx_none]
 exact List.take_of_length_le (by rw [List.length_drop]; omega)
theorem cut_take (xs : List V) (t : Nat) : cutV xs none (some (t : Int)) = xs.take (min t xs.length) := by
 unfold cutV
 rw [HT.sIx_nat, HT.sIx_none]
 simp
theorem cut_head (ws : List Str) (t : Nat) : ∃ us : List Str, cutV (ws.map V.str) none (some (t : Int)) = us.map V.str ∧ us.length = min t ws.length ∧ ∀ w ∈ us, w ∈ ws := by
 refine ⟨ws.take (min t ws.length), ?_, ?_, fun w hw => List.mem_of_mem_take hw⟩
 · rw [cut_take, List.length_map, List.map_take]
 · rw [List.length_take]
   omega
def sg (c : Nat) : Str := ⟨#[c]⟩
theorem join_cps : ∀ ls : List Nat, (Str.join "" (ls.map sg)).cps.toList = ls
 | [] => rfl
 | [x] => rfl
 | x :: y :: r => by
   show (sg x ++ "" ++ Str.join "" ((y :: r).map sg)).cps.toList = _
   rw [app_cps, app_cps, join_cps (y :: r)]
   rfl
theorem txt_cps (ls : List Nat) : (Txt.join "" (ls.map sg)).cps.toList = ls := by
 unfold Txt.join
 rw [StrLaws.glued_eq_join]
 exact join_cps ls
theorem sg_len {ls : List Nat} : ∀ z ∈ ls.map sg, z.length = 1 := fun z hz => by
 obtain ⟨c, _, rfl⟩ := List.mem_map.mp hz
 rfl
def atN (c : Int) : Nat := (c % 999983 / 24 % (1 + c % 999983 / 3 % 8)).toNat
def Dn (c : Int) (bs : List Int) (i : Nat) (x : Str) : Prop :=
 if c % 999983 % 3 = 1 then x.cps.toList.length = i + 1 else x.cps.toList[atN c]? = some (97 + ((bs.getD (atN c) 0 + (i : Int)) % 26).toNat)
theorem dn_nodup {c : Int} {bs : List Int} {xs : List Str} (hl : xs.length ≤ 8) (h : ∀ j x, xs[j]? = some x → Dn c bs j x) : xs.Nodup := by
 refine List.pairwise_iff_getElem.mpr fun i j hi hj hij e => ?_
 have a := h i xs[i] (List.getElem?_eq_getElem hi)
 have b := h j xs[j] (List.getElem?_eq_getElem hj)
 rw [← e] at b
 unfold Dn at a b
 split at a
 · rename_i z
   rw [if_pos z] at b
   omega
 · rename_i z
   rw [if_neg z] at b
   rw [a] at b
   have := Option.some.inj b
   omega
theorem cut_nd (ws : List Str) (t : Nat) (hn : ws.Nodup) : ∃ us : List Str, cutV (ws.map V.str) (some (t : Int)) none ++ cutV (ws.map V.str) none (some (t : Int)) = us.map V.str ∧ us.length = ws.length ∧ us.Nodup ∧ ∀ w, w ∈ us ↔ w ∈ ws := by
 refine ⟨ws.drop (min t ws.length) ++ ws.take (min t ws.length), ?_, ?_, ?_, fun w => ?_⟩
 · rw [cut_drop, cut_take, List.length_map, List.map_append, List.map_drop, List.map_take]
 · rw [List.length_append, List.length_drop, List.length_take]
   omega
 · have p : (ws.drop (min t ws.length) ++ ws.take (min t ws.length)).Perm ws := by
     have := List.perm_append_comm (l₁ := ws.drop (min t ws.length)) (l₂ := ws.take (min t ws.length))
     rw [List.take_append_drop] at this
     exact this
   exact p.nodup_iff.mpr hn
 · have p : (ws.drop (min t ws.length) ++ ws.take (min t ws.length)).Perm ws := by
     have := List.perm_append_comm (l₁ := ws.drop (min t ws.length)) (l₂ := ws.take (min t ws.length))
     rw [List.take_append_drop] at this
     exact this
   exact p.mem_iff
def Dn5 (c : Int) (bs : List Int) (i : Nat) (x : Str) : Prop := Dn c bs i x ∧ Let x
theorem dn_app5 {c : Int} {bs : List Int} {xs : List Str} {y : Str} (h : ∀ j x, xs[j]? = some x → Dn5 c bs j x) (hy : Dn5 c bs xs.length y) : ∀ j x, (xs ++ [y])[j]? = some x → Dn5 c bs j x := fun j x e => by
 rcases Nat.lt_trichotomy j xs.length with l | l | l
 · rw [List.getElem?_append_left l] at e
   exact h j x e
 · subst l
   rw [List.getElem?_append_right (Nat.le_refl _), Nat.sub_self] at e
   cases e
   exact hy
 · rw [List.getElem?_eq_none (by rw [List.length_append]; show xs.length + 1 ≤ j; omega)] at e
   cases e
theorem let_sg {ls : List Nat} (h1 : 1 ≤ ls.length) (h8 : ls.length ≤ 8) (h : ∀ u ∈ ls, 97 ≤ u) : Let (Txt.join "" (ls.map sg)) := by
 refine ⟨?_, ?_⟩
 · cases ls with
   | nil => simp at h1
   | cons a r => exact ⟨a, by rw [txt_cps]; rfl, h a List.mem_cons_self⟩
 · show (Txt.join "" (ls.map sg)).cps.size ≤ 8
   rw [← Array.length_toList, txt_cps]
   exact h8
theorem at_int0 {ws : List Int} {n : Nat} (hn : n < ws.length) : atI (ws.map V.int) ((n : Nat) : Int) = some (.int (ws.getD n 0)) := atI_nat (by rw [List.getElem?_map, List.getElem?_eq_getElem hn]; simp [List.getD, hn])
def spNames : Sp := fun vs H Q _ => ∃ (c : Int) (m : Nat), vs = [.int c, .int m] ∧ 1 ≤ m ∧ m ≤ 8 ∧ ∀ l (xs : List Str) H', Same H H' → H' l = some (.lst (xs.map V.str)) → xs.length = m → (∀ x ∈ xs, Let x) → xs.Nodup → Q (.ref l) H'
def spCoins : Sp := fun vs H Q _ => ∃ c : Int, vs = [.int c] ∧ ∀ l (xs : List Str) H', Same H H' → H' l = some (.lst (xs.map V.str)) → xs.length = 4 → xs.Nodup → Q (.ref l) H'
theorem bits_le {a b : Int} {n : Nat} (h : a.natAbs ≤ b.natAbs) (hb : PySem.Builtin.Int.intBits b ≤ n) : PySem.Builtin.Int.intBits a ≤ n := PyProof.Rows.bits_of_natAbs_le h hb
theorem bits_31 {m : Int} (h0 : 0 ≤ m) (h1 : m < 2 ^ 31) : PySem.Builtin.Int.intBits m ≤ 2 ^ 20 := Nat.le_trans (intBits_le_64 (by omega) (by omega)) (by decide)
theorem mul_ok7 {c : Int} (h : PySem.Builtin.Int.intBits c ≤ 2 ^ 20) : PySem.IntMulOk (c / 3) ((1000003 : Int) ^ (7 : Int).toNat) :=
 PySem.IntMulOk.of_le (m := 2 ^ 20) (n := 200) (bits_le (by omega) h) (by decide +kernel) (by decide)
theorem m38 (x : Int) : (x % (2 * (10 : Int) ^ (38 : Int).toNat + 1) - (10 : Int) ^ (38 : Int).toNat).natAbs ≤ 2 ^ 127 := by
 show (x % (2 * (10 : Int) ^ 38 + 1) - (10 : Int) ^ 38).natAbs ≤ 2 ^ 127
 omega
def spAmt : Sp := fun vs H Q _ => ∃ c : Int, vs = [.int c] ∧ PySem.Builtin.Int.intBits c ≤ 2 ^ 20 ∧ ∀ a : Int, a.natAbs ≤ 2 ^ 127 → Q (.int a) H
abbrev Sd := Addr × Str × Str × Str × Int
def tupZ (z : Sd) : HO := .tup [.str z.2.1, .str z.2.2.1, .str z.2.2.2.1, .int z.2.2.2.2]
def rfs (L : List Sd) : List V := L.map fun z => .ref z.1
theorem rfs_len (L : List Sd) : (rfs L).length = L.length := List.length_map ..
theorem rfs_app (A B : List Sd) : rfs (A ++ B) = rfs A ++ rfs B := List.map_append ..
theorem rfs_at {L : List Sd} {i : Nat} {x : V} (h : (rfs L)[i]? = some x) : ∃ z, L[i]? = some z ∧ x = .ref z.1 := by
 unfold rfs at h
 rw [List.getElem?_map] at h
 cases e : L[i]? with
 | none => rw [e] at h; cases h
 | some z => rw [e] at h; exact ⟨z, rfl, (Option.some.inj h).symm⟩
theorem rfs_pl (L : List Sd) : ∀ z ∈ rfs L, eqPl z = true := by
 intro z hz
 obtain ⟨y, _, rfl⟩ := List.mem_map.mp hz
 rfl
def Ro (cs : List Str) (B : Nat) (z : Sd) : Prop := Let z.2.1 ∧ Let z.2.2.1 ∧ z.2.2.2.1 ∈ cs.take 3 ∧ z.2.2.2.2.natAbs ≤ B
def Rows (cs : List Str) (B : Nat) (H : Hp) (L : List Sd) : Prop := ∀ z ∈ L, H z.1 = some (tupZ z) ∧ Ro cs B z
theorem Rows.same {cs : List Str} {B : Nat} {H H' : Hp} {L : List Sd} (r : Rows cs B H L) (e : Same H H') : Rows cs B H' L := fun z hz => ⟨e _ _ (r z hz).1, (r z hz).2⟩
structure Ls (H : Hp) (fl al cl : Addr) (fs as cs : List Str) : Prop where
 f : H fl = some (.lst (fs.map V.str))
 a : H al = some (.lst (as.map V.str))
 c : H cl = some (.lst (cs.map V.str))
 lf : 1 ≤ fs.length
 la : as.length = 3
 lc : 3 ≤ cs.length
 pf : ∀ x ∈ fs, Let x
 pa : ∀ x ∈ as, Let x
theorem Ls.same {H H' : Hp} {fl al cl : Addr} {fs as cs : List Str} (L : Ls H fl al cl fs as cs) (e : Same H H') : Ls H' fl al cl fs as cs := ⟨e _ _ L.f, e _ _ L.a, e _ _ L.c, L.lf, L.la, L.lc, L.pf, L.pa⟩
theorem three3 (a b c : Int) {i : Nat} (h : i < 3) : ∃ v : Int, atI [V.int a, V.int b, V.int c] (0 + (i : Int)) = some (.int v) ∧ (v = a ∨ v = b ∨ v = c) := by
 have : i = 0 ∨ i = 1 ∨ i = 2 := by omega
 rcases this with rfl | rfl | rfl
 · exact ⟨a, rfl, .inl rfl⟩
 · exact ⟨b, rfl, .inr (.inl rfl)⟩
 · exact ⟨c, rfl, .inr (.inr rfl)⟩
theorem sq29 : ∀ i : Nat, i < 29 → 0 ≤ 2 * (0 + (i : Int)) * (0 + (i : Int)) ∧ 2 * (0 + (i : Int)) * (0 + (i : Int)) ≤ 2000 := by decide
theorem tup_keep {H : Hp} {p : Addr} {xs ys : List V} {z : Addr} {o : List V} (h : H z = some (.tup o)) (hp : H p = some (.lst xs)) : upd H p (.lst ys) z = some (.tup o) := by
 rw [uqn (ne_of h hp (by intro z; cases z))]
 exact h
def spSide : Sp := fun vs H Q _ => ∃ (p am : Int) (fl al cl : Addr) (fs as cs : List Str), vs = [.int p, .int am, .ref fl, .ref al, .ref cl] ∧ Ls H fl al cl fs as cs ∧ ∀ t (f ac co : Str), H t = none → Let f → Let ac → co ∈ cs.take 3 → Q (.ref t) (upd H t (.tup [.str f, .str ac, .str co, .int am]))
def spSides (K : PySem.W.Frag) : Sp := fun vs H Q _ => ∃ (a fl al cl : Addr) (ns : List Int) (fs as cs : List Str), vs = [.ref a, .ref fl, .ref al, .ref cl] ∧ SqL K H a (ns.map V.int) ∧ ns.length ≤ 63 ∧ (∀ w ∈ ns, PySem.Builtin.Int.intBits w ≤ 2 ^ 20) ∧ Ls H fl al cl fs as cs ∧
 ∀ (p : Addr) (L : List Sd) H', Same H H' → H p = none → H' p = some (.lst (rfs L)) → Rows cs (2 ^ 127) H' L → L.length ≤ 36 → Q (.ref p) H'
def prs (L : List Sd) : List (Str × Int) := L.map fun z => (z.2.2.2.1, z.2.2.2.2)
theorem tot_app (c : Str) : ∀ A B : List (Str × Int), N21.tot c (A ++ B) = N21.tot c A + N21.tot c B
 | [], B => (Int.zero_add _).symm
 | z :: r, B => by
   show _ + N21.tot c (r ++ B) = _ + N21.tot c r + _
   rw [tot_app c r B]
   omega
theorem tot_ins (c : Str) (L : List Sd) (t : Nat) (z : Sd) : N21.tot c (prs (L.take t ++ z :: L.drop t)) = N21.tot c (prs L) + (if z.2.2.2.1 = c then z.2.2.2.2 else 0) := by
 have h : prs L = prs (L.take t) ++ prs (L.drop t) := by
   unfold prs
   rw [← List.map_append, List.take_append_drop]
 rw [h, tot_app]
 unfold prs
 rw [List.map_append, tot_app, List.map_cons]
 show _ + ((if z.2.2.2.1 = c then z.2.2.2.2 else 0) + N21.tot c ((L.drop t).map _)) = _
 omega
theorem prs_snoc {L : List Sd} {i : Nat} {z : Sd} (h : L[i]? = some z) : prs (L.take (i + 1)) = prs (L.take i) ++ [(z.2.2.2.1, z.2.2.2.2)] := by
 unfold prs
 rw [List.take_succ, h, List.map_append]
 rfl
theorem prs_len (L : List Sd) : (prs L).length = L.length := List.length_map ..
theorem tot_bound (B : Nat) (c : Str) : ∀ P : List (Str × Int), (∀ p ∈ P, p.2.natAbs ≤ B) → (N21.tot c P).natAbs ≤ P.length * B
 | [], _ => Nat.zero_le _
 | z :: r, h => by
   have h1 := h z List.mem_cons_self
   have h2 := tot_bound B c r fun y hy => h y (List.mem_cons_of_mem _ hy)
   show ((if z.1 = c then z.2 else 0) + N21.tot c r).natAbs ≤ (r.length + 1) * B
   rw [Nat.add_mul, Nat.one_mul]
   generalize r.length * B = m at *
   split <;> omega
def bnd (i : Nat) : Nat := 2 ^ 127 * 64 ^ i
theorem bnd_s (i : Nat) : bnd (i + 1) = 64 * bnd i := by
 unfold bnd
 have h : 64 ^ (i + 1) = 64 ^ i * 64 := rfl
 rw [h, ← Nat.mul_assoc]
 exact Nat.mul_comm _ _
theorem Rows.le {cs : List Str} {B C : Nat} {H : Hp} {L : List Sd} (r : Rows cs B H L) (h : B ≤ C) : Rows cs C H L := fun z hz => ⟨(r z hz).1, (r z hz).2.1, (r z hz).2.2.1, (r z hz).2.2.2.1, Nat.le_trans (r z hz).2.2.2.2 h⟩
theorem rows_tot {cs : List Str} {B : Nat} {H : Hp} {L : List Sd} (r : Rows cs B H L) (c : Str) (h : L.length ≤ 64) : (N21.tot c (prs L)).natAbs ≤ 64 * B := by
 have h1 := tot_bound B c (prs L) fun p hp => by
   obtain ⟨z, hz, rfl⟩ := List.mem_map.mp hp
   exact (r z hz).2.2.2.2
 rw [prs_len] at h1
 exact Nat.le_trans h1 (Nat.mul_le_mul_right B h)
def spClosed : Sp := fun vs H Q _ => ∃ (sl fl al cl : Addr) (c : Int) (L : List Sd) (fs as cs : List Str), vs = [.ref sl, .ref fl, .ref al, .ref cl, .int c] ∧ H sl = some (.lst (rfs L)) ∧ Rows cs (2 ^ 127) H L ∧ L.length ≤ 36 ∧ Ls H fl al cl fs as cs ∧
 ∀ (p : Addr) (L' : List Sd) H', Same H H' → H p = none → H' p = some (.lst (rfs L')) → Rows cs (2 ^ 145) H' L' → L'.length ≤ 39 → (∀ j, j < 3 → N21.tot (cs.getD j "") (prs L') = 0) → Q (.ref p) H'
def spFirms (K : PySem.W.Frag) : Sp := fun vs H Q _ => ∃ (a : Addr) (ns : List Int), vs = [.ref a] ∧ SqL K H a (ns.map V.int) ∧ ∀ l (xs : List Str) H', Same H H' → H' l = some (.lst (xs.map V.str)) → 1 ≤ xs.length → xs.length ≤ 6 → (∀ x ∈ xs, Let x) → Q (.ref l) H'
def RT (H : Hp) (L : List Sd) : Prop := ∀ z ∈ L, H z.1 = some (tupZ z)
theorem RT.same {H H' : Hp} {L : List Sd} (r : RT H L) (e : Same H H') : RT H' L := fun z hz => e _ _ (r z hz)
theorem Rows.rt {cs : List Str} {B : Nat} {H : Hp} {L : List Sd} (r : Rows cs B H L) : RT H L := fun z hz => (r z hz).1
abbrev Rw := Addr × Str × Int
def rfr (R : List Rw) : List V := R.map fun z => .ref z.1
def tupR (z : Rw) : HO := .tup [.str z.2.1, .int z.2.2]
theorem rfr_at {L : List Rw} {i : Nat} {x : V} (h : (rfr L)[i]? = some x) : ∃ z, L[i]? = some z ∧ x = .ref z.1 := by
 unfold rfr at h
 rw [List.getElem?_map] at h
 cases e : L[i]? with
 | none => rw [e] at h; cases h
 | some z => rw [e] at h; exact ⟨z, rfl, (Option.some.inj h).symm⟩
theorem val_map {α κ : Type} [DecidableEq α] [DecidableEq κ] (kf : α → κ) (inj : ∀ a b, kf a = kf b → a = b) (g : α → V) (c : α) : ∀ fs : List α, valV (fs.map fun c => (kf c, g c)) (kf c) = if c ∈ fs then some (g c) else none
 | [] => rfl
 | d :: fs => by
   rw [List.map_cons]
   by_cases h : d = c
   · subst h
     rw [valV_pos rfl, if_pos List.mem_cons_self]
   · rw [valV_neg (fun e => h (inj _ _ e)), val_map kf inj g c fs]
     simp [List.mem_cons, Ne.symm h]
theorem put_map {α κ : Type} [DecidableEq α] [DecidableEq κ] (kf : α → κ) (inj : ∀ a b, kf a = kf b → a = b) (g : α → V) (c : α) (v : V) (fs : List α) : putK (fs.map fun c => (kf c, g c)) (kf c) v = (N21.add fs c).map fun d => (kf d, if d = c then v else g d) := by
 unfold putK N21.add
 rw [valV_any, val_map kf inj]
 by_cases h : c ∈ fs
 · rw [if_pos h, if_pos h]
   simp only [Option.isSome_some, if_true, List.map_map]
   refine List.map_congr_left fun d _ => ?_
   by_cases e : d = c
   · subst e
     simp
   · have e2 : ¬ kf d = kf c := fun z => e (inj _ _ z)
     simp [e, e2]
 · rw [if_neg h, if_neg h]
   simp only [Option.isSome_none, Bool.false_eq_true, if_false, List.map_append, List.map_cons, List.map_nil, if_true]
   congr 1
   refine List.map_congr_left fun d hd => ?_
   rw [if_neg (fun e => h (by rw [← e]; exact hd))]
def kvG {α κ : Type} [DecidableEq α] (kf : α → κ) (P : List (α × Int)) : List (κ × V) := (N21.firsts (P.map (·.1))).map fun c => (kf c, V.int (N21.tot c P))
theorem kvG_len {α κ : Type} [DecidableEq α] (kf : α → κ) (P : List (α × Int)) : (kvG kf P).length ≤ P.length := by
 unfold kvG
 rw [List.length_map]
 have := N21.len_firsts (P.map (·.1))
 rw [List.length_map] at this
 exact this
theorem kvG_get {α κ : Type} [DecidableEq α] [DecidableEq κ] (kf : α → κ) (inj : ∀ a b, kf a = kf b → a = b) (P : List (α × Int)) (c : α) : (valV (kvG kf P) (kf c)).getD (.int 0) = .int (N21.tot c P) := by
 unfold kvG
 rw [val_map kf inj (fun c => V.int (N21.tot c P))]
 by_cases h : c ∈ N21.firsts (P.map (·.1))
 · rw [if_pos h]
   rfl
 · rw [if_neg h, N21.tot_not (fun m => h (N21.mem_firsts.mpr m))]
   rfl
theorem kvG_put {α κ : Type} [DecidableEq α] [DecidableEq κ] (kf : α → κ) (inj : ∀ a b, kf a = kf b → a = b) (P : List (α × Int)) (c : α) (am : Int) : putK (kvG kf P) (kf c) (.int (N21.tot c P + am)) = kvG kf (P ++ [(c, am)]) := by
 unfold kvG
 rw [put_map kf inj (fun c => V.int (N21.tot c P)), List.map_append]
 show _ = (N21.firsts (P.map (·.1) ++ [c])).map _
 rw [N21.firsts_snoc]
 refine List.map_congr_left fun d _ => ?_
 rw [N21.tot_snoc]
 by_cases e : d = c
 · subst e
   simp
 · simp [e, Ne.symm e]
def kS : Str → Key := Sum.inr
theorem kS_inj (a b : Str) (h : kS a = kS b) : a = b := Sum.inr.inj h
def kT (p : Str × Str) : List Key := [Sum.inr p.1, Sum.inr p.2]
theorem kT_inj (a b : Str × Str) (h : kT a = kT b) : a = b := by
 obtain ⟨a1, a2⟩ := a
 obtain ⟨b1, b2⟩ := b
 simp [kT] at h
 rw [h.1, h.2]
theorem kv_zip (as : List Addr) (P : List (Str × Int)) (hl : as.length = (kvG kS P).length) : rfr (as.zip (N21.rs P)) = as.map V.ref ∧ (as.zip (N21.rs P)).map (·.2) = N21.rs P := by
 have hl2 : as.length = (N21.rs P).length := by
   rw [hl]
   unfold kvG N21.rs
   rw [List.length_map, List.length_map]
 constructor
 · unfold rfr
   have h : (as.zip (N21.rs P)).map Prod.fst = as := List.map_fst_zip (by omega)
   calc (as.zip (N21.rs P)).map (fun z => V.ref z.1) = ((as.zip (N21.rs P)).map Prod.fst).map V.ref := by rw [List.map_map]; rfl
     _ = as.map V.ref := by rw [h]
 · exact List.map_snd_zip (by omega)
def spRests : Sp := fun vs H Q _ => ∃ (l : Addr) (L : List Sd), vs = [.ref l] ∧ H l = some (.lst (rfs L)) ∧ RT H L ∧ L.length ≤ 60 ∧
 ∀ (p : Addr) (R : List Rw) H', Same H H' → H p = none → H' p = some (.lst (rfr R)) → R.map (·.2) = N21.rs (prs L) → (∀ z ∈ R, H' z.1 = some (tupR z)) → Q (.ref p) H'
def p2 (L : List Sd) : List ((Str × Str) × Int) := L.map fun z => ((z.2.1, z.2.2.2.1), z.2.2.2.2)
theorem p2_snoc {L : List Sd} {i : Nat} {z : Sd} (h : L[i]? = some z) : p2 (L.take (i + 1)) = p2 (L.take i) ++ [((z.2.1, z.2.2.2.1), z.2.2.2.2)] := by
 unfold p2
 rw [List.take_succ, h, List.map_append]
 rfl
theorem p2_len (L : List Sd) : (p2 L).length = L.length := List.length_map ..
def vls (L : List Sd) : List (N22.Rv Str) := L.map (·.2)
def tf (L : List Sd) (f c : Str) : Int := N22.sumIf (N22.pFC f c) (vls L)
theorem tot_p2 (f c : Str) : ∀ L : List Sd, N21.tot (f, c) (p2 L) = tf L f c
 | [] => rfl
 | z :: r => by
   have ih := tot_p2 f c r
   show (if (z.2.1, z.2.2.2.1) = (f, c) then z.2.2.2.2 else 0) + N21.tot (f, c) (p2 r) = (if N22.pFC f c z.2 = true then z.2.2.2.2 else 0) + N22.sumIf (N22.pFC f c) (vls r)
   rw [ih]
   unfold tf
   congr 1
   by_cases h1 : z.2.1 = f <;> by_cases h2 : z.2.2.2.1 = c <;> simp [N22.pFC, h1, h2]
theorem tot_prs (c : Str) : ∀ L : List Sd, N21.tot c (prs L) = N22.sumIf (fun z => decide (z.2.2.1 = c)) (vls L)
 | [] => rfl
 | z :: r => by
   have ih := tot_prs c r
   show (if z.2.2.2.1 = c then z.2.2.2.2 else 0) + N21.tot c (prs r) = (if decide (z.2.2.2.1 = c) = true then z.2.2.2.2 else 0) + N22.sumIf _ (vls r)
   rw [ih]
   congr 1
   by_cases h : z.2.2.2.1 = c <;> simp [h]
def spHalf : Sp := fun vs H Q _ => ∃ (l : Addr) (L : List Sd), vs = [.ref l] ∧ H l = some (.lst (rfs L)) ∧ RT H L ∧ L.length ≤ 60 ∧ ∀ (d : Addr) H', Same H H' → H' d = some (.dT (kvG kT (p2 L))) → Q (.ref d) H'
def frm (L : List Sd) : List Str := N21.firsts (L.map (·.2.1))
def cns (L : List Sd) : List Str := N21.firsts ((prs L).map (·.1))
theorem put_firsts : ∀ (cs fs : List Str), putAll (fs.map fun c => ((Sum.inr c : Key), V.bl true)) (cs.map fun c => ((Sum.inr c : Key), V.bl true)) = (cs.foldl N21.add fs).map fun c => ((Sum.inr c : Key), V.bl true)
 | [], fs => rfl
 | c :: cs, fs => by
   show putAll (putK (fs.map fun c => ((Sum.inr c : Key), V.bl true)) (Sum.inr c) (.bl true)) (cs.map fun c => ((Sum.inr c : Key), V.bl true)) = _
   have h := put_map (fun c : Str => (Sum.inr c : Key)) (fun a b h => Sum.inr.inj h) (fun _ => V.bl true) c (.bl true) fs
   rw [h]
   have e : ((N21.add fs c).map fun d => ((Sum.inr d : Key), if d = c then V.bl true else V.bl true)) = (N21.add fs c).map fun d => ((Sum.inr d : Key), V.bl true) := List.map_congr_left fun d _ => by simp
   rw [e, put_firsts cs (N21.add fs c)]
   rfl
def spFirmsIn : Sp := fun vs H Q _ => ∃ (l : Addr) (L : List Sd), vs = [.ref l] ∧ H l = some (.lst (rfs L)) ∧ RT H L ∧ L.length ≤ 60 ∧ ∀ (p : Addr) H', Same H H' → H' p = some (.lst ((frm L).map V.str)) → Q (.ref p) H'
def dvs (L : List Sd) (cs : List Str) : List (N22.Rv Str) := N22.dues due ((frm L).headD "") (tf L) ((frm L).drop 1) cs
def spAdd : Sp := fun vs H Q _ => ∃ (l cl : Addr) (L : List Sd) (cs : List Str), vs = [.ref l, .ref cl] ∧ H l = some (.lst (rfs L)) ∧ RT H L ∧ L.length ≤ 60 ∧ (∀ z ∈ L, Let z.2.1) ∧ H cl = some (.lst (cs.map V.str)) ∧ cs.length ≤ 60 ∧
 ∀ (p : Addr) (D : List Sd) H', Same H H' → H p = none → H' p = some (.lst (rfs D)) → RT H' D → vls D = dvs L cs → D.length ≤ 10000 → Q (.ref p) H'
theorem dues_snoc (s : Str) (t : Str → Str → Int) (C : List Str) {T : List Str} {i : Nat} {f : Str} (h : T[i]? = some f) : N22.dues due s t (T.take (i + 1)) C = N22.dues due s t (T.take i) C ++ N22.rowDue due s t C f := by
 unfold N22.dues
 rw [List.take_succ, h, List.flatMap_append]
 simp
theorem row_snoc (s : Str) (t : Str → Str → Int) (f : Str) {C : List Str} {j : Nat} {c : Str} (h : C[j]? = some c) : (C.take (j + 1)).flatMap (N22.oneDue due s t f) = (C.take j).flatMap (N22.oneDue due s t f) ++ N22.oneDue due s t f c := by
 rw [List.take_succ, h, List.flatMap_append]
 simp
theorem frm_len (L : List Sd) : (frm L).length ≤ L.length := by
 have := N21.len_firsts (L.map (·.2.1))
 rw [List.length_map] at this
 exact this
theorem frm_mem {L : List Sd} {f : Str} (h : f ∈ frm L) : ∃ z ∈ L, z.2.1 = f := List.mem_map.mp (N21.mem_firsts.mp h)
theorem vls_app (A B : List Sd) : vls (A ++ B) = vls A ++ vls B := List.map_append ..
theorem RT.app {H : Hp} {A B : List Sd} (a : RT H A) (b : RT H B) : RT H (A ++ B) := fun z hz => (List.mem_append.mp hz).elim (a z) (b z)
theorem due5 {s : Str} (h : s.length ≤ 8) : (".due." : Str).length + s.length ≤ sizeLine := by
 have e : (".due." : Str).length = 5 := rfl
 have hline : 600 ≤ sizeLine := by decide
 omega
theorem cut1 (ws : List Str) : cutV (ws.map V.str) (some 1) none = (ws.drop 1).map V.str := by
 have h : cutV (ws.map V.str) (some 1) none = _ := cut_drop (ws.map V.str) 1
 rw [h, List.length_map]
 cases ws with
 | nil => rfl
 | cons a r =>
   rw [List.length_cons, show min 1 (r.length + 1) = 1 by omega]
   rfl
theorem inV_strs (c : Str) : ∀ ws : List Str, inV (.str c) (ws.map V.str) = decide (c ∈ ws)
 | [] => rfl
 | d :: ws => by
   have ih := inV_strs c ws
   unfold inV at ih ⊢
   rw [List.map_cons, List.any_cons, ih]
   show (eqV (.str d) (.str c) || decide (c ∈ ws)) = decide (c ∈ d :: ws)
   by_cases h : d = c
   · subst h
     simp [eqV]
   · simp [eqV, h, Ne.symm h]
theorem flat_strs (ws : List Str) : (ws.map V.str).all flatV = true := by
 rw [List.all_eq_true]
 intro z hz
 obtain ⟨y, _, rfl⟩ := List.mem_map.mp hz
 rfl
theorem vls_snoc {L : List Sd} {i : Nat} {z : Sd} (h : L[i]? = some z) : vls (L.take (i + 1)) = vls (L.take i) ++ [z.2] := by
 unfold vls
 rw [List.take_succ, h, List.map_append]
 rfl
theorem vls_len (L : List Sd) : (vls L).length = L.length := List.length_map ..
theorem frm_snoc {L : List Sd} {i : Nat} {z : Sd} (h : L[i]? = some z) : frm (L.take (i + 1)) = N21.add (frm (L.take i)) z.2.1 := by
 unfold frm
 rw [List.take_succ, h, List.map_append]
 exact N21.firsts_snoc _ _
theorem cns_snoc {L : List Sd} {i : Nat} {z : Sd} (h : L[i]? = some z) : cns (L.take (i + 1)) = N21.add (cns (L.take i)) z.2.2.2.1 := by
 unfold cns
 rw [prs_snoc h, List.map_append]
 exact N21.firsts_snoc _ _
theorem cns_len (L : List Sd) : (cns L).length ≤ L.length := by
 have := N21.len_firsts ((prs L).map (·.1))
 rw [List.length_map, prs_len] at this
 exact this
def spDuesL : Sp := fun vs H Q _ => ∃ (l : Addr) (L : List Sd), vs = [.ref l] ∧ H l = some (.lst (rfs L)) ∧ RT H L ∧ L.length ≤ 60 ∧ (∀ z ∈ L, Let z.2.1) ∧
 ∀ (p : Addr) (D : List Sd) H', Same H H' → H p = none → H' p = some (.lst (rfs D)) → RT H' D → vls D = dvs L (cns L) → D.length ≤ 10000 → Q (.ref p) H'
theorem fc_zero {L : List Sd} (h0 : ∀ z ∈ L, N21.tot z.2.2.2.1 (prs L) = 0) (f c : Str) : N22.sumIf (N22.pFC f c) (vls L ++ dvs L (cns L)) = 0 := by
 rw [N22.sumIf_app]
 cases hF : frm L with
 | nil =>
   have hL : L = [] := by
     cases L with
     | nil => rfl
     | cons z r =>
       obtain ⟨T, hT⟩ := N21.firsts_cons z.2.1 (r.map (·.2.1))
       have : frm (z :: r) = z.2.1 :: T := hT
       rw [this] at hF
       cases hF
   subst hL
   rfl
 | cons s T =>
   have hd : dvs L (cns L) = N22.dues due s (fun f c => N22.sumIf (N22.pFC f c) (vls L)) T (cns L) := by
     unfold dvs
     rw [hF]
     rfl
   rw [hd]
   refine N22.half_zero due (by rw [← hF]; exact N21.nodup_firsts _) (N21.nodup_firsts _) (fun v hv => ?_) (fun v hv => ?_) (fun c hc => ?_) f c
   · obtain ⟨z, hz, rfl⟩ := List.mem_map.mp hv
     rw [← hF]
     exact N21.mem_firsts.mpr (List.mem_map.mpr ⟨z, hz, rfl⟩)
   · obtain ⟨z, hz, rfl⟩ := List.mem_map.mp hv
     exact N21.mem_firsts.mpr (List.mem_map.mpr ⟨(z.2.2.2.1, z.2.2.2.2), List.mem_map.mpr ⟨z, hz, rfl⟩, rfl⟩)
   · obtain ⟨pz, mp, ep⟩ := List.mem_map.mp (N21.mem_firsts.mp hc)
     obtain ⟨z, mz, ez⟩ := List.mem_map.mp mp
     have h := h0 z mz
     rw [tot_prs] at h
     rw [← ep, ← ez]
     exact h
abbrev Pl := Str × Str
abbrev Pr := Pl × Int × Int
abbrev Rw4 := Addr × Pr
def tup4 (z : Rw4) : HO := .tup [.str z.2.1.1, .str z.2.1.2, .int z.2.2.1, .int z.2.2.2]
abbrev Ln := Addr × Str × Pr
def tup5 (z : Ln) : HO := .tup [.str z.2.1, .str z.2.2.1.1, .str z.2.2.1.2, .int z.2.2.2.1, .int z.2.2.2.2]
def rf5 (L : List Ln) : List V := L.map fun z => .ref z.1
abbrev Kp := Addr × Addr × Addr × Pr
theorem rf5_len (L : List Ln) : (rf5 L).length = L.length := List.length_map ..
theorem rf5_app (A B : List Ln) : rf5 (A ++ B) = rf5 A ++ rf5 B := List.map_append ..
theorem ref_at {α : Type} {f : α → Addr} {L : List α} {i : Nat} {x : V} (h : (L.map fun z => V.ref (f z))[i]? = some x) : ∃ z, L[i]? = some z ∧ x = .ref (f z) := by
 rw [List.getElem?_map] at h
 cases e : L[i]? with
 | none => rw [e] at h; cases h
 | some z => rw [e] at h; exact ⟨z, rfl, (Option.some.inj h).symm⟩
theorem rf5_at {L : List Ln} {i : Nat} {x : V} (h : (rf5 L)[i]? = some x) : ∃ z, L[i]? = some z ∧ x = .ref z.1 := ref_at h
theorem take_nx {α : Type} {L : List α} {i : Nat} {z : α} (h : L[i]? = some z) : L.take (i + 1) = L.take i ++ [z] := by
 rw [List.take_succ, h]
 rfl
def pA (P : List Pr) : List (Pl × Int) := P.map fun p => (p.1, p.2.1)
def pW (P : List Pr) : List (Pl × Int) := P.map fun p => (p.1, p.2.2)
def kys (P : List Pr) : List Pl := N21.firsts (P.map (·.1))
def ta (P : List Pr) (k : Pl) : Int := N21.tot k (pA P)
def tw (P : List Pr) (k : Pl) : Int := N21.tot k (pW P)
def kk (k : Pl) : List Key := [Sum.inr k.1, Sum.inr k.2]
theorem kk_inj {k l : Pl} (h : kk k = kk l) : k = l := by
 unfold kk at h
 simp at h
 exact Prod.ext h.1 h.2
theorem ta_snoc (P : List Pr) (p : Pr) (k : Pl) : ta (P ++ [p]) k = ta P k + (if p.1 = k then p.2.1 else 0) := by
 unfold ta pA
 rw [List.map_append]
 exact N21.tot_snoc k (p.1, p.2.1) _
theorem tw_snoc (P : List Pr) (p : Pr) (k : Pl) : tw (P ++ [p]) k = tw P k + (if p.1 = k then p.2.2 else 0) := by
 unfold tw pW
 rw [List.map_append]
 exact N21.tot_snoc k (p.1, p.2.2) _
theorem kys_snoc (P : List Pr) (p : Pr) : kys (P ++ [p]) = N21.add (kys P) p.1 := by
 unfold kys
 rw [List.map_append]
 exact N21.firsts_snoc _ _
theorem ta_not {P : List Pr} {k : Pl} (h : k ∉ kys P) : ta P k = 0 ∧ tw P k = 0 := by
 have h1 : k ∉ P.map (·.1) := fun m => h (N21.mem_firsts.mpr m)
 constructor
 · refine N21.tot_not (P := pA P) ?_
   unfold pA
   rw [List.map_map]
   exact h1
 · refine N21.tot_not (P := pW P) ?_
   unfold pW
   rw [List.map_map]
   exact h1
def kvT (A : Pl → Addr) (P : List Pr) : List (List Key × V) := (kys P).map fun k => (kk k, V.ref (A k))
theorem val_mapP (g : Pl → V) (c : Pl) : ∀ fs : List Pl, valV (fs.map fun c => (kk c, g c)) (kk c) = if c ∈ fs then some (g c) else none
 | [] => rfl
 | d :: fs => by
   rw [List.map_cons]
   by_cases h : d = c
   · subst h
     rw [valV_pos rfl, if_pos List.mem_cons_self]
   · rw [valV_neg (fun e => h (kk_inj e)), val_mapP g c fs]
     simp [List.mem_cons, Ne.symm h]
theorem put_mapP (g : Pl → V) (c : Pl) (v : V) (fs : List Pl) : putK (fs.map fun c => (kk c, g c)) (kk c) v = (N21.add fs c).map fun d => (kk d, if d = c then v else g d) := by
 unfold putK N21.add
 rw [valV_any, val_mapP]
 by_cases h : c ∈ fs
 · rw [if_pos h, if_pos h]
   simp only [Option.isSome_some, if_true, List.map_map]
   refine List.map_congr_left fun d _ => ?_
   by_cases e : d = c
   · subst e
     simp
   · have e2 : ¬ kk d = kk c := fun z => e (kk_inj z)
     simp [e, e2]
 · rw [if_neg h, if_neg h]
   simp only [Option.isSome_none, Bool.false_eq_true, if_false, List.map_append, List.map_cons, List.map_nil, if_true]
   congr 1
   refine List.map_congr_left fun d hd => ?_
   rw [if_neg (fun e => h (by rw [← e]; exact hd))]
theorem kvT_val {A : Pl → Addr} {P : List Pr} {k : Pl} (h : k ∈ kys P) : valV (kvT A P) (kk k) = some (.ref (A k)) := by
 unfold kvT
 rw [val_mapP (fun k => V.ref (A k)), if_pos h]
theorem kvT_put (A : Pl → Addr) (P : List Pr) (p : Pr) (n : Addr) : putK (kvT A P) (kk p.1) (.ref n) = kvT (fun k => if k = p.1 then n else A k) (P ++ [p]) := by
 unfold kvT
 rw [put_mapP (fun k => V.ref (A k)), kys_snoc]
 refine List.map_congr_left fun d _ => ?_
 by_cases e : d = p.1
 · simp [e]
 · simp [e]
def two (x y : Int) : HO := .tup [.int x, .int y]
def Sums (H : Hp) (d : Addr) (P : List Pr) (A : Pl → Addr) : Prop := H d = some (.dT (kvT A P)) ∧ ∀ k ∈ kys P, H (A k) = some (two (ta P k) (tw P k))
theorem Sums.same {H H' : Hp} {d : Addr} {P : List Pr} {A : Pl → Addr} (S : Sums H d P A) (e : Same H H') : Sums H' d P A := ⟨e _ _ S.1, fun k hk => e _ _ (S.2 k hk)⟩
theorem Sums.get {H : Hp} {d z : Addr} {P : List Pr} {A : Pl → Addr} (S : Sums H d P A) (k : Pl) (hz : H z = some (two 0 0)) : ∃ s, (valV (kvT A P) (kk k)).getD (.ref z) = .ref s ∧ H s = some (two (ta P k) (tw P k)) := by
 by_cases h : k ∈ kys P
 · exact ⟨A k, by rw [kvT_val h]; rfl, S.2 k h⟩
 · refine ⟨z, ?_, ?_⟩
   · unfold kvT
     rw [val_mapP (fun k => V.ref (A k)), if_neg h]
     rfl
   · rw [(ta_not h).1, (ta_not h).2]
     exact hz
theorem Sums.put {H : Hp} {d n : Addr} {P : List Pr} {A : Pl → Addr} {p : Pr} (S : Sums H d P A) (hn : H n = some (two (ta P p.1 + p.2.1) (tw P p.1 + p.2.2))) : Sums (upd H d (.dT (putK (kvT A P) (kk p.1) (.ref n)))) d (P ++ [p]) (fun k => if k = p.1 then n else A k) := by
 refine ⟨by rw [uqs, kvT_put], fun k hk => ?_⟩
 have keep : ∀ z o, H z = some (.tup o) → upd H d (.dT (putK (kvT A P) (kk p.1) (.ref n))) z = some (.tup o) := fun z o hz => by
   rw [uqn (ne_of hz S.1 (by intro z; cases z))]
   exact hz
 rw [ta_snoc, tw_snoc]
 by_cases e : k = p.1
 · subst e
   show upd H d (.dT (putK (kvT A P) (kk p.1) (.ref n))) (if p.1 = p.1 then n else A p.1) = _
   rw [if_pos rfl, if_pos rfl, if_pos rfl]
   exact keep _ _ hn
 · show upd H d (.dT (putK (kvT A P) (kk p.1) (.ref n))) (if k = p.1 then n else A k) = _
   rw [if_neg e, if_neg (Ne.symm e), if_neg (Ne.symm e), Int.add_zero, Int.add_zero]
   refine keep _ _ (S.2 k ?_)
   rw [kys_snoc] at hk
   unfold N21.add at hk
   split at hk
   · exact hk
   · rcases List.mem_append.mp hk with m | m
     · exact m
     · exact absurd (List.mem_singleton.mp m) e
theorem tup_keepL {H : Hp} {p : Addr} {xs ys : List V} {z : Addr} {o : List V} (h : H z = some (.tup o)) (hp : H p = some (.lst xs)) : upd H p (.lst ys) z = some (.tup o) := by
 rw [uqn (ne_of h hp (by intro z; cases z))]
 exact h
def R4 (H : Hp) (R : List Rw4) : Prop := ∀ z ∈ R, H z.1 = some (tup4 z)
def R5 (H : Hp) (L : List Ln) : Prop := ∀ z ∈ L, H z.1 = some (tup5 z)
theorem R4.same {H H' : Hp} {R : List Rw4} (h : R4 H R) (e : Same H H') : R4 H' R := fun z hz => e _ _ (h z hz)
theorem R5.same {H H' : Hp} {R : List Ln} (h : R5 H R) (e : Same H H') : R5 H' R := fun z hz => e _ _ (h z hz)
def RK (H : Hp) (Z : List Kp) : Prop := ∀ z ∈ Z, H z.1 = some (.tup [.ref z.2.1, .ref z.2.2.1]) ∧ H z.2.1 = some (.tup [.str z.2.2.2.1.1, .str z.2.2.2.1.2]) ∧ H z.2.2.1 = some (two z.2.2.2.2.1 z.2.2.2.2.2)
theorem RK.same {H H' : Hp} {R : List Kp} (h : RK H R) (e : Same H H') : RK H' R := fun z hz => ⟨e _ _ (h z hz).1, e _ _ (h z hz).2.1, e _ _ (h z hz).2.2⟩
def f2 (c r : V) : List (Str × V) := putF "day" r (putF "coin" c [])
theorem f2_coin (c r : V) : (f2 c r).lookup ("coin" : Str) = some c := by
 unfold f2
 rw [lookup_putF, if_neg (by decide +kernel), lookup_putF, if_pos rfl]
theorem f2_day (c r : V) : (f2 c r).lookup ("day" : Str) = some r := by
 unfold f2
 rw [lookup_putF, if_pos rfl]
def spXI2 (C : Addr) : Sp := fun vs H Q _ => ∃ (x : Addr) (c r : V), vs = [.ref x, c, r] ∧ H x = some (bareO x (.ref C) none) ∧ ∀ d H', H d = none → d ≠ x → H' d = some (.xd (f2 c r)) → H' x = some (bareO x (.ref C) (some d)) → (∀ y o, H y = some o → y ≠ x → H' y = some o) → Q .non H'
theorem after_x {H H' : Hp} {x : Addr} {o : HO} (hx0 : H x = none) (keep : ∀ y o', upd H x o y = some o' → y ≠ x → H' y = some o') : Same H (fun b => if b = x then none else H' b) := fun b o' hb => by
 have n := nqn hb hx0
 show (if b = x then none else H' b) = some o'
 rw [if_neg n]
 exact keep b o' (by rw [uqn n]; exact hb) n
def f3 (b c r : V) : List (Str × V) := putF "rest" r (putF "coin" c (putF "book" b []))
theorem f3_len (b c r : V) : (putF "coin" c (putF "book" b [])).length < 1000 := by
 have h : (putF "coin" c (putF "book" b [])).map (·.1) = (putF "coin" V.non (putF "book" V.non [])).map (·.1) := rfl
 have := congrArg List.length h
 rw [List.length_map, List.length_map] at this
 rw [this]
 decide +kernel
def spXI3 (C : Addr) : Sp := fun vs H Q _ => ∃ (x : Addr) (b c r : V), vs = [.ref x, b, c, r] ∧ H x = some (bareO x (.ref C) none) ∧ ∀ d H', H d = none → d ≠ x → H' d = some (.xd (f3 b c r)) → H' x = some (bareO x (.ref C) (some d)) → (∀ y o, H y = some o → y ≠ x → H' y = some o) → Q .non H'
def fst0 (L : List Sd) : Str := (L.head?.map (·.2.1)).getD ""
def bad (L : List Sd) : Option (Str × Int) := (N21.rs (prs L)).find? (fun p => decide (p.2 ≠ 0))
theorem find_add (g : Str → Bool) : ∀ (cs acc : List Str), (cs.foldl N21.add acc).find? g = (acc.find? g).or (cs.find? g)
 | [], acc => by simp
 | d :: cs, acc => by
   rw [List.foldl_cons, find_add g cs (N21.add acc d)]
   unfold N21.add
   split
   · rename_i h
     cases ha : acc.find? g with
     | some a => rfl
     | none =>
       have : g d = false := by
         have := (List.find?_eq_none.mp ha) d h
         simpa using this
       simp [List.find?_cons, this]
   · rw [List.find?_append]
     cases ha : acc.find? g with
     | some a => rfl
     | none =>
       by_cases hg : g d = true
       · simp [List.find?_cons, hg]
       · simp [List.find?_cons, hg]
theorem bad_eq (L : List Sd) : bad L = (L.find? (fun z => decide (N21.tot z.2.2.2.1 (prs L) ≠ 0))).map (fun z => (z.2.2.2.1, N21.tot z.2.2.2.1 (prs L))) := by
 unfold bad N21.rs
 rw [List.find?_map]
 have h : N21.firsts ((prs L).map (·.1)) = ((prs L).map (·.1)).foldl N21.add [] := rfl
 rw [h, find_add]
 have h2 : (prs L).map (·.1) = L.map (fun z => z.2.2.2.1) := by
   unfold prs
   rw [List.map_map]
   rfl
 rw [h2, List.find?_map]
 simp [Function.comp]
 rfl
theorem find_at {α : Type} {p : α → Bool} : ∀ {xs : List α} {i : Nat} {a : α}, (∀ y ∈ xs.take i, p y = false) → xs[i]? = some a → p a = true → xs.find? p = some a
 | [], i, a, _, h, _ => by simp at h
 | x :: xs, 0, a, _, h, hp => by
   cases h
   simp [List.find?_cons, hp]
 | x :: xs, i + 1, a, h1, h2, hp => by
   have hx : p x = false := h1 x List.mem_cons_self
   rw [List.find?_cons, hx]
   exact find_at (fun y hy => h1 y (List.mem_cons_of_mem _ hy)) (by simpa using h2) hp
theorem pe_fldXS {X : Cx} {x : Addr} {e : Expr} {f : Str} {pos : Pos} {ta : TE} (he : PE (sup X x) e ta) (hb : attributeBase e f (sup X x).env (eval e (sup X x).env) = eval e (sup X x).env) : PE (sup X x) (.Attribute e f pos) (tFldX X.K ta f) := pe_fldX (X := sup X x) he hb
theorem head0 {L : List Sd} {z0 : Sd} {r : List Sd} (h : L = z0 :: r) : atI (rfs L) 0 = some (.ref z0.1) ∧ fst0 L = z0.2.1 := by
 subst h
 refine ⟨?_, rfl⟩
 show atI (rfs (z0 :: r)) ((0 : Nat) : Int) = _
 exact atI_nat rfl
theorem ne_of_none_r {H : Hp} {a b : Addr} {o : HO} (h : H a = some o) (h' : H b = none) : b ≠ a := fun z => by rw [z, h] at h'; cases h'
def fK (c : Str) (dy : Int) : List Key → Bool
 | [.inr c', .inl d'] => decide (V.str c' = V.str c) && decide (d' ≤ dy)
 | _ => false
def gI : List Key → Int
 | [_, .inl d'] => d'
 | _ => 0
structure RatesAt (K : PySem.W.Frag) (C : Addr) (H : Hp) (p d : Addr) (t : Str) (kvs : List (List Key × V)) : Prop where
 ob : ∃ dx fs, H p = some (.ins C dx fs) ∧ fs.lookup ("told" : Str) = some (.str t) ∧ fs.lookup ("known" : Str) = some (.ref d) ∧ ∀ m ∈ (["tell", "rate", "worth", "copied"] : List Str), fs.lookup m = none
 dc : H d = some (.dT kvs)
 ln : kvs.length ≤ 500
 ks : ∀ k ∈ kvs.map (·.1), ∃ c' d', k = [Sum.inr c', Sum.inl d']
def daysOf (c : Str) (dy : Int) (kvs : List (List Key × V)) : List Int := ((kvs.map (·.1)).filter (fK c dy)).map gI
def spInit (K : PySem.W.Frag) (C : Addr) : Sp := fun vs H Q _ => ∃ (p dx : Addr) (t : Str), vs = [.ref p, .str t] ∧ H p = some (.ins C dx []) ∧ ∀ d H', H d = none → RatesAt K C H' p d t [] → (∀ b o, H b = some o → b ≠ p → H' b = some o) → Q .non H'
def spTell (K : PySem.W.Frag) (C : Addr) : Sp := fun vs H Q _ => ∃ (p d : Addr) (t c : Str) (dy tp bt : Int) (kvs : List (List Key × V)), vs = [.ref p, .str c, .int dy, .int tp, .int bt] ∧ RatesAt K C H p d t kvs ∧ 1 ≤ tp ∧ 1 ≤ bt ∧ bt ≤ 2 ^ 200 ∧ c ≠ t ∧ valV kvs [Sum.inr c, Sum.inl dy] = none ∧ kvs.length < 500 ∧
 ∀ r H', H' r = some (.tup [.int (Int.fdiv tp (N11.dF tp bt)), .int (Int.fdiv bt (N11.dF tp bt))]) → RatesAt K C H' p d t (kvs ++ [([Sum.inr c, Sum.inl dy], .ref r)]) → (∀ b o, H b = some o → b ≠ d → H' b = some o) → Q .non H'
def spRateE (K : PySem.W.Frag) (C CN : Addr) : Sp := fun vs H Q E => ∃ (p d : Addr) (t c : Str) (dy : Int) (kvs : List (List Key × V)), vs = [.ref p, .str c, .int dy] ∧ RatesAt K C H p d t kvs ∧ (c = t → ∀ r H', Same H H' → H' r = some (.tup [.int 1, .int 1]) → Q (.ref r) H') ∧
 (c ≠ t → daysOf c dy kvs = [] → ∀ e H', Same H H' → H' e = some (.xd (f2 (.str c) (.int dy))) → E (.ref CN) (some e) H') ∧
 (c ≠ t → daysOf c dy kvs ≠ [] → ∀ m, m ∈ daysOf c dy kvs → (∀ a ∈ daysOf c dy kvs, a ≤ m) → ∃ v, valV kvs [Sum.inr c, Sum.inl m] = some v ∧ ∀ H', Same H H' → Q v H')
def spWorthE (K : PySem.W.Frag) (C CN : Addr) : Sp := fun vs H Q E => ∃ (p d : Addr) (t c : Str) (am dy : Int) (kvs : List (List Key × V)), vs = [.ref p, .int am, .str c, .int dy] ∧ RatesAt K C H p d t kvs ∧ am.natAbs ≤ 2 ^ 200 ∧ (c = t → ∀ H', Same H H' → Q (.int (N13.nearZ (am * 1) 1)) H') ∧
 (c ≠ t → daysOf c dy kvs = [] → ∀ e H', Same H H' → H' e = some (.xd (f2 (.str c) (.int dy))) → E (.ref CN) (some e) H') ∧
 (c ≠ t → daysOf c dy kvs ≠ [] → ∀ m, m ∈ daysOf c dy kvs → (∀ a ∈ daysOf c dy kvs, a ≤ m) → ∃ (r : Addr) (x y : Int), valV kvs [Sum.inr c, Sum.inl m] = some (.ref r) ∧ H r = some (.tup [.int x, .int y]) ∧ x.natAbs ≤ 2 ^ 200 ∧ 1 ≤ y ∧ y ≤ 2 ^ 200 ∧ ∀ H', Same H H' → Q (.int (N13.nearZ (am * x) y)) H')
structure SpWE (K : PySem.W.Frag) (C CN : Addr) (vs : List V) (H : Hp) (Q : VK) (E : XK) : Prop where
 is : spWorthE K C CN vs H Q E
theorem tk_ne : ¬ (("told" : Str) = "known") := by decide +kernel
structure RtG (K : PySem.W.Frag) (C : Addr) (H : Hp) (rp d : Addr) (t : Str) (kvs : List (List Key × V)) (dy : Int) (g : Str → Bool) (X Y : Str → Int) : Prop where
 ra : RatesAt K C H rp d t kvs
 kn : ∀ c, g c = true → c ≠ t → daysOf c dy kvs ≠ [] ∧ ∀ m, m ∈ daysOf c dy kvs → ∃ r, valV kvs [Sum.inr c, Sum.inl m] = some (.ref r) ∧ H r = some (.tup [.int (X c), .int (Y c)])
 no : ∀ c, g c = false → c ≠ t ∧ daysOf c dy kvs = []
 bx : ∀ c, (X c).natAbs ≤ 2 ^ 200
 b1 : ∀ c, 1 ≤ Y c
 b2 : ∀ c, Y c ≤ 2 ^ 200
 tx : X t = 1
 ty : Y t = 1
theorem RtG.same {K : PySem.W.Frag} {C : Addr} {H H' : Hp} {rp d : Addr} {t : Str} {kvs : List (List Key × V)} {dy : Int} {g : Str → Bool} {X Y : Str → Int} (R : RtG K C H rp d t kvs dy g X Y) (e : Same H H') : RtG K C H' rp d t kvs dy g X Y := by
 obtain ⟨⟨⟨dx, gs, a, b⟩, c, ln, ks⟩, r2, r3, r4, r5, r6, r7, r8⟩ := R
 refine ⟨⟨⟨dx, gs, e _ _ a, b⟩, e _ _ c, ln, ks⟩, fun c hc ht => ?_, r3, r4, r5, r6, r7, r8⟩
 obtain ⟨h1, h2⟩ := r2 c hc ht
 refine ⟨h1, fun m hm => ?_⟩
 obtain ⟨r, h3, h4⟩ := h2 m hm
 exact ⟨r, h3, e _ _ h4⟩
def wS (X Y : Str → Int) (c : Str) (a : Int) : Int := N13.nearZ (a * X c) (Y c)
theorem worthG {K : PySem.W.Frag} {C CN : Addr} {H : Hp} {rp d : Addr} {t : Str} {kvs : List (List Key × V)} {dy : Int} {g : Str → Bool} {X Y : Str → Int} (R : RtG K C H rp d t kvs dy g X Y) {c : Str} {am : Int} (ha : am.natAbs ≤ 2 ^ 200) {Q : VK} {E : XK}
   (qe : g c = false → ∀ e H', Same H H' → H' e = some (.xd (f2 (.str c) (.int dy))) → E (.ref CN) (some e) H')
   (q : g c = true → ∀ H', Same H H' → Q (.int (wS X Y c am)) H') : SpWE K C CN [.ref rp, .int am, .str c, .int dy] H Q E := by
 have gt : c = t → g c = true := fun z => by
   cases hg : g c with
   | true => rfl
   | false => exact absurd z (R.no c hg).1
 refine ⟨rp, d, t, c, am, dy, kvs, rfl, R.ra, ha, fun z H' e => ?_, fun z hd => ?_, fun z hd m m1 m2 => ?_⟩
 · have h := q (gt z) H' e
   unfold wS at h
   rw [z, R.tx, R.ty] at h
   exact h
 · refine qe ?_
   cases hg : g c with
   | false => rfl
   | true => exact absurd hd (R.kn c hg z).1
 · have hg : g c = true := by
     cases hg : g c with
     | true => rfl
     | false => exact absurd (R.no c hg).2 hd
   obtain ⟨r, h3, h4⟩ := (R.kn c hg z).2 m m1
   exact ⟨r, X c, Y c, h3, h4, R.bx c, R.b1 c, R.b2 c, q hg⟩
theorem nd_takeS {cs : List Str} (nd : cs.Nodup) {i : Nat} {c : Str} (h : cs[i]? = some c) : c ∉ cs.take i := fun m => by
 obtain ⟨j, hj, e⟩ := List.mem_take_iff_getElem.mp m
 obtain ⟨hi, e2⟩ := List.getElem?_eq_some_iff.mp h
 have h3 := (List.pairwise_iff_getElem.mp nd) j i (by omega) hi (by omega)
 exact h3 (by rw [e, e2])
def lackC (g : Str → Bool) (L : List Sd) : Option Str := (L.find? fun z => !g z.2.2.2.1).map fun z => z.2.2.2.1
theorem lack_none {g : Str → Bool} {L : List Sd} (h : ∀ z ∈ L, g z.2.2.2.1 = true) : lackC g L = none := by
 unfold lackC
 rw [List.find?_eq_none.mpr fun z hz => by rw [h z hz]; decide]
 rfl
theorem lack_all {g : Str → Bool} {L : List Sd} (h : lackC g L = none) : ∀ z ∈ L, g z.2.2.2.1 = true := fun z hz => by
 unfold lackC at h
 rw [Option.map_eq_none_iff, List.find?_eq_none] at h
 have := h z hz
 simpa using this
theorem lack_app {g : Str → Bool} {L D : List Sd} (h : ∀ y ∈ D, ∃ z ∈ L, z.2.2.2.1 = y.2.2.2.1) : lackC g (L ++ D) = lackC g L := by
 cases hl : lackC g L with
 | none =>
   have := lack_all hl
   refine lack_none fun z hz => ?_
   rcases List.mem_append.mp hz with w | w
   · exact this z w
   · obtain ⟨y, hy, e⟩ := h z w
     rw [← e]
     exact this y hy
 | some c =>
   unfold lackC at hl ⊢
   rw [List.find?_append]
   cases hf : L.find? (fun z => !g z.2.2.2.1) with
   | none => rw [hf] at hl; cases hl
   | some z => rw [hf] at hl; exact hl
theorem fw_len (W : Str → Int → Int) (L : List (N22.Rv Str)) : (N25.fw W L).length = L.length := List.length_map ..
theorem fw_snoc (W : Str → Int → Int) {L : List Sd} {i : Nat} {z : Sd} (h : L[i]? = some z) : N25.fw W (vls (L.take (i + 1))) = N25.fw W (vls (L.take i)) ++ [(z.2.1, W z.2.2.2.1 z.2.2.2.2)] := by
 rw [vls_snoc h]
 unfold N25.fw
 rw [List.map_append]
 rfl
theorem kvG_at {P : List (Str × Int)} {i : Nat} {kv : Key × V} (h : (kvG kS P)[i]? = some kv) : ∃ f, (N21.rs P)[i]? = some (f, N21.tot f P) ∧ kv = (kS f, V.int (N21.tot f P)) := by
 unfold kvG at h
 unfold N21.rs
 rw [List.getElem?_map] at h ⊢
 cases e : (N21.firsts (P.map (·.1)))[i]? with
 | none => rw [e] at h; cases h
 | some c => rw [e] at h; exact ⟨c, rfl, (Option.some.inj h).symm⟩
theorem kvG_rs (P : List (Str × Int)) : (kvG kS P).length = (N21.rs P).length := by
 unfold kvG N21.rs
 rw [List.length_map, List.length_map]
theorem rnd_snoc (ro t : Str) {P : List (Str × Int)} {i : Nat} {p : Str × Int} (h : (N21.rs P)[i]? = some p) : ((N21.rs P).take (i + 1)).flatMap (N25.rone ro t) = ((N21.rs P).take i).flatMap (N25.rone ro t) ++ N25.rone ro t p := by
 rw [List.take_succ, h, List.flatMap_append]
 simp
def spLinedE (K : PySem.W.Frag) (C CN : Addr) : Sp := fun vs H Q E => ∃ (l rp d : Addr) (dy : Int) (t : Str) (kvs : List (List Key × V)) (g : Str → Bool) (X Y : Str → Int) (L : List Sd), vs = [.ref l, .int dy, .ref rp] ∧ H l = some (.lst (rfs L)) ∧ RT H L ∧ L.length ≤ 20000 ∧ RtG K C H rp d t kvs dy g X Y ∧ (∀ z ∈ L, z.2.2.2.2.natAbs ≤ 2 ^ 200) ∧
 (∀ c, lackC g L = some c → ∀ e H', Same H H' → H' e = some (.xd (f2 (.str c) (.int dy))) → E (.ref CN) (some e) H') ∧
 (lackC g L = none → ∀ (p : Addr) (M : List Ln) H', Same H H' → H p = none → H' p = some (.lst (rf5 M)) → R5 H' M → M.map (·.2) = N25.lines (wS X Y) "*rounding" t (vls L) → M.length ≤ 2 * L.length → Q (.ref p) H')
def spWithE (C : Addr) : Sp := fun vs H Q E => ∃ (l : Addr) (L : List Sd), vs = [.ref l] ∧ H l = some (.lst (rfs L)) ∧ RT H L ∧ L.length ≤ 60 ∧ (∀ z ∈ L, Let z.2.1) ∧
 (∀ c r, bad L = some (c, r) → ∀ d H', Same H H' → H' d = some (.xd (f3 (.str (fst0 L)) (.str c) (.int r))) → E (.ref C) (some d) H') ∧
 (bad L = none → ∀ (p : Addr) (D : List Sd) H', Same H H' → H p = none → H' p = some (.lst (rfs (L ++ D))) → RT H' D → vls D = dvs L (cns L) → D.length ≤ 10000 → Q (.ref p) H')
def spEntryE (K : PySem.W.Frag) (C CN CU : Addr) : Sp := fun vs H Q E => ∃ (l rp d : Addr) (dy : Int) (t : Str) (kvs : List (List Key × V)) (g : Str → Bool) (X Y : Str → Int) (L : List Sd), vs = [.ref l, .int dy, .ref rp] ∧ H l = some (.lst (rfs L)) ∧ RT H L ∧ L.length ≤ 60 ∧ (∀ z ∈ L, Let z.2.1) ∧ RtG K C H rp d t kvs dy g X Y ∧ (∀ z ∈ L, z.2.2.2.2.natAbs ≤ 2 ^ 145) ∧
 (∀ c r, bad L = some (c, r) → ∀ e H', Same H H' → H' e = some (.xd (f3 (.str (fst0 L)) (.str c) (.int r))) → E (.ref CU) (some e) H') ∧
 (∀ c, bad L = none → lackC g L = some c → ∀ e H', Same H H' → H' e = some (.xd (f2 (.str c) (.int dy))) → E (.ref CN) (some e) H') ∧
 (bad L = none → lackC g L = none → ∀ (p : Addr) (M : List Ln) H', Same H H' → H p = none → H' p = some (.lst (rf5 M)) → R5 H' M → M.map (·.2) = N25.lines (wS X Y) "*rounding" t (vls L ++ dvs L (cns L)) → M.length ≤ 21000 → Q (.ref p) H')
theorem dues_mem {s : Str} {t : Str → Str → Int} {T C : List Str} {v : N22.Rv Str} (h : v ∈ N22.dues due s t T C) : ∃ f c, f ∈ T ∧ c ∈ C ∧ (v = (f, due s, c, -t f c) ∨ v = (s, due f, c, t f c)) := by
 unfold N22.dues at h
 obtain ⟨f, hf, h⟩ := List.mem_flatMap.mp h
 unfold N22.rowDue at h
 obtain ⟨c, hc, h⟩ := List.mem_flatMap.mp h
 unfold N22.oneDue at h
 split at h
 · refine ⟨f, c, hf, hc, ?_⟩
   rcases List.mem_cons.mp h with w | w
   · exact .inl w
   · exact .inr (List.mem_singleton.mp w)
 · cases h
theorem tf_bound {B : Nat} {L : List Sd} (h : ∀ z ∈ L, z.2.2.2.2.natAbs ≤ B) (f c : Str) : (tf L f c).natAbs ≤ L.length * B := by
 unfold tf
 rw [N25.sumIf_sg]
 have := N25.sg_bound B (fun z : N22.Rv Str => if N22.pFC f c z = true then z.2.2.2 else 0) (vls L) fun v hv => by
   obtain ⟨z, hz, rfl⟩ := List.mem_map.mp hv
   have := h z hz
   show (if N22.pFC f c z.2 = true then z.2.2.2.2 else 0).natAbs ≤ B
   split
   · exact this
   · exact Nat.zero_le _
 rw [vls_len] at this
 exact this
theorem cns_mem {L : List Sd} {c : Str} (h : c ∈ cns L) : ∃ z ∈ L, z.2.2.2.1 = c := by
 obtain ⟨p, hp, e⟩ := List.mem_map.mp (N21.mem_firsts.mp h)
 obtain ⟨z, hz, rfl⟩ := List.mem_map.mp hp
 exact ⟨z, hz, e⟩
theorem dvs_coin {L : List Sd} {v : N22.Rv Str} (h : v ∈ dvs L (cns L)) : (∃ z ∈ L, z.2.2.2.1 = v.2.2.1) ∧ (∃ x, v.2.1 = due x ∧ ((∃ z ∈ L, z.2.1 = x) ∨ x = "")) ∧ ∀ B, (∀ z ∈ L, z.2.2.2.2.natAbs ≤ B) → v.2.2.2.natAbs ≤ L.length * B := by
 obtain ⟨f, c, hf, hc, e⟩ := dues_mem h
 obtain ⟨z, hz, ez⟩ := cns_mem hc
 have hf2 := frm_mem (List.mem_of_mem_drop hf)
 have hs : (∃ z ∈ L, z.2.1 = (frm L).headD "") ∨ (frm L).headD "" = "" := by
   cases e : frm L with
   | nil => exact .inr rfl
   | cons a r => exact .inl (frm_mem (by rw [e]; exact List.mem_cons_self))
 rcases e with rfl | rfl
 · exact ⟨⟨z, hz, ez⟩, ⟨_, rfl, hs⟩, fun B hB => by rw [Int.natAbs_neg]; exact tf_bound hB f c⟩
 · exact ⟨⟨z, hz, ez⟩, ⟨_, rfl, .inl hf2⟩, fun B hB => tf_bound hB f c⟩
def spNearest (C : Addr) : Sp := fun vs H Q E => ∃ t b : Int, vs = [.int t, .int b] ∧ (b < 1 → E (.ref C) none H) ∧ (1 ≤ b → b ≤ 2 ^ 250 * 2 ^ 250 ∧ Q (.int (N13.nearZ t b)) H)
theorem sc_divisor : FnScope ["one", "other", "rest"] ["one", "other"] (defScope s_divisor) := ⟨rfl, rfl, rfl, by decide +kernel, rfl, by decide +kernel, by decide +kernel⟩
theorem ok_divisor (D : Def K mg "divisor" s_divisor .none) (z_abs : mg "abs" = none) : Cal P w K mg base CX0 cm 1 "divisor" ["one", "other"] [] spG := by
 obtain ⟨f, fd, F, hm⟩ := D
 refine ⟨f, fd, _, F.ok sc_divisor (fun vs H Q E h => ?_) (fun cdv A outer s H vs Q E hr h => ?_), hm, F.kp, (F.binds fun _ _ _ _ _ _ us hl => match us, hl with | [_, _], _ => rfl), .nil, F.binds fun _ _ _ _ _ _ us hl => match us, hl with | [_, _], _ => rfl⟩
 · obtain ⟨a, b, rfl, q⟩ := h
   rfl
 obtain ⟨a, b, rfl, q⟩ := h
 have nd := sc_divisor.nd
 refine ⟨_, (pqc (ps_set (i := 0) nd rfl (Or.inl rfl) (pe_callB call_absN rfl z_abs bt_abs (pcx (pv 0) pnx)))
   (pqc (ps_set (i := 1) nd rfl (Or.inl rfl) (pe_callB call_absN rfl z_abs bt_abs (pcx (pv 1) pnx)))
   (pqc (ps_while PassesOwn.never (pt_cmpR op_ne (pv 1) pqi (nomark _)) (pqc (ps_set (i := 2) nd rfl (Or.inl rfl) (pe_op op_mod (pv 0) (pv 1)))
   (pqc (ps_set (i := 0) nd rfl (Or.inl rfl) (pv 1))
   (pqo (ps_set (i := 1) nd rfl (Or.inl rfl) (pv 2))))))
   (pqo (ps_ret (pv 0)))))), ?_⟩
 refine ⟨_, rfl, a, rfl, ?_⟩
 refine ⟨_, rfl, b, rfl, ?_⟩
 refine while_by (fun σ H' => ∃ (x y : Int) (r : Option V), σ = [some (.int x), some (.int y), r] ∧ H' = H ∧ 0 ≤ x ∧ 0 ≤ y ∧ N11.gF x y = N11.gF a b) (fun σ _ => match σ with | [_, some (.int y), _] => y.toNat | _ => 0)
   ⟨_, _, none, rfl, rfl, by omega, by omega, N11.g_start a b⟩ ?_ ?_
 · rintro σ H1 ⟨x, y, r, rfl, rfl, hx, hy, hg⟩
   refine ⟨_, rfl, rfl, _, rfl, ?_⟩
   refine ndec2 (fun h => ?_) (fun h => ?_)
   · have hy0 : 0 < y := by (have : y ≠ 0 := fun z => h (congrArg V.int z)); omega
     refine ⟨_, rfl, _, rfl, _, _, rfl, rfl, hy0, _, rfl, _, rfl, ⟨y, x % y, _, rfl, rfl, by omega, Int.emod_nonneg x (by omega), ?_⟩, ?_⟩
     · rw [N11.g_turnE hx hy0]
       exact hg
     · have := Int.emod_lt_of_pos x hy0
       have := Int.emod_nonneg x (show y ≠ 0 by omega)
       show (x % y).toNat < y.toNat
       omega
   · have hy0 : y = 0 := by exact V.int.inj h
     subst hy0
     rw [← N11.g_end hg hx] at q
     exact ⟨_, rfl, q⟩
 · intro σ H1 Q1 Q2 hq z
   obtain ⟨v, e, sc, k, e2, z⟩ := z
   exact ⟨v, e, sc, k, e2, hq _ _ z⟩
theorem sc_fraction : FnScope ["top", "bottom", "shared"] ["top", "bottom"] (defScope s_fraction) := ⟨rfl, rfl, rfl, by decide +kernel, rfl, by decide +kernel, by decide +kernel⟩
theorem ok_fraction {T_fraction : Addr} (D : Def K mg "fraction" s_fraction (.ref T_fraction)) {C_NoNumber : Addr} {od_fraction : Option Addr} {n_fraction : Nat} {sl_fraction : Array (Option Value)} {tk_fraction : Tok} (lT_fraction : K.lookup T_fraction = some ⟨.type "tuple", od_fraction, .seq #[.int 1 tk_fraction] n_fraction, sl_fraction⟩) (c_divisor : Cal P w K mg base CX0 true 1 "divisor" ["one", "other"] [] spG) (m_NoNumber : mg "NoNumber" = some (.ref C_NoNumber)) (X_NoNumber : XCls K C_NoNumber) (i_NoNumber : PySem.W.findIn K (.ref C_NoNumber) "__init__" = some (some (.builtin "ValueError.__init__"))) : Cal P w K mg base (CX1 P w) true 2 "fraction" ["top", "bottom"] [.int 1] (spFrac C_NoNumber) := by
 obtain ⟨f, fd, F, hm⟩ := D
 obtain ⟨f_divisor, fd_divisor, d_divisor, G_divisor, m_divisor, k_divisor, b_divisor, v_divisor, b_divisor1⟩ := c_divisor
 refine ⟨f, fd, _, F.okX sc_fraction (fun vs H Q E h => ?_) (fun cdv A outer s H vs Q E hr h => ?_), hm, F.kp, (F.bindsD (ds := []) lT_fraction 2 rfl fun _ _ _ _ _ _ us hl => match us, hl with | [_, _], _ => ⟨_, rfl, rfl⟩), (.cons ⟨_, rfl⟩ .nil), F.bindsD (ds := [.int 1 tk_fraction]) lT_fraction 1 rfl fun _ _ _ _ _ _ us hl => match us, hl with | [_], _ => ⟨_, rfl, rfl⟩⟩
 · obtain ⟨t, b, rfl, q1, q2⟩ := h
   rfl
 obtain ⟨t, b, rfl, q1, q2⟩ := h
 have nd := sc_fraction.nd
 refine ⟨_, (pqc (ps_if (pt_cmpR op_eq (pv 1) pqi (nomark _)) (pqo (ps_raise0 rfl xe_def rfl m_NoNumber X_NoNumber i_NoNumber (pcx pe_str pnx))) pss_nil)
   (pqc (ps_set (i := 2) nd rfl (Or.inl rfl) (pe_call G_divisor (hr.mono (by decide)) rfl m_divisor k_divisor b_divisor Paired.nil pass0 (pcx (pv 0) (pcx (pv 1) pnx))))
   (pqc (ps_if (pt_cmpR op_lt (pv 1) pqi (nomark _)) (pqo (ps_set (i := 2) nd rfl (Or.inl rfl) (pe_un un_neg (pv 2)))) pss_nil)
   (pqo (ps_ret (pe_tup (pcx (pe_op op_fdivB (pv 0) (pv 2)) (pcx (pe_op op_fdivB (pv 1) (pv 2)) pnx)))))))), ?_⟩
 refine ⟨_, rfl, rfl, _, rfl, ?_⟩
 refine dec2 (fun h => ?_) (fun h => ?_)
 · exact ⟨by decide, True.intro, q1 (V.int.inj h)⟩
 · have hb : b ≠ 0 := fun z => h (congrArg V.int z)
   obtain ⟨hb2, q⟩ := q2 hb
   have hd := N11.dF_in (t := t) hb
   refine ⟨_, rfl, _, rfl, _, _, rfl, ?_⟩
   refine ⟨_, rfl, _, _, rfl, rfl, _, rfl, ?_⟩
   refine dec2 (fun h1 => ?_) (fun h1 => ?_)
   · rw [show N11.dF t b = _ from if_pos h1] at q hd
     exact ⟨_, rfl, _, rfl, _, rfl, _, rfl, _, _, rfl, rfl, log_of (by omega) (by omega) (by omega), _, rfl, _, rfl, _, _, rfl, rfl, log_of (by omega) (by omega) (by omega), (by show 2 ≤ sizeLine; decide), q⟩
   · rw [show N11.dF t b = _ from if_neg h1] at q hd
     exact ⟨_, rfl, _, rfl, _, _, rfl, rfl, log_of (by omega) (by omega) (by omega), _, rfl, _, rfl, _, _, rfl, rfl, log_of (by omega) (by omega) (by omega), (by show 2 ≤ sizeLine; decide), q⟩
theorem sc_nearest : FnScope ["top", "bottom", "size"] ["top", "bottom"] (defScope s_nearest) := ⟨rfl, rfl, rfl, by decide +kernel, rfl, by decide +kernel, by decide +kernel⟩
theorem ok_nearest {T_nearest : Addr} (D : Def K mg "nearest" s_nearest (.ref T_nearest)) {C_NoNumber : Addr} {od_nearest : Option Addr} {n_nearest : Nat} {sl_nearest : Array (Option Value)} {tk_nearest : Tok} (lT_nearest : K.lookup T_nearest = some ⟨.type "tuple", od_nearest, .seq #[.int 1 tk_nearest] n_nearest, sl_nearest⟩) (z_abs : mg "abs" = none) (m_NoNumber : mg "NoNumber" = some (.ref C_NoNumber)) (X_NoNumber : XCls K C_NoNumber) (i_NoNumber : PySem.W.findIn K (.ref C_NoNumber) "__init__" = some (some (.builtin "ValueError.__init__"))) : Cal P w K mg base (CX1 P w) true 1 "nearest" ["top", "bottom"] [.int 1] (spNearest C_NoNumber) := by
 obtain ⟨f, fd, F, hm⟩ := D
 refine ⟨f, fd, _, F.okX sc_nearest (fun vs H Q E h => ?_) (fun cdv A outer s H vs Q E hr h => ?_), hm, F.kp, (F.bindsD (ds := []) lT_nearest 2 rfl fun _ _ _ _ _ _ us hl => match us, hl with | [_, _], _ => ⟨_, rfl, rfl⟩), (.cons ⟨_, rfl⟩ .nil), F.bindsD (ds := [.int 1 tk_nearest]) lT_nearest 1 rfl fun _ _ _ _ _ _ us hl => match us, hl with | [_], _ => ⟨_, rfl, rfl⟩⟩
 · obtain ⟨t, b, rfl, q1, q2⟩ := h
   rfl
 obtain ⟨t, b, rfl, q1, q2⟩ := h
 have nd := sc_nearest.nd
 refine ⟨_, (pqc (ps_if (pt_cmpR op_lt (pv 1) pqi (nomark _)) (pqo (ps_raise0 rfl xe_def rfl m_NoNumber X_NoNumber i_NoNumber (pcx pe_str pnx))) pss_nil)
   (pqc (ps_set (i := 2) nd rfl (Or.inl rfl) (pe_op op_fdivB (pe_op op_add (pe_op op_mulB pqi (pe_callB call_absN rfl z_abs bt_abs (pcx (pv 0) pnx))) (pv 1)) (pe_op op_mulB pqi (pv 1))))
   (pqc (ps_if (pt_cmpR op_lt (pv 0) pqi (nomark _)) (pqo (ps_ret (pe_un un_neg (pv 2)))) pss_nil)
   (pqo (ps_ret (pv 2)))))), ?_⟩
 refine ⟨_, rfl, _, _, rfl, rfl, _, rfl, ?_⟩
 refine dec2 (fun h => ?_) (fun h => ?_)
 · exact ⟨by decide, True.intro, q1 h⟩
 · have hb : 1 ≤ b := by omega
   obtain ⟨hb2, q⟩ := q2 hb
   refine ⟨_, rfl, t, rfl, _, _, rfl, rfl, .of_left (intBits_le_64 (by decide) (by decide)), _, rfl, _, _, rfl, rfl, _, rfl, _, _, rfl, rfl, .of_left (intBits_le_64 (by decide) (by decide)), _, _, rfl, rfl, log_of (by omega) (by omega) (by omega), ?_⟩
   refine ⟨_, rfl, _, _, rfl, rfl, _, rfl, ?_⟩
   refine dec2 (fun h1 => ?_) (fun h1 => ?_)
   · rw [show N13.nearZ t b = _ from if_pos h1] at q
     exact ⟨_, rfl, _, rfl, q⟩
   · rw [show N13.nearZ t b = _ from if_neg h1] at q
     exact ⟨_, rfl, q⟩
abbrev s_NoRate__init__ : Stmt := inClass (top 4) 0
theorem sc_NoRate__init__ : FnScope ["self", "coin", "day"] ["self", "coin", "day"] (defScope s_NoRate__init__) := ⟨rfl, rfl, rfl, by decide +kernel, rfl, by decide +kernel, by decide +kernel⟩
theorem ok_NoRate__init__ {C_NoRate : Addr} (X_NoRate : XCls K C_NoRate) (n_rcoin : NoAttr K C_NoRate "coin") (n_rday : NoAttr K C_NoRate "day") (D : DefX K C_NoRate "NoRate.__init__" s_NoRate__init__) : CalX P w K mg base true 1 C_NoRate ["self", "coin", "day"] (spXI2 C_NoRate) := by
 obtain ⟨f, fd, F, hfi, hfn⟩ := D
 refine ⟨f, fd, hfi, hfn, F.ok sc_NoRate__init__ (fun vs H Q E h => ?_) (fun cdv A outer s H vs Q E hr h => ?_), (F.binds fun _ _ _ _ _ _ us hl => match us, hl with | [_, _, _], _ => rfl)⟩
 · obtain ⟨x, c, r, rfl, hx, q⟩ := h
   rfl
 obtain ⟨x, c, r, rfl, hx, q⟩ := h
 have nd := sc_NoRate__init__.nd
 refine ⟨_, (pqc (ps_fldB (pv 0) (pv 1) rfl)
   (pqo (ps_fldB (pv 0) (pv 2) rfl))), ?_⟩
 refine ⟨_, rfl, _, rfl, x, C_NoRate, rfl, X_NoRate, n_rcoin, .inl ⟨hx, fun d hd hdx => ?_⟩⟩
 refine ⟨_, rfl, _, rfl, x, C_NoRate, rfl, X_NoRate, n_rday, .inr ⟨d, _, uqs, (by rw [uqn hdx]; exact uqs), (by show 1 < 1000; decide), ?_⟩⟩
 refine q d _ hd hdx uqs ?_ fun y o hy hyx => ?_
 · rw [uqn (Ne.symm hdx)]
   exact uqs
 · have hyd : y ≠ d := nqn hy hd
   rw [uqn hyd, uqn hyx, uqn hyd]
   exact hy
abbrev s_Unbalanced__init__ : Stmt := inClass (top 6) 0
theorem sc_Unbalanced__init__ : FnScope ["self", "book", "coin", "rest"] ["self", "book", "coin", "rest"] (defScope s_Unbalanced__init__) := ⟨rfl, rfl, rfl, by decide +kernel, rfl, by decide +kernel, by decide +kernel⟩
theorem ok_Unbalanced__init__ {C_Unbalanced : Addr} (X_Unbalanced : XCls K C_Unbalanced) (n_book : NoAttr K C_Unbalanced "book") (n_coin : NoAttr K C_Unbalanced "coin") (n_rest : NoAttr K C_Unbalanced "rest") (D : DefX K C_Unbalanced "Unbalanced.__init__" s_Unbalanced__init__) : CalX P w K mg base true 1 C_Unbalanced ["self", "book", "coin", "rest"] (spXI3 C_Unbalanced) := by
 obtain ⟨f, fd, F, hfi, hfn⟩ := D
 refine ⟨f, fd, hfi, hfn, F.ok sc_Unbalanced__init__ (fun vs H Q E h => ?_) (fun cdv A outer s H vs Q E hr h => ?_), (F.binds fun _ _ _ _ _ _ us hl => match us, hl with | [_, _, _, _], _ => rfl)⟩
 · obtain ⟨x, b, c, r, rfl, hx, q⟩ := h
   rfl
 obtain ⟨x, b, c, r, rfl, hx, q⟩ := h
 have nd := sc_Unbalanced__init__.nd
 refine ⟨_, (pqc (ps_fldB (pv 0) (pv 1) rfl)
   (pqc (ps_fldB (pv 0) (pv 2) rfl)
   (pqo (ps_fldB (pv 0) (pv 3) rfl)))), ?_⟩
 refine ⟨_, rfl, _, rfl, x, C_Unbalanced, rfl, X_Unbalanced, n_book, .inl ⟨hx, fun d hd hdx => ?_⟩⟩
 refine ⟨_, rfl, _, rfl, x, C_Unbalanced, rfl, X_Unbalanced, n_coin, .inr ⟨d, _, uqs, (by rw [uqn hdx]; exact uqs), (by show 1 < 1000; decide), ?_⟩⟩
 refine ⟨_, rfl, _, rfl, x, C_Unbalanced, rfl, X_Unbalanced, n_rest, .inr ⟨d, _, (by rw [uqn (Ne.symm hdx)]; exact uqs), uqs, f3_len b c r, ?_⟩⟩
 refine q d _ hd hdx uqs ?_ fun y o hy hyx => ?_
 · rw [uqn (Ne.symm hdx), uqn (Ne.symm hdx)]
   exact uqs
 · have hyd : y ≠ d := nqn hy hd
   rw [uqn hyd, uqn hyd, uqn hyx, uqn hyd]
   exact hy
abbrev s_Rates_rate : Stmt := inClass (top 21) 2
theorem sc_Rates_rate : FnScope ["self", "coin", "day", "days"] ["self", "coin", "day"] (defScope s_Rates_rate) := ⟨rfl, rfl, rfl, by decide +kernel, rfl, by decide +kernel, by decide +kernel⟩
theorem ok_Rates_rate {C_Rates : Addr} (D : DefM K C_Rates "rate" "Rates.rate" s_Rates_rate .none) {C_NoRate : Addr} (c_fraction : Cal P w K mg base (CX1 P w) true 2 "fraction" ["top", "bottom"] [.int 1] (spFrac C_NoNumber)) (c_NoRate__init__ : CalX P w K mg base true 1 C_NoRate ["self", "coin", "day"] (spXI2 C_NoRate)) (z_len : mg "len" = none) (z_max : mg "max" = none) (m_NoRate : mg "NoRate" = some (.ref C_NoRate)) (X_NoRate : XCls K C_NoRate) (cl_Rates : Cls K C_Rates) (n_told : NoAttr K C_Rates "told") (n_known : NoAttr K C_Rates "known") : CalM P w K mg base (CX1 P w) true 3 C_Rates "rate" ["self", "coin", "day"] [] (spRateE K C_Rates C_NoRate) := by
 obtain ⟨f, fd, F, hm⟩ := D
 obtain ⟨f_fraction, fd_fraction, d_fraction, G_fraction, m_fraction, k_fraction, b_fraction, v_fraction, b_fraction1⟩ := c_fraction
 obtain ⟨f_NoRate__init__, fd_NoRate__init__, i_NoRate, fn_NoRate, G_NoRate__init__, b_NoRate__init__⟩ := c_NoRate__init__
 refine ⟨f, fd, _, F.okX sc_Rates_rate (fun vs H Q E h => ?_) (fun cdv A outer s H vs Q E hr h => ?_), hm, (F.binds fun _ _ _ _ _ _ us hl => match us, hl with | [_, _, _], _ => rfl), .nil, F.binds fun _ _ _ _ _ _ us hl => match us, hl with | [_, _, _], _ => rfl⟩
 · obtain ⟨p, d, t, c, dy, kvs, rfl, R, q1, q2, q3⟩ := h
   rfl
 obtain ⟨p, d, t, c, dy, kvs, rfl, R, q1, q2, q3⟩ := h
 have nd := sc_Rates_rate.nd
 refine ⟨_, (pqc (ps_if (pt_cmpR op_eq (pv 1) (pe_fld (pv 0) rfl) (nomark _)) (pqo (ps_ret (pe_callR G_fraction (hr.mono (by decide)) rfl m_fraction k_fraction b_fraction1 v_fraction xe_def (pcx pqi pnx)))) pss_nil)
   (pqc (ps_setLCD [1, 2] (i := 3) nd rfl (Or.inl rfl) rfl (LcOk.free ["day", "coin"] rfl rfl (List.forall_mem_cons.mpr ⟨rfl, (List.forall_mem_cons.mpr ⟨rfl, (fun _ h => nomatch h)⟩)⟩) (by decide +kernel) rfl (by decide +kernel) rfl (by decide +kernel) (show (["key", "coin", "day"] : List Str).Nodup from by decide +kernel) (List.forall_mem_cons.mpr ⟨⟨_, rfl, rfl, rfl, by decide +kernel⟩, (List.forall_mem_cons.mpr ⟨⟨_, rfl, rfl, rfl, by decide +kernel⟩, (fun _ h => nomatch h)⟩)⟩)) (pe_fld (pv 0) rfl) (mono_fld (mono_var _)) (fun C s2 H2 fp xe => (PW.pt (pw_and (pt_cmpR op_eq (pe_ix ix_seqC (pv 0) pqi (fun _ _ => rfl)) (pv 1) (nomark _)) (pw_and1 (pt_cmpR op_le (pe_ix ix_seqC (pv 0) pqi (fun _ _ => rfl)) (pv 2) (nomark _)))))) (fun C s2 H2 fp xe => (pe_ix ix_seqC (pv 0) pqi (fun _ _ => rfl))))
   (pqc (ps_if (pt_cmpR op_eq (pe_callB call_len_seq rfl z_len bt_len (pcx (pv 3) pnx)) pqi (nomark _)) (pqo (ps_raiseI rfl xe_def rfl m_NoRate X_NoRate i_NoRate fn_NoRate G_NoRate__init__ (hr.mono (by decide)) b_NoRate__init__ (pcx (pv 1) (pcx (pv 2) pnx)))) pss_nil)
   (pqo (ps_ret (pe_dget (hu_of hr) (pe_fld (pv 0) rfl) (pe_tup (pcx (pv 1) (pcx (pe_callB (call_max hr) rfl z_max bt_max (pcx (pv 3) pnx)) pnx))) (fun _ _ => rfl))))))), ?_⟩
 obtain ⟨⟨dx, fs, hp, ht, hk, hno⟩, hd, hln, hks⟩ := R
 have hline : 600 ≤ sizeLine := by decide
 refine ⟨_, rfl, _, rfl, p, C_Rates, dx, fs, _, rfl, hp, cl_Rates, n_told, ht, rfl, _, rfl, ?_⟩
 refine dec2 (fun h => ?_) (fun h => ?_)
 · refine ⟨True.intro, _, _, rfl, (fun z => absurd z (by decide)), fun _ => ⟨by decide, fun r hr1 => ?_⟩⟩
   rw [show Int.fdiv 1 (N11.dF 1 1) = 1 by decide]
   exact q1 (V.str.inj h) r _ (squ hr1) uqs
 have hct : c ≠ t := fun z => h (congrArg V.str z)
 refine ⟨_, rfl, p, C_Rates, dx, fs, _, rfl, hp, cl_Rates, n_known, hk, d, kvs, fK c dy, (fun k => V.int (gI k)), rfl, hd, by omega, fun k hkm a Hx ha => ?_, fun l hl => ?_⟩
 · obtain ⟨c', d', rfl⟩ := hks k hkm
   have hT := SqT.of (K := K) (show Hx a = some (.tup [.str c', .int d']) from ha)
   refine ⟨_, rfl, .inr (.inl ⟨a, _, 0, _, rfl, rfl, hT, rfl, _, rfl, rfl, _, rfl, ?_⟩)⟩
   refine dec2 (fun h1 => ?_) (fun h1 => ?_)
   · refine ⟨_, rfl, .inr (.inl ⟨a, _, 1, _, rfl, rfl, hT, rfl, _, rfl, _, _, rfl, rfl, _, rfl, ?_⟩)⟩
     refine dec2 (fun h2 => ?_) (fun h2 => ?_)
     · refine ⟨_, rfl, .inr (.inl ⟨a, _, 1, _, rfl, rfl, hT, rfl, ?_, rfl, rfl⟩)⟩
       simp only [fK]
       rw [decide_eq_true h1, decide_eq_true h2]
       rfl
     · refine ⟨?_, rfl⟩
       simp only [fK]
       rw [decide_eq_false h2, Bool.and_false]
   · refine iteF ⟨?_, rfl⟩
     simp only [fK]
     rw [decide_eq_false h1, Bool.false_and]
 have el : ((kvs.map (·.1)).filter (fK c dy)).map (fun k => V.int (gI k)) = (daysOf c dy kvs).map V.int := by
   unfold daysOf
   rw [List.map_map]
   rfl
 rw [el]
 have e1 := squ (o := .lst ((daysOf c dy kvs).map V.int)) hl
 refine ⟨_, rfl, l, _, rfl, .inl (SqL.of uqs), rfl, _, rfl, ?_⟩
 refine dec2 (fun h0 => ?_) (fun h0 => ?_)
 · have hnil : daysOf c dy kvs = [] := by
     have := V.int.inj h0
     rw [List.length_map] at this
     exact List.length_eq_zero_iff.mp (by omega)
   exact ⟨_, rfl, _, rfl, (by show 2 ≤ sizeLine; decide), True.intro, fun x hx0 => ⟨x, _, _, rfl, uqs, fun e H' hd1 hdx g1 g2 keep => ⟨rfl, some e, g2, q2 hct hnil e _ (e1.trans (after_x hx0 keep)) (by show (if e = x then none else H' e) = _; rw [if_neg hdx]; exact g1)⟩⟩⟩
 have hl0 : 0 < (daysOf c dy kvs).length := by
   rcases Nat.eq_zero_or_pos (daysOf c dy kvs).length with z | z
   · exact absurd (congrArg V.int (show (((daysOf c dy kvs).map V.int).length : Int) = 0 by rw [List.length_map]; omega)) h0
   · exact z
 have hne : daysOf c dy kvs ≠ [] := fun z => by rw [z] at hl0; exact absurd hl0 (by decide)
 refine ⟨_, rfl, p, C_Rates, dx, fs, _, rfl, (e1 _ _ hp), cl_Rates, n_known, hk, _, rfl, _, rfl, l, _, rfl, SqL.of uqs, hl0, fun m hm hmx => ?_⟩
 obtain ⟨v, hv, q⟩ := q3 hct hne m hm hmx
 refine ⟨(by show 2 ≤ sizeLine; decide), fun tp htp => ?_⟩
 have e2 := squ (o := .tup [.str c, .int m]) htp
 have g := DGet.t (k := [Sum.inr c, Sum.inl m]) ((e1.trans e2) _ _ hd) (show (upd (upd H l (.lst ((daysOf c dy kvs).map V.int))) tp (.tup [.str c, .int m])) tp = some (.tup (([Sum.inr c, Sum.inl m] : List Key).map kV)) from uqs)
 rw [hv] at g
 exact ⟨d, v, rfl, g, q _ (e1.trans e2)⟩
abbrev s_Rates___init__ : Stmt := inClass (top 21) 0
theorem sc_Rates___init__ : FnScope ["self", "told"] ["self", "told"] (defScope s_Rates___init__) := ⟨rfl, rfl, rfl, by decide +kernel, rfl, by decide +kernel, by decide +kernel⟩
theorem ok_Rates___init__ {C_Rates : Addr} {T_Rates___init__ : Addr} (D : DefI K C_Rates "Rates.__init__" s_Rates___init__ (.ref T_Rates___init__)) {od_Rates___init__ : Option Addr} {n_Rates___init__ : Nat} {sl_Rates___init__ : Array (Option Value)} {tk_Rates___init__ : Tok} (lT_Rates___init__ : K.lookup T_Rates___init__ = some ⟨.type "tuple", od_Rates___init__, .seq #[.str "one" tk_Rates___init__] n_Rates___init__, sl_Rates___init__⟩) (cl_Rates : Cls K C_Rates) (n_told : NoAttr K C_Rates "told") (n_known : NoAttr K C_Rates "known") : CalI P w K mg base CX0 cm 1 C_Rates ["self", "told"] [.str "one"] (spInit K C_Rates) := by
 obtain ⟨f, fd, F, hm⟩ := D
 refine ⟨f, fd, _, F.ok sc_Rates___init__ (fun vs H Q E h => ?_) (fun cdv A outer s H vs Q E hr h => ?_), hm, (F.bindsD (ds := []) lT_Rates___init__ 2 rfl fun _ _ _ _ _ _ us hl => match us, hl with | [_, _], _ => ⟨_, rfl, rfl⟩), (.cons ⟨_, rfl⟩ .nil), F.bindsD (ds := [.str "one" tk_Rates___init__]) lT_Rates___init__ 1 rfl fun _ _ _ _ _ _ us hl => match us, hl with | [_], _ => ⟨_, rfl, rfl⟩⟩
 · obtain ⟨p, dx, t, rfl, hp, q⟩ := h
   rfl
 obtain ⟨p, dx, t, rfl, hp, q⟩ := h
 have nd := sc_Rates___init__.nd
 refine ⟨_, (pqc (ps_fld (pv 0) (pv 1) rfl)
   (pqo (ps_fld (pv 0) pe_dnewT rfl))), ?_⟩
 refine ⟨_, rfl, _, rfl, p, C_Rates, dx, [], rfl, hp, cl_Rates, n_told, (by show 0 < 1000; decide), fun d hd => ?_⟩
 have npd : p ≠ d := nqn uqs hd
 have hd0 : H d = none := by
   rw [uqn (Ne.symm npd)] at hd
   exact hd
 refine ⟨_, rfl, p, C_Rates, dx, _, rfl, (by rw [uqn npd]; exact uqs), cl_Rates, n_known, (by show 1 < 1000; decide), ?_⟩
 refine q d _ hd0 ⟨⟨dx, _, uqs, ?_, ?_, fun m hm => ?_⟩, ?_, by decide, fun k hk => nomatch hk⟩ fun b o e hb => ?_
 · rw [lookup_putF, if_neg tk_ne, lookup_putF, if_pos rfl]
 · rw [lookup_putF, if_pos rfl]
 · rw [lookup_putF, lookup_putF]
   have h1 : ¬ m = ("known" : Str) := by
     intro z
     subst z
     exact absurd hm (by decide +kernel)
   have h2 : ¬ m = ("told" : Str) := by
     intro z
     subst z
     exact absurd hm (by decide +kernel)
   rw [if_neg h1, if_neg h2]
   rfl
 · rw [uqn (Ne.symm npd), uqs]
 · rw [uqn hb, uqn (nqn e hd0), uqn hb]
   exact e
abbrev s_Rates_tell : Stmt := inClass (top 21) 1
theorem sc_Rates_tell : FnScope ["self", "coin", "day", "top", "bottom"] ["self", "coin", "day", "top", "bottom"] (defScope s_Rates_tell) := ⟨rfl, rfl, rfl, by decide +kernel, rfl, by decide +kernel, by decide +kernel⟩
theorem ok_Rates_tell {C_Rates : Addr} {T_Rates_tell : Addr} (D : DefM K C_Rates "tell" "Rates.tell" s_Rates_tell (.ref T_Rates_tell)) {od_Rates_tell : Option Addr} {n_Rates_tell : Nat} {sl_Rates_tell : Array (Option Value)} {tk_Rates_tell : Tok} (lT_Rates_tell : K.lookup T_Rates_tell = some ⟨.type "tuple", od_Rates_tell, .seq #[.int 1 tk_Rates_tell] n_Rates_tell, sl_Rates_tell⟩) (c_fraction : Cal P w K mg base (CX1 P w) true 2 "fraction" ["top", "bottom"] [.int 1] (spFrac C_NoNumber)) (cl_Rates : Cls K C_Rates) (n_told : NoAttr K C_Rates "told") (n_known : NoAttr K C_Rates "known") : CalM P w K mg base CX0 true 3 C_Rates "tell" ["self", "coin", "day", "top", "bottom"] [.int 1] (spTell K C_Rates) := by
 obtain ⟨f, fd, F, hm⟩ := D
 obtain ⟨f_fraction, fd_fraction, d_fraction, G_fraction, m_fraction, k_fraction, b_fraction, v_fraction, b_fraction1⟩ := c_fraction
 refine ⟨f, fd, _, F.ok sc_Rates_tell (fun vs H Q E h => ?_) (fun cdv A outer s H vs Q E hr h => ?_), hm, (F.bindsD (ds := []) lT_Rates_tell 5 rfl fun _ _ _ _ _ _ us hl => match us, hl with | [_, _, _, _, _], _ => ⟨_, rfl, rfl⟩), (.cons ⟨_, rfl⟩ .nil), F.bindsD (ds := [.int 1 tk_Rates_tell]) lT_Rates_tell 4 rfl fun _ _ _ _ _ _ us hl => match us, hl with | [_, _, _, _], _ => ⟨_, rfl, rfl⟩⟩
 · obtain ⟨p, d, t, c, dy, tp, bt, kvs, rfl, R, h1, h2, h3, hct, hval, hlen, q⟩ := h
   rfl
 obtain ⟨p, d, t, c, dy, tp, bt, kvs, rfl, R, h1, h2, h3, hct, hval, hlen, q⟩ := h
 have nd := sc_Rates_tell.nd
 refine ⟨_, (pqc (ps_if (PW.pt (pw_or (pt_cmpR op_lt (pv 3) pqi (nomark _)) (pw_or1 (pt_cmpR op_lt (pv 4) pqi (nomark _))))) (pqo ps_never) pss_nil)
   (pqc (ps_if (PW.pt (pw_or (pt_cmpR op_eq (pv 1) (pe_fld (pv 0) rfl) (nomark _)) (pw_or1 (pt_cmp (pc_din (hu_of hr) (pe_tup (pcx (pv 1) (pcx (pv 2) pnx))) (pe_fld (pv 0) rfl)))))) (pqo ps_never) pss_nil)
   (pqo (ps_dput (hu_of hr) (pe_fld (pv 0) rfl) (pe_tup (pcx (pv 1) (pcx (pv 2) pnx))) (pe_callR G_fraction (hr.mono (by decide)) rfl m_fraction k_fraction b_fraction Paired.nil xe_off (pcx (pv 3) (pcx (pv 4) pnx))) rfl)))), ?_⟩
 obtain ⟨⟨dx, fs, hp, ht, hk, hno⟩, hd, hln, hks⟩ := R
 have hline : 600 ≤ sizeLine := by decide
 refine ⟨_, rfl, _, _, rfl, rfl, _, rfl, decF (by omega) ?_⟩
 refine ⟨_, rfl, _, _, rfl, rfl, _, rfl, decF (by omega) ?_⟩
 refine ⟨_, rfl, _, rfl, p, C_Rates, dx, fs, _, rfl, hp, cl_Rates, n_told, ht, rfl, _, rfl, decF (fun z => hct (V.str.inj z)) ?_⟩
 refine ⟨_, rfl, _, rfl, (by show 2 ≤ sizeLine; decide), fun k1 hk1 => ?_⟩
 have e1 := squ (o := .tup [.str c, .int dy]) hk1
 have g := DGet.t (k := [Sum.inr c, Sum.inl dy]) (e1 _ _ hd) (show (upd H k1 (.tup [.str c, .int dy])) k1 = some (.tup (([Sum.inr c, Sum.inl dy] : List Key).map kV)) from uqs)
 rw [hval] at g
 refine ⟨_, rfl, p, C_Rates, dx, fs, _, rfl, (e1 _ _ hp), cl_Rates, n_known, hk, d, _, rfl, g, _, rfl, iteF ?_⟩
 refine ⟨_, rfl, _, rfl, True.intro, tp, bt, rfl, (fun z => absurd z (by omega)), fun _ => ⟨by omega, fun r hr1 => ?_⟩⟩
 have e2 := squ (o := .tup [.int (Int.fdiv tp (N11.dF tp bt)), .int (Int.fdiv bt (N11.dF tp bt))]) hr1
 refine ⟨_, rfl, p, C_Rates, dx, fs, _, rfl, ((e1.trans e2) _ _ hp), cl_Rates, n_known, hk, _, rfl, _, rfl, (by show 2 ≤ sizeLine; decide), fun k2 hk2 => ?_⟩
 have e3 := squ (o := .tup [.str c, .int dy]) hk2
 have e := (e1.trans e2).trans e3
 refine ⟨d, _, rfl, DPut.t (k := [Sum.inr c, Sum.inl dy]) (e _ _ hd) (show (upd _ k2 (.tup [.str c, .int dy])) k2 = some (.tup (([Sum.inr c, Sum.inl dy] : List Key).map kV)) from uqs) (by omega), ?_⟩
 rw [putK_new _ hval]
 have nr : r ≠ d := ne_of_none_r (e1 _ _ hd) hr1
 refine q r _ ?_ ⟨⟨dx, fs, ?_, ht, hk, hno⟩, uqs, by rw [List.length_append]; show kvs.length + 1 ≤ 500; omega, fun k hkm => ?_⟩ fun b o eb hb => ?_
 · rw [uqn nr]
   exact e3 _ _ uqs
 · rw [uqn (ne_of hp hd (by intro z; cases z))]
   exact e _ _ hp
 · rw [List.map_append] at hkm
   rcases List.mem_append.mp hkm with m | m
   · exact hks k m
   · exact ⟨c, dy, List.mem_singleton.mp m⟩
 · rw [uqn hb]
   exact e _ _ eb
abbrev s_Rates_worth : Stmt := inClass (top 21) 3
theorem sc_Rates_worth : FnScope ["self", "amount", "coin", "day", "price"] ["self", "amount", "coin", "day"] (defScope s_Rates_worth) := ⟨rfl, rfl, rfl, by decide +kernel, rfl, by decide +kernel, by decide +kernel⟩
theorem ok_Rates_worth {C_Rates : Addr} (D : DefM K C_Rates "worth" "Rates.worth" s_Rates_worth .none) {C_NoRate : Addr} (c_Rates_rate : CalM P w K mg base (CX1 P w) true 3 C_Rates "rate" ["self", "coin", "day"] [] (spRateE K C_Rates C_NoRate)) (c_nearest : Cal P w K mg base (CX1 P w) true 1 "nearest" ["top", "bottom"] [.int 1] (spNearest C_NoNumber)) (cl_Rates : Cls K C_Rates) (n_told : NoAttr K C_Rates "told") (n_known : NoAttr K C_Rates "known") : CalM P w K mg base (CX1 P w) true 4 C_Rates "worth" ["self", "amount", "coin", "day"] [] (SpWE K C_Rates C_NoRate) := by
 obtain ⟨f, fd, F, hm⟩ := D
 obtain ⟨f_Rates_rate, fd_Rates_rate, d_Rates_rate, G_Rates_rate, m_Rates_rate, b_Rates_rate, v_Rates_rate, b_Rates_rate1⟩ := c_Rates_rate
 obtain ⟨f_nearest, fd_nearest, d_nearest, G_nearest, m_nearest, k_nearest, b_nearest, v_nearest, b_nearest1⟩ := c_nearest
 refine ⟨f, fd, _, F.okX sc_Rates_worth (fun vs H Q E h => ?_) (fun cdv A outer s H vs Q E hr h => ?_), hm, (F.binds fun _ _ _ _ _ _ us hl => match us, hl with | [_, _, _, _], _ => rfl), .nil, F.binds fun _ _ _ _ _ _ us hl => match us, hl with | [_, _, _, _], _ => rfl⟩
 · obtain ⟨⟨p, d, t, c, am, dy, kvs, rfl, R, ha, q1, q2, q3⟩⟩ := h
   rfl
 obtain ⟨⟨p, d, t, c, am, dy, kvs, rfl, R, ha, q1, q2, q3⟩⟩ := h
 have nd := sc_Rates_worth.nd
 refine ⟨_, (pqc (ps_set (i := 4) nd rfl (Or.inl rfl) (pe_methR (pv 0) cl_Rates m_Rates_rate G_Rates_rate (hr.mono (by decide)) b_Rates_rate Paired.nil xe_def (pcx (pv 2) (pcx (pv 3) pnx))))
   (pqo (ps_ret (pe_callR G_nearest (hr.mono (by decide)) rfl m_nearest k_nearest b_nearest Paired.nil xe_def (pcx (pe_op op_mulB (pv 1) (pe_ix ix_seq (pv 4) pqi (fun _ _ => rfl))) (pcx (pe_ix ix_seq (pv 4) pqi (fun _ _ => rfl)) pnx)))))), ?_⟩
 obtain ⟨dx, fs, hp, ht, hk, hno⟩ := R.ob
 refine ⟨_, rfl, p, dx, fs, rfl, hp, hno "rate" (by decide +kernel), _, rfl, _, rfl, True.intro, p, d, t, c, dy, kvs, rfl, R, (fun z r H' e h => ?_), q2, fun z hd m hm hmx => ?_⟩
 · have hT := SqT.of (K := K) h
   exact ⟨_, rfl, _, rfl, .inr (.inl ⟨r, _, 0, _, rfl, rfl, hT, rfl, _, _, rfl, rfl, mul_of (by omega) (by omega) (by omega) (by omega), _, rfl, .inr (.inl ⟨r, _, 1, _, rfl, rfl, hT, rfl, True.intro, _, _, rfl, (fun w => absurd w (by decide)), fun _ => ⟨by decide, q1 z H' e⟩⟩)⟩)⟩
 · obtain ⟨r, x, y, hv, hr1, x1, y1, y2, q⟩ := q3 z hd m hm hmx
   refine ⟨.ref r, hv, fun H' e => ?_⟩
   have hT := SqT.of (K := K) (e _ _ hr1)
   exact ⟨_, rfl, _, rfl, .inr (.inl ⟨r, _, 0, _, rfl, rfl, hT, rfl, _, _, rfl, rfl, mul_of (by omega) (by omega) (by omega) (by omega), _, rfl, .inr (.inl ⟨r, _, 1, _, rfl, rfl, hT, rfl, True.intro, _, _, rfl, (fun w => absurd w (by omega)), fun _ => ⟨by omega, q H' e⟩⟩)⟩)⟩
theorem sc_rests_of : FnScope ["sides", "rests", "firm", "account", "coin", "amount"] ["sides"] (defScope s_rests_of) := ⟨rfl, rfl, rfl, by decide +kernel, rfl, by decide +kernel, by decide +kernel⟩
theorem ok_rests_of (D : Def K mg "rests_of" s_rests_of .none) (z_list : mg "list" = none) : Cal P w K mg base CX0 true 1 "rests_of" ["sides"] [] spRests := by
 obtain ⟨f, fd, F, hm⟩ := D
 refine ⟨f, fd, _, F.ok sc_rests_of (fun vs H Q E h => ?_) (fun cdv A outer s H vs Q E hr h => ?_), hm, F.kp, (F.binds fun _ _ _ _ _ _ us hl => match us, hl with | [_], _ => rfl), .nil, F.binds fun _ _ _ _ _ _ us hl => match us, hl with | [_], _ => rfl⟩
 · obtain ⟨l, L, rfl, hl, hL, hlen, q⟩ := h
   rfl
 obtain ⟨l, L, rfl, hl, hL, hlen, q⟩ := h
 have nd := sc_rests_of.nd
 refine ⟨_, (pqc (ps_set (i := 1) nd rfl (Or.inl rfl) pe_dnewK)
   (pqc (ps_for PassesOwn.never rfl (pi_list (pv 0)) (pg_tup rfl (pgs_cons (pg_name (i := 2) nd rfl (Or.inl rfl)) (pgs_cons (pg_name (i := 3) nd rfl (Or.inl rfl)) (pgs_cons (pg_name (i := 4) nd rfl (Or.inl rfl)) (pgs_cons (pg_name (i := 5) nd rfl (Or.inl rfl)) pgs_nil))))) (pqo (ps_dput (hu_of hr) (pv 1) (pv 4) (pe_op op_add (pe_dget2 (hu_of hr) (pv 1) (pv 4) pqi ⟨rfl, rfl, rfl, rfl⟩) (pv 5)) rfl)))
   (pqo (ps_ret (pe_callTy (call_list_items rfl) rfl z_list bt_list (pcx (pe_bm0 PySem.F.plainAttrs_dict PySem.F.slot_dict_items PySem.F.type_dict_items mt_items (pv 1)) pnx)))))), ?_⟩
 have hline : 600 ≤ sizeLine := by decide
 refine fun d hd => ?_
 have e1 := squ (o := .dK []) hd
 refine ⟨_, rfl, l, rfl, ⟨_, SqL.of (e1 _ _ hl)⟩, ?_⟩
 refine for_list (xs := rfs L) (fun i σ H' => ∃ (o2 o3 o4 o5 : Option V), σ = [some (.ref l), some (.ref d), o2, o3, o4, o5] ∧ Same H H' ∧ H' d = some (.dK (kvG kS (prs (L.take i))))) ⟨_, _, _, _, rfl, e1, uqs⟩ ?_ ?_ ?_
 · rintro i σ H1 hi ⟨o2, o3, o4, o5, rfl, e, _⟩
   exact SqL.of (e _ _ hl)
 · rintro i x σ H1 hx ⟨o2, o3, o4, o5, rfl, e, hdd⟩
   obtain ⟨z, hz, rfl⟩ := rfs_at hx
   have hzz := e _ _ (hL z (List.mem_of_getElem? hz))
   have hkl := kvG_len kS (prs (L.take i))
   rw [prs_len, List.length_take] at hkl
   refine ⟨z.1, _, rfl, SqT.of hzz, rfl, _, _, rfl, _, _, rfl, _, _, rfl, _, _, rfl, rfl, ?_⟩
   refine ⟨_, rfl, d, rfl, .inl ⟨_, .inl hdd⟩, _, rfl, _, DGet.k (k := kS z.2.2.2.1) hdd, _, rfl, _, _, kvG_get kS kS_inj _ _, rfl, _, rfl, _, rfl, d, _, rfl, DPut.k (k := kS z.2.2.2.1) hdd (by omega), ?_⟩
   refine ⟨_, _, _, _, rfl, same_set e hd, ?_⟩
   rw [uqs, kvG_put kS kS_inj, prs_snoc hz]
 rintro σ H1 ⟨o2, o3, o4, o5, rfl, e, hdd⟩
 rw [rfs_len, List.take_length] at hdd
 refine ⟨_, rfl, .inr (.inr (.inl ⟨rfl, .inl ⟨_, hdd⟩⟩)), d, _, rfl, rfl, hdd, fun v hv => ?_⟩
 have e2 := squ (o := ivw v d) hv
 refine ⟨v, d, _, rfl, uqs, e2 _ _ hdd, fun p as H' e3 hp0 hp hal hpr => ?_⟩
 obtain ⟨z1, z2⟩ := kv_zip as (prs L) hal
 refine q p (as.zip (N21.rs (prs L))) H' ((e.trans e2).trans e3) ((e.trans e2).free hp0) (by rw [z1]; exact hp) z2 fun z hz => ?_
 obtain ⟨j, hj⟩ := List.mem_iff_getElem?.mp hz
 have hj1 : as[j]? = some z.1 := by
   have := congrArg (Option.map Prod.fst) hj
   rw [← List.getElem?_map] at this
   rw [List.map_fst_zip (by rw [hal]; unfold kvG N21.rs; rw [List.length_map, List.length_map]; exact Nat.le_refl _)] at this
   exact this
 have hj2 : (N21.rs (prs L))[j]? = some z.2 := by
   have := congrArg (Option.map Prod.snd) hj
   rw [← List.getElem?_map] at this
   rw [List.map_snd_zip (by rw [hal]; unfold kvG N21.rs; rw [List.length_map, List.length_map]; exact Nat.le_refl _)] at this
   exact this
 have hj3 : (kvG kS (prs L))[j]? = some (kS z.2.1, V.int z.2.2) := by
   unfold N21.rs at hj2
   unfold kvG
   rw [List.getElem?_map] at hj2 ⊢
   cases h : (N21.firsts ((prs L).map (·.1)))[j]? with
   | none => rw [h] at hj2; cases hj2
   | some c =>
     rw [h] at hj2
     rw [← Option.some.inj hj2]
     rfl
 exact hpr j z.1 _ hj1 hj3
theorem sc_half_rests : FnScope ["sides", "rests", "firm", "account", "coin", "amount"] ["sides"] (defScope s_half_rests) := ⟨rfl, rfl, rfl, by decide +kernel, rfl, by decide +kernel, by decide +kernel⟩
theorem ok_half_rests (D : Def K mg "half_rests" s_half_rests .none) : Cal P w K mg base CX0 true 1 "half_rests" ["sides"] [] spHalf := by
 obtain ⟨f, fd, F, hm⟩ := D
 refine ⟨f, fd, _, F.ok sc_half_rests (fun vs H Q E h => ?_) (fun cdv A outer s H vs Q E hr h => ?_), hm, F.kp, (F.binds fun _ _ _ _ _ _ us hl => match us, hl with | [_], _ => rfl), .nil, F.binds fun _ _ _ _ _ _ us hl => match us, hl with | [_], _ => rfl⟩
 · obtain ⟨l, L, rfl, hl, hL, hlen, q⟩ := h
   rfl
 obtain ⟨l, L, rfl, hl, hL, hlen, q⟩ := h
 have nd := sc_half_rests.nd
 refine ⟨_, (pqc (ps_set (i := 1) nd rfl (Or.inl rfl) pe_dnewT)
   (pqc (ps_for PassesOwn.never rfl (pi_list (pv 0)) (pg_tup rfl (pgs_cons (pg_name (i := 2) nd rfl (Or.inl rfl)) (pgs_cons (pg_name (i := 3) nd rfl (Or.inl rfl)) (pgs_cons (pg_name (i := 4) nd rfl (Or.inl rfl)) (pgs_cons (pg_name (i := 5) nd rfl (Or.inl rfl)) pgs_nil))))) (pqo (ps_dput (hu_of hr) (pv 1) (pe_tup (pcx (pv 2) (pcx (pv 4) pnx))) (pe_op op_add (pe_dget2 (hu_of hr) (pv 1) (pe_tup (pcx (pv 2) (pcx (pv 4) pnx))) pqi ⟨rfl, rfl, rfl, rfl⟩) (pv 5)) rfl)))
   (pqo (ps_ret (pv 1))))), ?_⟩
 have hline : 600 ≤ sizeLine := by decide
 refine fun d hd => ?_
 have e1 := squ (o := .dT []) hd
 refine ⟨_, rfl, l, rfl, ⟨_, SqL.of (e1 _ _ hl)⟩, ?_⟩
 refine for_list (xs := rfs L) (fun i σ H' => ∃ (o2 o3 o4 o5 : Option V), σ = [some (.ref l), some (.ref d), o2, o3, o4, o5] ∧ Same H H' ∧ H' d = some (.dT (kvG kT (p2 (L.take i))))) ⟨_, _, _, _, rfl, e1, uqs⟩ ?_ ?_ ?_
 · rintro i σ H1 hi ⟨o2, o3, o4, o5, rfl, e, _⟩
   exact SqL.of (e _ _ hl)
 · rintro i x σ H1 hx ⟨o2, o3, o4, o5, rfl, e, hdd⟩
   obtain ⟨z, hz, rfl⟩ := rfs_at hx
   have hzz := e _ _ (hL z (List.mem_of_getElem? hz))
   have hkl := kvG_len kT (p2 (L.take i))
   rw [p2_len, List.length_take] at hkl
   refine ⟨z.1, _, rfl, SqT.of hzz, rfl, _, _, rfl, _, _, rfl, _, _, rfl, _, _, rfl, rfl, ?_⟩
   refine ⟨_, rfl, d, rfl, .inr ⟨_, .inl hdd⟩, _, rfl, _, rfl, (by show 2 ≤ sizeLine; decide), fun k1 hk1 => ?_⟩
   have f1 := squ (o := .tup [.str z.2.1, .str z.2.2.2.1]) hk1
   refine ⟨_, DGet.t (k := kT (z.2.1, z.2.2.2.1)) (f1 _ _ hdd) (show (upd H1 k1 (.tup [.str z.2.1, .str z.2.2.2.1])) k1 = some (.tup ((kT (z.2.1, z.2.2.2.1)).map kV)) from uqs), _, rfl, _, _, kvG_get kT kT_inj _ _, rfl, _, rfl, _, rfl, _, rfl, (by show 2 ≤ sizeLine; decide), fun k2 hk2 => ?_⟩
   have f2 := squ (o := .tup [.str z.2.1, .str z.2.2.2.1]) hk2
   have f12 := f1.trans f2
   refine ⟨d, _, rfl, DPut.t (k := kT (z.2.1, z.2.2.2.1)) (f12 _ _ hdd) (show (upd _ k2 (.tup [.str z.2.1, .str z.2.2.2.1])) k2 = some (.tup ((kT (z.2.1, z.2.2.2.1)).map kV)) from uqs) (by omega), ?_⟩
   refine ⟨_, _, _, _, rfl, same_set (e.trans f12) hd, ?_⟩
   rw [uqs, kvG_put kT kT_inj, p2_snoc hz]
 rintro σ H1 ⟨o2, o3, o4, o5, rfl, e, hdd⟩
 rw [rfs_len, List.take_length] at hdd
 exact ⟨_, rfl, q d _ e hdd⟩
theorem sc_firms_in : FnScope ["sides"] ["sides"] (defScope s_firms_in) := ⟨rfl, rfl, rfl, by decide +kernel, rfl, by decide +kernel, by decide +kernel⟩
theorem ok_firms_in (D : Def K mg "firms_in" s_firms_in .none) (z_list : mg "list" = none) (z_dict : mg "dict" = none) : Cal P w K mg base CX0 true 1 "firms_in" ["sides"] [] spFirmsIn := by
 obtain ⟨f, fd, F, hm⟩ := D
 refine ⟨f, fd, _, F.ok sc_firms_in (fun vs H Q E h => ?_) (fun cdv A outer s H vs Q E hr h => ?_), hm, F.kp, (F.binds fun _ _ _ _ _ _ us hl => match us, hl with | [_], _ => rfl), .nil, F.binds fun _ _ _ _ _ _ us hl => match us, hl with | [_], _ => rfl⟩
 · obtain ⟨l, L, rfl, hl, hL, hlen, q⟩ := h
   rfl
 obtain ⟨l, L, rfl, hl, hL, hlen, q⟩ := h
 have nd := sc_firms_in.nd
 refine ⟨_, (pqo (ps_ret (pe_callTy (call_list_dict rfl) rfl z_list bt_list (pcx (pe_callTy (call_dict_of rfl) rfl z_dict bt_dict (pcx (pe_lc [] rfl (LcOk.plain (by decide +kernel) (by decide +kernel) rfl (by decide +kernel) rfl) (pi_list (pv 0)) (fun C s2 H2 fp xe => (pe_tup (pcx (pe_ix ix_seqC (pv 0) pqi (fun _ _ => rfl)) (pcx pe_bl pnx))))) pnx)) pnx)))), ?_⟩
 have hline : 10 ^ 6 ≤ sizeLine := by decide
 refine ⟨_, rfl, l, rfl, ⟨_, SqL.of hl⟩, ?_⟩
 refine lc_list (xs := rfs L) (fun i ys H' => ∃ T : List (Addr × Key × V), ys = T.map (fun y => V.ref y.1) ∧ T.map (·.2) = ((L.take i).map (·.2.1)).map (fun c => ((Sum.inr c : Key), V.bl true)) ∧ Same H H' ∧ ∀ y ∈ T, H' y.1 = some (.tup [kV y.2.1, y.2.2])) ⟨[], rfl, rfl, Same.refl _, fun y hy => nomatch hy⟩ (by rw [rfs_len]; omega) ?_ ?_ ?_
 · rintro i ys H1 hi ⟨T, rfl, hT, e, _⟩
   refine ⟨SqL.of (e _ _ hl), ?_⟩
   have := congrArg List.length hT
   rw [List.length_map, List.length_map, List.length_map, List.length_take] at this
   rw [rfs_len] at hi
   rw [List.length_map]
   omega
 · rintro i x ys H1 hx ⟨T, rfl, hT, e, ht⟩
   obtain ⟨z, hz, rfl⟩ := rfs_at hx
   have hzz := e _ _ (hL z (List.mem_of_getElem? hz))
   refine ⟨_, rfl, .inr (.inl ⟨z.1, _, 0, _, rfl, rfl, SqT.of hzz, rfl, (by show 2 ≤ sizeLine; decide), fun tp htp => ?_⟩)⟩
   have f1 := squ (o := .tup [.str z.2.1, .bl true]) htp
   refine ⟨T ++ [(tp, Sum.inr z.2.1, .bl true)], by rw [List.map_append]; rfl, ?_, e.trans f1, fun y hy => ?_⟩
   · rw [List.map_append, hT, List.take_succ, hz, List.map_append, List.map_append]
     rfl
   · rcases List.mem_append.mp hy with w | w
     · exact f1 _ _ (ht y w)
     · rw [List.mem_singleton.mp w]
       exact uqs
 rintro ys H1 ⟨T, rfl, hT, e, ht⟩ l2 hl2
 rw [rfs_len, List.take_length] at hT
 have f1 := squ (o := .lst (T.map (fun y => V.ref y.1))) hl2
 have hTl : T.length = L.length := by
   have := congrArg List.length hT
   rw [List.length_map, List.length_map, List.length_map] at this
   exact this
 refine ⟨l2, T, rfl, uqs, by omega, (fun y hy => f1 _ _ (ht y hy)), fun d hd => ?_⟩
 have f2 := squ (o := .dK (putAll [] (T.map (·.2)))) hd
 refine ⟨d, _, rfl, uqs, fun p hp => ?_⟩
 have f3 := squ (o := .lst ((putAll [] (T.map (·.2))).map fun kv => kV kv.1)) hp
 refine q p _ (((e.trans f1).trans f2).trans f3) ?_
 rw [uqs, hT]
 have h := put_firsts (L.map (·.2.1)) []
 rw [List.map_nil] at h
 rw [h, List.map_map]
 rfl
theorem sc_dues_added : FnScope ["sides", "coins", "firms", "rests", "added", "firm", "coin", "rest"] ["sides", "coins"] (defScope s_dues_added) := ⟨rfl, rfl, rfl, by decide +kernel, rfl, by decide +kernel, by decide +kernel⟩
theorem ok_dues_added (D : Def K mg "dues_added" s_dues_added .none) (c_firms_in : Cal P w K mg base CX0 true 1 "firms_in" ["sides"] [] spFirmsIn) (c_half_rests : Cal P w K mg base CX0 true 1 "half_rests" ["sides"] [] spHalf) : Cal P w K mg base CX0 true 2 "dues_added" ["sides", "coins"] [] spAdd := by
 obtain ⟨f, fd, F, hm⟩ := D
 obtain ⟨f_firms_in, fd_firms_in, d_firms_in, G_firms_in, m_firms_in, k_firms_in, b_firms_in, v_firms_in, b_firms_in1⟩ := c_firms_in
 obtain ⟨f_half_rests, fd_half_rests, d_half_rests, G_half_rests, m_half_rests, k_half_rests, b_half_rests, v_half_rests, b_half_rests1⟩ := c_half_rests
 refine ⟨f, fd, _, F.ok sc_dues_added (fun vs H Q E h => ?_) (fun cdv A outer s H vs Q E hr h => ?_), hm, F.kp, (F.binds fun _ _ _ _ _ _ us hl => match us, hl with | [_, _], _ => rfl), .nil, F.binds fun _ _ _ _ _ _ us hl => match us, hl with | [_, _], _ => rfl⟩
 · obtain ⟨l, cl, L, cs, rfl, hl, hL, hlen, hLt, hc, hcs, q⟩ := h
   rfl
 obtain ⟨l, cl, L, cs, rfl, hl, hL, hlen, hLt, hc, hcs, q⟩ := h
 have nd := sc_dues_added.nd
 refine ⟨_, (pqc (ps_set (i := 2) nd rfl (Or.inl rfl) (pe_call G_firms_in (hr.mono (by decide)) rfl m_firms_in k_firms_in b_firms_in Paired.nil pass0 (pcx (pv 0) pnx)))
   (pqc (ps_set (i := 3) nd rfl (Or.inl rfl) (pe_call G_half_rests (hr.mono (by decide)) rfl m_half_rests k_half_rests b_half_rests Paired.nil pass0 (pcx (pv 0) pnx)))
   (pqc (ps_set (i := 4) nd rfl (Or.inl rfl) (pe_lst pnx))
   (pqc (ps_for PassesOwn.never rfl (pi_list (pe_slice sl_list (pv 2) (po_some pqi) po_none)) (pg_name (i := 5) nd rfl (Or.inl rfl)) (pqo (ps_for PassesOwn.never rfl (pi_list (pv 1)) (pg_name (i := 6) nd rfl (Or.inl rfl)) (pqc (ps_set (i := 7) nd rfl (Or.inl rfl) (pe_dget2 (hu_of hr) (pv 3) (pe_tup (pcx (pv 5) (pcx (pv 6) pnx))) pqi ⟨rfl, rfl, rfl, rfl⟩))
   (pqo (ps_if (pt_cmpR op_ne (pv 7) pqi (nomark _)) (pqc (ps_expr (pe_bm PySem.F.plainAttrs_list PySem.F.slot_list_append PySem.F.type_list_append mt_append (pv 4) (pcx (pe_tup (pcx (pv 5) (pcx (pe_op op_add_str pe_str (pe_ix ix_seq (pv 2) pqi (fun _ _ => rfl))) (pcx (pv 6) (pcx (pe_un un_neg (pv 7)) pnx))))) pnx)))
   (pqo (ps_expr (pe_bm PySem.F.plainAttrs_list PySem.F.slot_list_append PySem.F.type_list_append mt_append (pv 4) (pcx (pe_tup (pcx (pe_ix ix_seq (pv 2) pqi (fun _ _ => rfl)) (pcx (pe_op op_add_str pe_str (pv 5)) (pcx (pv 6) (pcx (pv 7) pnx))))) pnx))))) pss_nil))))))
   (pqo (ps_ret (pv 4))))))), ?_⟩
 have hline : 10 ^ 6 ≤ sizeLine := by decide
 refine ⟨_, rfl, l, L, rfl, hl, hL, hlen, fun fp H1 e1 hfp => ?_⟩
 refine ⟨_, rfl, l, L, rfl, e1 _ _ hl, hL.same e1, hlen, fun d H2 e2 hd => ?_⟩
 have e12 := e1.trans e2
 have hf2 := e2 _ _ hfp
 have hFl := frm_len L
 refine ⟨(by show 0 ≤ sizeLine; decide), fun p hp => ?_⟩
 have e3 := squ (o := .lst []) hp
 refine ⟨_, rfl, _, rfl, fp, _, rfl, SqL.of (e3 _ _ hf2), fun sl hsl => ⟨sl, rfl, ⟨_, SqL.of uqs⟩, ?_⟩⟩
 rw [cut1]
 have nps : p ≠ sl := nqn uqs hsl
 have e4 := squ (o := .lst (((frm L).drop 1).map V.str)) hsl
 have ldr : (((frm L).drop 1).map V.str).length ≤ 60 := by rw [List.length_map, List.length_drop]; omega
 refine for_list (xs := ((frm L).drop 1).map V.str) (fun i σ H' => ∃ (o5 o6 o7 : Option V) (D : List Sd), σ = [some (.ref l), some (.ref cl), some (.ref fp), some (.ref d), some (.ref p), o5, o6, o7] ∧ Same H2 H' ∧ H' sl = some (.lst (((frm L).drop 1).map V.str)) ∧ H' p = some (.lst (rfs D)) ∧ RT H' D ∧ vls D = N22.dues due ((frm L).headD "") (tf L) (((frm L).drop 1).take i) cs ∧ D.length ≤ 120 * i) ⟨_, _, _, [], rfl, e3.trans e4, uqs, e4 _ _ uqs, (fun z hz => nomatch hz), rfl, Nat.le_refl _⟩ ?_ ?_ ?_
 · rintro i σ H3 hi ⟨o5, o6, o7, D, rfl, e, hs, _⟩
   exact SqL.of hs
 · rintro i x σ H3 hx ⟨o5, o6, o7, D, rfl, e, hs, hpp, hD, hv, hDl⟩
   have hi60 : i < 60 := by
     have := (List.getElem?_eq_some_iff.mp hx).1
     omega
   obtain ⟨f, hf, rfl⟩ := strs_at hx
   have hcl := e _ _ (e12 _ _ hc)
   obtain ⟨s0, T0, hFs⟩ : ∃ s0 T0, frm L = s0 :: T0 := by
     cases h : frm L with
     | nil => rw [h] at hf; simp at hf
     | cons a r => exact ⟨a, r, rfl⟩
   have hs0 : atI ((frm L).map V.str) 0 = some (.str ((frm L).headD "")) := by
     rw [hFs]
     show atI ((s0 :: T0).map V.str) ((0 : Nat) : Int) = _
     exact atI_nat rfl
   have hsL : Let ((frm L).headD "") := by
     obtain ⟨z, hz, ez⟩ := frm_mem (L := L) (f := (frm L).headD "") (by rw [hFs]; exact List.mem_cons_self)
     rw [← ez]
     exact hLt z hz
   have hfL : Let f := by
     obtain ⟨z, hz, ez⟩ := frm_mem (L := L) (f := f) (List.mem_of_mem_drop (List.mem_of_getElem? hf))
     rw [← ez]
     exact hLt z hz
   refine ⟨_, rfl, cl, rfl, ⟨_, SqL.of hcl⟩, ?_⟩
   refine for_list (xs := cs.map V.str) (fun j σ H' => ∃ (o6 o7 : Option V) (D : List Sd), σ = [some (.ref l), some (.ref cl), some (.ref fp), some (.ref d), some (.ref p), some (.str f), o6, o7] ∧ Same H2 H' ∧ H' sl = some (.lst (((frm L).drop 1).map V.str)) ∧ H' p = some (.lst (rfs D)) ∧ RT H' D ∧ vls D = N22.dues due ((frm L).headD "") (tf L) (((frm L).drop 1).take i) cs ++ (cs.take j).flatMap (N22.oneDue due ((frm L).headD "") (tf L) f) ∧ D.length ≤ 120 * i + 2 * j) ⟨_, _, D, rfl, e, hs, hpp, hD, by rw [hv]; simp, by omega⟩ ?_ ?_ ?_
   · rintro j σ H4 hj ⟨o6, o7, D, rfl, e', _⟩
     exact SqL.of (e' _ _ (e12 _ _ hc))
   · clear e hs hpp hD hv hDl hcl
     rintro j x σ H4 hx2 ⟨o6, o7, D, rfl, e, hs, hpp, hD, hv, hDl⟩
     have hj60 : j < 60 := by
       have := (List.getElem?_eq_some_iff.mp hx2).1
       rw [List.length_map] at this
       omega
     obtain ⟨c, hcj, rfl⟩ := strs_at hx2
     have hdd := e _ _ hd
     refine ⟨_, rfl, d, rfl, .inr ⟨_, .inl hdd⟩, _, rfl, _, rfl, (by show 2 ≤ sizeLine; decide), fun k1 hk1 => ?_⟩
     have f1 := squ (o := .tup [.str f, .str c]) hk1
     refine ⟨_, DGet.t (k := kT (f, c)) (f1 _ _ hdd) (show (upd H4 k1 (.tup [.str f, .str c])) k1 = some (.tup ((kT (f, c)).map kV)) from uqs), ?_⟩
     rw [kvG_get kT kT_inj, tot_p2]
     have e1' := e.trans f1
     have hs1 := f1 _ _ hs
     have hp1 := f1 _ _ hpp
     have hD1 := hD.same f1
     refine ⟨_, rfl, rfl, _, rfl, ?_⟩
     refine ndec2 (fun hne => ?_) (fun hz => ?_)
     · have hne' : tf L f c ≠ 0 := fun z => hne (congrArg V.int z)
       have hfp1 := e1' _ _ hf2
       refine ⟨_, rfl, .inl ⟨rfl, _, SqL.of hp1⟩, _, rfl, _, rfl, .inl ⟨fp, _, 0, _, rfl, rfl, SqL.of hfp1, hs0, _, _, rfl, rfl, due5 hsL.2, _, rfl, _, rfl, _, rfl, (by show 4 ≤ sizeLine; decide), fun t1 ht1 => ?_⟩⟩
       have f2 := squ (o := .tup [.str f, .str (due ((frm L).headD "")), .str c, .int (-tf L f c)]) ht1
       refine ⟨p, _, _, rfl, rfl, f2 _ _ hp1, (by rw [rfs_len]; omega), ?_⟩
       have e2' := same_set (o := .lst (rfs D ++ [.ref t1])) (e1'.trans f2) hp
       have hp2 : (upd (upd (upd H4 k1 (.tup [.str f, .str c])) t1 (.tup [.str f, .str (due ((frm L).headD "")), .str c, .int (-tf L f c)])) p (.lst (rfs D ++ [.ref t1]))) p = some (.lst (rfs D ++ [.ref t1])) := uqs
       have ht1' : (upd (upd (upd H4 k1 (.tup [.str f, .str c])) t1 (.tup [.str f, .str (due ((frm L).headD "")), .str c, .int (-tf L f c)])) p (.lst (rfs D ++ [.ref t1]))) t1 = some (.tup [.str f, .str (due ((frm L).headD "")), .str c, .int (-tf L f c)]) := tup_keep uqs (f2 _ _ hp1)
       have hD2 : RT (upd (upd (upd H4 k1 (.tup [.str f, .str c])) t1 (.tup [.str f, .str (due ((frm L).headD "")), .str c, .int (-tf L f c)])) p (.lst (rfs D ++ [.ref t1]))) D := fun z hz => tup_keep (f2 _ _ (hD1 z hz)) (f2 _ _ hp1)
       have hs2 : (upd (upd (upd H4 k1 (.tup [.str f, .str c])) t1 (.tup [.str f, .str (due ((frm L).headD "")), .str c, .int (-tf L f c)])) p (.lst (rfs D ++ [.ref t1]))) sl = some (.lst (((frm L).drop 1).map V.str)) := by
         rw [uqn (Ne.symm nps)]
         exact f2 _ _ hs1
       refine ⟨_, rfl, .inl ⟨rfl, _, SqL.of hp2⟩, _, rfl, .inl ⟨fp, _, 0, _, rfl, rfl, SqL.of (e2' _ _ hf2), hs0, _, rfl, _, _, rfl, rfl, due5 hfL.2, _, rfl, _, rfl, (by show 4 ≤ sizeLine; decide), fun t2 ht2 => ?_⟩⟩
       have f3 := squ (o := .tup [.str ((frm L).headD ""), .str (due f), .str c, .int (tf L f c)]) ht2
       refine ⟨p, _, _, rfl, rfl, f3 _ _ hp2, (by rw [List.length_append, rfs_len]; show D.length + 1 < sizeLine; omega), ?_⟩
       refine ⟨_, _, D ++ [(t1, f, due ((frm L).headD ""), c, -tf L f c), (t2, (frm L).headD "", due f, c, tf L f c)], rfl, same_set (e2'.trans f3) hp, ?_, ?_, ?_, ?_, ?_⟩
       · rw [uqn (Ne.symm nps)]
         exact f3 _ _ hs2
       · rw [uqs, rfs_app, List.append_assoc]
         rfl
       · intro z hz
         rcases List.mem_append.mp hz with w | w
         · exact tup_keep (f3 _ _ (hD2 z w)) (f3 _ _ hp2)
         · simp only [List.mem_cons, List.not_mem_nil, or_false] at w
           rcases w with rfl | rfl
           · exact tup_keep (f3 _ _ ht1') (f3 _ _ hp2)
           · exact tup_keep uqs (f3 _ _ hp2)
       · rw [vls_app, hv, row_snoc _ _ _ hcj, List.append_assoc]
         congr 2
         unfold N22.oneDue
         rw [if_pos hne']
         rfl
       · rw [List.length_append]
         show D.length + 2 ≤ _
         omega
     · refine ⟨_, _, D, rfl, e1', hs1, hp1, hD1, ?_, by omega⟩
       rw [hv, row_snoc _ _ _ hcj]
       have : N22.oneDue due ((frm L).headD "") (tf L) f c = [] := by
         unfold N22.oneDue
         rw [if_neg (by simpa using V.int.inj hz)]
       rw [this, List.append_nil]
   · clear e hs hpp hD hv hDl hcl
     rintro σ H4 ⟨o6, o7, D, rfl, e, hs, hpp, hD, hv, hDl⟩
     rw [List.length_map] at hv hDl
     rw [List.take_length] at hv
     refine ⟨_, _, _, D, rfl, e, hs, hpp, hD, ?_, by omega⟩
     rw [hv, dues_snoc _ _ _ hf]
     rfl
 rintro σ H3 ⟨o5, o6, o7, D, rfl, e, hs, hpp, hD, hv, hDl⟩
 rw [List.length_map, List.take_length] at hv
 exact ⟨_, rfl, q p D _ (e12.trans e) (e12.free hp) hpp hD hv (by omega)⟩
theorem sc_with_dues : FnScope ["sides", "rests", "coin", "rest"] ["sides"] (defScope s_with_dues) := ⟨rfl, rfl, rfl, by decide +kernel, rfl, by decide +kernel, by decide +kernel⟩
theorem ok_with_dues (D : Def K mg "with_dues" s_with_dues .none) {C_Unbalanced : Addr} (c_rests_of : Cal P w K mg base CX0 true 1 "rests_of" ["sides"] [] spRests) (c_Unbalanced__init__ : CalX P w K mg base true 1 C_Unbalanced ["self", "book", "coin", "rest"] (spXI3 C_Unbalanced)) (c_dues_added : Cal P w K mg base CX0 true 2 "dues_added" ["sides", "coins"] [] spAdd) (z_list : mg "list" = none) (m_Unbalanced : mg "Unbalanced" = some (.ref C_Unbalanced)) (X_Unbalanced : XCls K C_Unbalanced) : Cal P w K mg base (CX1 P w) true 3 "with_dues" ["sides"] [] (spWithE C_Unbalanced) := by
 obtain ⟨f, fd, F, hm⟩ := D
 obtain ⟨f_rests_of, fd_rests_of, d_rests_of, G_rests_of, m_rests_of, k_rests_of, b_rests_of, v_rests_of, b_rests_of1⟩ := c_rests_of
 obtain ⟨f_Unbalanced__init__, fd_Unbalanced__init__, i_Unbalanced, fn_Unbalanced, G_Unbalanced__init__, b_Unbalanced__init__⟩ := c_Unbalanced__init__
 obtain ⟨f_dues_added, fd_dues_added, d_dues_added, G_dues_added, m_dues_added, k_dues_added, b_dues_added, v_dues_added, b_dues_added1⟩ := c_dues_added
 refine ⟨f, fd, _, F.okX sc_with_dues (fun vs H Q E h => ?_) (fun cdv A outer s H vs Q E hr h => ?_), hm, F.kp, (F.binds fun _ _ _ _ _ _ us hl => match us, hl with | [_], _ => rfl), .nil, F.binds fun _ _ _ _ _ _ us hl => match us, hl with | [_], _ => rfl⟩
 · obtain ⟨l, L, rfl, hl, hL, hlen, hLt, q1, q2⟩ := h
   rfl
 obtain ⟨l, L, rfl, hl, hL, hlen, hLt, q1, q2⟩ := h
 have nd := sc_with_dues.nd
 refine ⟨_, (pqc (ps_set (i := 1) nd rfl (Or.inl rfl) (pe_call G_rests_of (hr.mono (by decide)) rfl m_rests_of k_rests_of b_rests_of Paired.nil pass0 (pcx (pv 0) pnx)))
   (pqc (ps_for PassesOwn.leaving rfl (pi_list (pv 1)) (pg_tup rfl (pgs_cons (pg_name (i := 2) nd rfl (Or.inl rfl)) (pgs_cons (pg_name (i := 3) nd rfl (Or.inl rfl)) pgs_nil))) (pqo (ps_if (pt_cmpR op_ne (pv 3) pqi (nomark _)) (pqo (ps_raiseI rfl xe_def rfl m_Unbalanced X_Unbalanced i_Unbalanced fn_Unbalanced G_Unbalanced__init__ (hr.mono (by decide)) b_Unbalanced__init__ (pcx (pe_ix ix_seq (pe_ix ix_seq (pv 0) pqi (fun _ _ => rfl)) pqi (fun _ _ => rfl)) (pcx (pv 2) (pcx (pv 3) pnx))))) pss_nil)))
   (pqo (ps_ret (pe_op op_cat (pe_callTy call_list_of rfl z_list bt_list (pcx (pv 0) pnx)) (pe_call G_dues_added (hr.mono (by decide)) rfl m_dues_added k_dues_added b_dues_added Paired.nil pass0 (pcx (pv 0) (pcx (pe_lcT (xs := ["coin", "rest"]) [] rfl (LcOkT.plain (xs := ["coin", "rest"]) (by decide +kernel) (by decide +kernel) rfl (by decide +kernel) (by decide +kernel) (by decide +kernel)) (pi_list (pv 1)) (pg_tup2T rfl (LcOkT.plain (xs := ["coin", "rest"]) (by decide +kernel) (by decide +kernel) rfl (by decide +kernel) (by decide +kernel) (by decide +kernel))) (fun C s2 H2 fp xe => (pv 0))) pnx)))))))), ?_⟩
 have hline : 10 ^ 6 ≤ sizeLine := by decide
 refine ⟨_, rfl, l, L, rfl, hl, hL, hlen, fun rp R H1 e1 hrp0 hrp hR hRt => ?_⟩
 have hcl : (cns L).length ≤ 60 := by
   have := N21.len_firsts ((prs L).map (·.1))
   rw [List.length_map, prs_len] at this
   exact Nat.le_trans this hlen
 have lr : (rfr R).length = R.length := List.length_map ..
 have hRn : R.map (fun y => y.2.1) = cns L := by
   have h := congrArg (List.map Prod.fst) hR
   unfold N21.rs at h
   rw [List.map_map, List.map_map] at h
   have h2 : (N21.firsts ((prs L).map (·.1))).map (Prod.fst ∘ fun c => (c, N21.tot c (prs L))) = N21.firsts ((prs L).map (·.1)) := by
     rw [show (Prod.fst ∘ fun c => (c, N21.tot c (prs L))) = (fun c : Str => c) from rfl, List.map_id']
   rw [h2] at h
   exact h
 have hRl : R.length ≤ 60 := by
   have := congrArg List.length hRn
   rw [List.length_map] at this
   omega
 refine ⟨_, rfl, rp, rfl, ⟨_, SqL.of hrp⟩, ?_⟩
 refine for_list (xs := rfr R) (fun i σ H' => ∃ (o2 o3 : Option V), σ = [some (.ref l), some (.ref rp), o2, o3] ∧ H' = H1 ∧ ∀ y ∈ R.take i, y.2.2 = 0) ⟨_, _, rfl, rfl, fun y hy => nomatch hy⟩ ?_ ?_ ?_
 · rintro i σ H2 hi ⟨o2, o3, rfl, rfl, _⟩
   exact SqL.of hrp
 · rintro i x σ H2 hx ⟨o2, o3, rfl, rfl, hz⟩
   obtain ⟨y, hy, rfl⟩ := rfr_at hx
   refine ⟨y.1, _, rfl, SqT.of (hRt y (List.mem_of_getElem? hy)), rfl, _, _, rfl, _, _, rfl, rfl, ?_⟩
   refine ⟨_, rfl, rfl, _, rfl, ?_⟩
   refine ndec2 (fun hne => ?_) (fun h0 => ?_)
   · have hne' : y.2.2 ≠ 0 := fun z => hne (congrArg V.int z)
     have hbad : bad L = some (y.2.1, y.2.2) := by
       unfold bad
       rw [← hR]
       refine find_at (i := i) (fun p hp => ?_) (by rw [List.getElem?_map, hy]; rfl) (by simpa using hne')
       rw [← List.map_take] at hp
       obtain ⟨y2, m2, rfl⟩ := List.mem_map.mp hp
       simp [hz y2 m2]
     obtain ⟨z0, r0, hL0⟩ : ∃ z0 r0, L = z0 :: r0 := by
       cases L with
       | nil => cases hbad
       | cons a r => exact ⟨a, r, rfl⟩
     obtain ⟨h00, hf0⟩ := head0 hL0
     have hT0 := SqT.of (K := K) (e1 _ _ (hL z0 (by rw [hL0]; exact List.mem_cons_self)))
     refine ⟨_, rfl, .inl ⟨l, _, 0, _, rfl, rfl, SqL.of (e1 _ _ hl), h00, .inr (.inl ⟨z0.1, _, 0, _, rfl, rfl, hT0, rfl, _, rfl, _, rfl, (by show 3 ≤ sizeLine; decide), True.intro, fun x hx0 => ⟨x, _, _, _, rfl, uqs, fun d H' hd hdx h1 h2 keep => ⟨rfl, some d, h2, ?_⟩⟩⟩)⟩⟩
     refine q1 y.2.1 y.2.2 hbad d _ (fun b o hb => ?_) ?_
     · have hbx : b ≠ x := nqn (e1 _ _ hb) hx0
       show (if b = x then none else H' b) = some o
       rw [if_neg hbx]
       exact keep b o (by rw [uqn hbx]; exact e1 _ _ hb) hbx
     · show (if d = x then none else H' d) = _
       rw [if_neg hdx, hf0]
       exact h1
   · refine ⟨_, _, rfl, rfl, fun y2 m2 => ?_⟩
     rw [List.take_succ, hy] at m2
     rcases List.mem_append.mp m2 with w | w
     · exact hz y2 w
     · rw [List.mem_singleton.mp w]
       exact V.int.inj h0
 rintro σ H2 ⟨o2, o3, rfl, rfl, hz⟩
 rw [lr, List.take_length] at hz
 have hnone : bad L = none := by
   unfold bad
   rw [← hR, List.find?_eq_none]
   intro p hp
   obtain ⟨y2, m2, rfl⟩ := List.mem_map.mp hp
   simp [hz y2 m2]
 refine ⟨_, rfl, l, _, rfl, .inl (SqL.of (e1 _ _ hl)), fun cp hcp => ?_⟩
 have f1 := squ (o := .lst (rfs L)) hcp
 refine ⟨_, rfl, _, rfl, rp, rfl, ⟨_, SqL.of (f1 _ _ hrp)⟩, ?_⟩
 refine lc_list (xs := rfr R) (fun j ys H3 => ys = (R.take j).map (fun y => V.str y.2.1) ∧ H3 = upd H2 cp (.lst (rfs L))) ⟨rfl, rfl⟩ (by omega) ?_ ?_ ?_
 · rintro j ys H3 hj ⟨rfl, rfl⟩
   rw [lr] at hj
   exact ⟨SqL.of (f1 _ _ hrp), by rw [List.length_map, List.length_take]; omega⟩
 · rintro j x ys H3 hx ⟨rfl, rfl⟩ σ0 hσ0
   obtain ⟨y, hy, rfl⟩ := rfr_at hx
   obtain ⟨u, v, rfl⟩ : ∃ u v, σ0 = [u, v] := by
     rcases σ0 with _ | ⟨u, _ | ⟨v, _ | ⟨w, r⟩⟩⟩ <;> simp at hσ0
     exact ⟨u, v, rfl⟩
   refine ⟨y.1, _, rfl, SqT.of (f1 _ _ (hRt y (List.mem_of_getElem? hy))), rfl, _, _, rfl, _, _, rfl, rfl, [_, _], rfl, rfl, _, rfl, ?_, rfl⟩
   rw [List.take_succ, hy, List.map_append]
   rfl
 rintro ys H3 ⟨rfl, rfl⟩ l3 hl3
 have hmm : (R.take (rfr R).length).map (fun y => V.str y.2.1) = (cns L).map V.str := by
   rw [lr, List.take_length, ← hRn, List.map_map]
   rfl
 rw [hmm]
 have f2 := squ (o := .lst ((cns L).map V.str)) hl3
 have f12 := f1.trans f2
 have e12 := e1.trans f12
 refine ⟨l, l3, L, cns L, rfl, e12 _ _ hl, hL.same e12, hlen, hLt, uqs, hcl, fun p D H' e hp0 hp hD hv hDl => ?_⟩
 refine ⟨cp, p, _, _, rfl, rfl, e _ _ (f2 _ _ uqs), hp, (by rw [rfs_len, rfs_len]; omega), fun pn hpn => ?_⟩
 have f3 := squ (o := .lst (rfs L ++ rfs D)) hpn
 exact q2 hnone pn D _ ((e12.trans e).trans f3) ((e12.trans e).free hpn) (by rw [uqs, rfs_app]) (hD.same f3) hv hDl
theorem sc_lined_by : FnScope ["sides", "day", "rates", "lines", "rests", "firm", "account", "coin", "amount", "worth", "rest"] ["sides", "day", "rates"] (defScope s_lined_by) := ⟨rfl, rfl, rfl, by decide +kernel, rfl, by decide +kernel, by decide +kernel⟩
theorem ok_lined_by (D : Def K mg "lined_by" s_lined_by .none) {C_NoRate C_Rates : Addr} (c_Rates_worth : CalM P w K mg base (CX1 P w) true 4 C_Rates "worth" ["self", "amount", "coin", "day"] [] (SpWE K C_Rates C_NoRate)) (cl_Rates : Cls K C_Rates) (n_told : NoAttr K C_Rates "told") : Cal P w K mg base (CX1 P w) true 5 "lined_by" ["sides", "day", "rates"] [] (spLinedE K C_Rates C_NoRate) := by
 obtain ⟨f, fd, F, hm⟩ := D
 obtain ⟨f_Rates_worth, fd_Rates_worth, d_Rates_worth, G_Rates_worth, m_Rates_worth, b_Rates_worth, v_Rates_worth, b_Rates_worth1⟩ := c_Rates_worth
 refine ⟨f, fd, _, F.okX sc_lined_by (fun vs H Q E h => ?_) (fun cdv A outer s H vs Q E hr h => ?_), hm, F.kp, (F.binds fun _ _ _ _ _ _ us hl => match us, hl with | [_, _, _], _ => rfl), .nil, F.binds fun _ _ _ _ _ _ us hl => match us, hl with | [_, _, _], _ => rfl⟩
 · obtain ⟨l, rp, d, dy, t, kvs, g, X, Y, L, rfl, hl, hL, hlen, R, hk, q1, q2⟩ := h
   rfl
 obtain ⟨l, rp, d, dy, t, kvs, g, X, Y, L, rfl, hl, hL, hlen, R, hk, q1, q2⟩ := h
 have nd := sc_lined_by.nd
 refine ⟨_, (pqc (ps_set (i := 3) nd rfl (Or.inl rfl) (pe_lst pnx))
   (pqc (ps_set (i := 4) nd rfl (Or.inl rfl) pe_dnewK)
   (pqc (ps_for PassesOwn.leaving rfl (pi_list (pv 0)) (pg_tup rfl (pgs_cons (pg_name (i := 5) nd rfl (Or.inl rfl)) (pgs_cons (pg_name (i := 6) nd rfl (Or.inl rfl)) (pgs_cons (pg_name (i := 7) nd rfl (Or.inl rfl)) (pgs_cons (pg_name (i := 8) nd rfl (Or.inl rfl)) pgs_nil))))) (pqc (ps_set (i := 9) nd rfl (Or.inl rfl) (pe_methR (pv 2) cl_Rates m_Rates_worth G_Rates_worth (hr.mono (by decide)) b_Rates_worth Paired.nil xe_def (pcx (pv 8) (pcx (pv 7) (pcx (pv 1) pnx)))))
   (pqc (ps_expr (pe_bm PySem.F.plainAttrs_list PySem.F.slot_list_append PySem.F.type_list_append mt_append (pv 3) (pcx (pe_tup (pcx (pv 5) (pcx (pv 6) (pcx (pv 7) (pcx (pv 8) (pcx (pv 9) pnx)))))) pnx)))
   (pqo (ps_dput (hu_of hr) (pv 4) (pv 5) (pe_op op_add (pe_dget2 (hu_of hr) (pv 4) (pv 5) pqi ⟨rfl, rfl, rfl, rfl⟩) (pv 9)) rfl)))))
   (pqc (ps_for PassesOwn.leaving rfl (pi_items (pe_bm0 PySem.F.plainAttrs_dict PySem.F.slot_dict_items PySem.F.type_dict_items mt_items (pv 4))) (pg_tup rfl (pgs_cons (pg_name (i := 5) nd rfl (Or.inl rfl)) (pgs_cons (pg_name (i := 10) nd rfl (Or.inl rfl)) pgs_nil))) (pqo (ps_if (pt_cmpR op_ne (pv 10) pqi (nomark _)) (pqo (ps_expr (pe_bm PySem.F.plainAttrs_list PySem.F.slot_list_append PySem.F.type_list_append mt_append (pv 3) (pcx (pe_tup (pcx (pv 5) (pcx pe_str (pcx (pe_fld (pv 2) rfl) (pcx pqi (pcx (pe_un un_neg (pv 10)) pnx)))))) pnx)))) pss_nil)))
   (pqo (ps_ret (pv 3))))))), ?_⟩
 have hline : 10 ^ 6 ≤ sizeLine := by decide
 refine ⟨(by show 0 ≤ sizeLine; decide), fun p hp => ?_⟩
 have e1 := squ (o := .lst []) hp
 refine fun d2 hd2 => ?_
 have e2 := squ (o := .dK []) hd2
 have npd : p ≠ d2 := nqn uqs hd2
 have hd0 := e1.free hd2
 refine ⟨_, rfl, l, rfl, ⟨_, SqL.of (e2 _ _ (e1 _ _ hl))⟩, ?_⟩
 refine for_list (xs := rfs L) (fun i σ H' => ∃ (o5 o6 o7 o8 o9 o10 : Option V) (M : List Ln), σ = [some (.ref l), some (.int dy), some (.ref rp), some (.ref p), some (.ref d2), o5, o6, o7, o8, o9, o10] ∧ Same H H' ∧ H' p = some (.lst (rf5 M)) ∧ H' d2 = some (.dK (kvG kS (N25.fw (wS X Y) (vls (L.take i))))) ∧ R5 H' M ∧ M.map (·.2) = (vls (L.take i)).map (N25.lnv (wS X Y)) ∧ ∀ z ∈ L.take i, g z.2.2.2.1 = true) ⟨_, _, _, _, _, _, [], rfl, e1.trans e2, e2 _ _ uqs, uqs, (fun z hz => nomatch hz), rfl, fun z hz => nomatch hz⟩ ?_ ?_ ?_
 · rintro i σ H1 hi ⟨o5, o6, o7, o8, o9, o10, M, rfl, e, _⟩
   exact SqL.of (e _ _ hl)
 · rintro i x σ H1 hx ⟨o5, o6, o7, o8, o9, o10, M, rfl, e, hpp, hdd, hM, hMv, hkn⟩
   obtain ⟨z, hz, rfl⟩ := rfs_at hx
   have hzm := List.mem_of_getElem? hz
   have hiL : i < L.length := (List.getElem?_eq_some_iff.mp hz).1
   have hzz := e _ _ (hL z hzm)
   have hza := hk z hzm
   have R1 := R.same e
   obtain ⟨dx, gs, hpr, htl, _, hno⟩ := R1.ra.ob
   have hMl : M.length = i := by
     have := congrArg List.length hMv
     rw [List.length_map, List.length_map, vls_len, List.length_take] at this
     omega
   have hkl := kvG_len kS (N25.fw (wS X Y) (vls (L.take i)))
   rw [fw_len, vls_len, List.length_take] at hkl
   refine ⟨z.1, _, rfl, SqT.of hzz, rfl, _, _, rfl, _, _, rfl, _, _, rfl, _, _, rfl, rfl, ?_⟩
   refine ⟨_, rfl, rp, dx, gs, rfl, hpr, hno "worth" (by decide +kernel), _, rfl, _, rfl, _, rfl, True.intro, ?_⟩
   show SpWE K C_Rates C_NoRate [.ref rp, .int z.2.2.2.2, .str z.2.2.2.1, .int dy] _ _ _
   refine worthG R1 hza (fun hg x H2 f2 hx2 => q1 z.2.2.2.1 ?_ x H2 (e.trans f2) hx2) fun hg H2 f2 => ?_
   · unfold lackC
     rw [find_at (i := i) (fun y hy => by rw [hkn y hy]; rfl) hz (by rw [hg]; rfl)]
     rfl
   refine ⟨_, rfl, .inl ⟨rfl, _, SqL.of (f2 _ _ hpp)⟩, _, rfl, _, rfl, _, rfl, _, rfl, _, rfl, (by show 5 ≤ sizeLine; decide), fun tp htp => ?_⟩
   have f3 := squ (o := .tup [.str z.2.1, .str z.2.2.1, .str z.2.2.2.1, .int z.2.2.2.2, .int (wS X Y z.2.2.2.1 z.2.2.2.2)]) htp
   have hp3 := f3 _ _ (f2 _ _ hpp)
   refine ⟨p, _, _, rfl, rfl, hp3, (by rw [rf5_len]; omega), ?_⟩
   have hd3 : upd (upd H2 tp (.tup [.str z.2.1, .str z.2.2.1, .str z.2.2.2.1, .int z.2.2.2.2, .int (wS X Y z.2.2.2.1 z.2.2.2.2)])) p (.lst (rf5 M ++ [.ref tp])) d2 = some (.dK (kvG kS (N25.fw (wS X Y) (vls (L.take i))))) := by
     rw [uqn (Ne.symm npd)]
     exact f3 _ _ (f2 _ _ hdd)
   have eA := same_set (o := .lst (rf5 M ++ [.ref tp])) ((e.trans f2).trans f3) hp
   have pA : upd (upd H2 tp (.tup [.str z.2.1, .str z.2.2.1, .str z.2.2.2.1, .int z.2.2.2.2, .int (wS X Y z.2.2.2.1 z.2.2.2.2)])) p (.lst (rf5 M ++ [.ref tp])) p = some (.lst (rf5 (M ++ [(tp, N25.lnv (wS X Y) z.2)]))) := by
     rw [uqs, rf5_app]
     rfl
   have rA : R5 (upd (upd H2 tp (.tup [.str z.2.1, .str z.2.2.1, .str z.2.2.2.1, .int z.2.2.2.2, .int (wS X Y z.2.2.2.1 z.2.2.2.2)])) p (.lst (rf5 M ++ [.ref tp]))) (M ++ [(tp, N25.lnv (wS X Y) z.2)]) := fun y hy => by
     rcases List.mem_append.mp hy with w | w
     · exact tup_keepL (f3 _ _ (f2 _ _ (hM y w))) hp3
     · rw [List.mem_singleton.mp w]
       exact tup_keepL uqs hp3
   show _
   generalize upd (upd H2 tp (.tup [.str z.2.1, .str z.2.2.1, .str z.2.2.2.1, .int z.2.2.2.2, .int (wS X Y z.2.2.2.1 z.2.2.2.2)])) p (.lst (rf5 M ++ [.ref tp])) = HA at hd3 eA pA rA ⊢
   refine ⟨_, rfl, d2, rfl, .inl ⟨_, .inl hd3⟩, _, rfl, _, DGet.k (k := kS z.2.1) hd3, _, rfl, _, _, kvG_get kS kS_inj _ _, rfl, _, rfl, _, rfl, d2, _, rfl, DPut.k (k := kS z.2.1) hd3 (by omega), ?_⟩
   refine ⟨_, _, _, _, _, _, M ++ [(tp, N25.lnv (wS X Y) z.2)], rfl, same_set eA hd0, (by rw [uqn npd]; exact pA), ?_, fun y hy => ?_, ?_, fun y hy => ?_⟩
   · rw [uqs, kvG_put kS kS_inj, fw_snoc _ hz]
   · have h := rA y hy
     unfold tup5 at h
     rw [uqn (ne_of h hd3 (by intro z; cases z))]
     exact h
   · rw [List.map_append, hMv, vls_snoc hz, List.map_append]
     rfl
   · rw [take_nx hz] at hy
     rcases List.mem_append.mp hy with w | w
     · exact hkn y w
     · rw [List.mem_singleton.mp w]
       exact hg
 rintro σ H1 ⟨o5, o6, o7, o8, o9, o10, M, rfl, e, hpp, hdd, hM, hMv, hkn⟩
 rw [rfs_len, List.take_length] at hdd hMv hkn
 have hlk := lack_none hkn
 have hMl : M.length = L.length := by
   have := congrArg List.length hMv
   rw [List.length_map, List.length_map, vls_len] at this
   exact this
 refine ⟨_, rfl, .inr (.inr (.inl ⟨rfl, .inl ⟨_, hdd⟩⟩)), d2, _, rfl, rfl, hdd, fun v hv => ?_⟩
 have f1 := squ (o := ivw v d2) hv
 refine ⟨v, d2, _, rfl, uqs, f1 _ _ hdd, fun ob => ?_⟩
 have hP := kvG_rs (N25.fw (wS X Y) (vls L))
 have hPl := kvG_len kS (N25.fw (wS X Y) (vls L))
 rw [fw_len, vls_len] at hPl
 have hp1 := f1 _ _ hpp
 have hd1 := f1 _ _ hdd
 refine for_items (d := d2) (o := ob) (fun i σ H' => ∃ (o5 o6 o7 o8 o9 o10 : Option V) (M : List Ln), σ = [some (.ref l), some (.int dy), some (.ref rp), some (.ref p), some (.ref d2), o5, o6, o7, o8, o9, o10] ∧ Same H H' ∧ H' p = some (.lst (rf5 M)) ∧ H' d2 = some (.frz ob (.dK (kvG kS (N25.fw (wS X Y) (vls L))))) ∧ R5 H' M ∧ M.map (·.2) = (vls L).map (N25.lnv (wS X Y)) ++ ((N21.rs (N25.fw (wS X Y) (vls L))).take i).flatMap (N25.rone (κ := Str) "*rounding" t) ∧ M.length ≤ L.length + i) ⟨_, _, _, _, _, _, M, rfl, same_set (e.trans f1) hd0, (by rw [uqn npd]; exact hp1), uqs, (fun y hy => ?_), (by rw [hMv]; simp), by omega⟩ ?_ ?_ ?_
 · have h := f1 _ _ (hM y hy)
   unfold tup5 at h
   show upd _ d2 _ y.1 = some (tup5 y)
   rw [uqn (ne_of h hd1 (by intro z; cases z))]
   exact h
 · rintro i σ H2 hi ⟨o5, o6, o7, o8, o9, o10, M, rfl, e, hpp, hdd, _⟩
   exact hdd
 · rintro i kv σ H2 tp hkv ⟨o5, o6, o7, o8, o9, o10, M, rfl, e', hpp', hdd', hM', hMv', hMl'⟩ htp
   obtain ⟨f, hf, rfl⟩ := kvG_at hkv
   have hik : i < (kvG kS (N25.fw (wS X Y) (vls L))).length := (List.getElem?_eq_some_iff.mp hkv).1
   have g1 := squ (o := .tup [kV (kS f), .int (N21.tot f (N25.fw (wS X Y) (vls L)))]) htp
   refine ⟨tp, _, rfl, SqT.of uqs, rfl, _, _, rfl, _, _, rfl, rfl, ?_⟩
   refine ⟨_, rfl, rfl, _, rfl, ?_⟩
   have nx := rnd_snoc "*rounding" t hf
   refine ndec2 (fun h => ?_) (fun h => ?_)
   · have h0 : N21.tot f (N25.fw (wS X Y) (vls L)) ≠ 0 := fun z => h (congrArg V.int z)
     have R2 := R.same (e'.trans g1)
     obtain ⟨dx, gs, hpr, htl, _, hno⟩ := R2.ra.ob
     have hp2 := g1 _ _ hpp'
     refine ⟨_, rfl, .inl ⟨rfl, _, SqL.of hp2⟩, _, rfl, _, rfl, rp, C_Rates, dx, gs, _, rfl, hpr, cl_Rates, n_told, htl, _, rfl, _, rfl, (by show 5 ≤ sizeLine; decide), fun t2 ht2 => ?_⟩
     have g2 := squ (o := tup5 (t2, f, (("*rounding" : Str), t), 0, -N21.tot f (N25.fw (wS X Y) (vls L)))) ht2
     have hp3 := g2 _ _ hp2
     refine ⟨p, _, _, rfl, rfl, hp3, (by rw [rf5_len]; omega), ?_⟩
     refine ⟨_, _, _, _, _, _, M ++ [(t2, f, (("*rounding" : Str), t), 0, -N21.tot f (N25.fw (wS X Y) (vls L)))], rfl, same_set ((e'.trans g1).trans g2) hp, (by rw [uqs, rf5_app]; rfl), (by rw [uqn (Ne.symm npd)]; exact g2 _ _ (g1 _ _ hdd')), fun y hy => ?_, ?_, ?_⟩
     · rcases List.mem_append.mp hy with w | w
       · exact tup_keepL (g2 _ _ (g1 _ _ (hM' y w))) hp3
       · rw [List.mem_singleton.mp w]
         exact tup_keepL uqs hp3
     · rw [List.map_append, hMv', nx, List.append_assoc]
       unfold N25.rone
       rw [if_pos h0]
       rfl
     · rw [List.length_append]
       show M.length + 1 ≤ _
       omega
   · have h0 : N21.tot f (N25.fw (wS X Y) (vls L)) = 0 := V.int.inj h
     refine ⟨_, _, _, _, _, _, M, rfl, e'.trans g1, g1 _ _ hpp', g1 _ _ hdd', hM'.same g1, ?_, by omega⟩
     rw [hMv', nx]
     unfold N25.rone
     rw [h0]
     simp
 rintro σ H2 ⟨o5, o6, o7, o8, o9, o10, M, rfl, e, hpp, hdd, hM, hMv, hMl⟩
 rw [hP, List.take_length] at hMv
 exact ⟨_, rfl, q2 hlk p M _ e hp hpp hM hMv (by omega)⟩
theorem sc_entry_lines : FnScope ["sides", "day", "rates"] ["sides", "day", "rates"] (defScope s_entry_lines) := ⟨rfl, rfl, rfl, by decide +kernel, rfl, by decide +kernel, by decide +kernel⟩
theorem ok_entry_lines (D : Def K mg "entry_lines" s_entry_lines .none) {C_NoRate C_Rates C_Unbalanced : Addr} (c_lined_by : Cal P w K mg base (CX1 P w) true 5 "lined_by" ["sides", "day", "rates"] [] (spLinedE K C_Rates C_NoRate)) (c_with_dues : Cal P w K mg base (CX1 P w) true 3 "with_dues" ["sides"] [] (spWithE C_Unbalanced)) : Cal P w K mg base (CX1 P w) true 6 "entry_lines" ["sides", "day", "rates"] [] (spEntryE K C_Rates C_NoRate C_Unbalanced) := by
 obtain ⟨f, fd, F, hm⟩ := D
 obtain ⟨f_lined_by, fd_lined_by, d_lined_by, G_lined_by, m_lined_by, k_lined_by, b_lined_by, v_lined_by, b_lined_by1⟩ := c_lined_by
 obtain ⟨f_with_dues, fd_with_dues, d_with_dues, G_with_dues, m_with_dues, k_with_dues, b_with_dues, v_with_dues, b_with_dues1⟩ := c_with_dues
 refine ⟨f, fd, _, F.okX sc_entry_lines (fun vs H Q E h => ?_) (fun cdv A outer s H vs Q E hr h => ?_), hm, F.kp, (F.binds fun _ _ _ _ _ _ us hl => match us, hl with | [_, _, _], _ => rfl), .nil, F.binds fun _ _ _ _ _ _ us hl => match us, hl with | [_, _, _], _ => rfl⟩
 · obtain ⟨l, rp, d, dy, t, kvs, g, X, Y, L, rfl, hl, hL, hlen, hLt, R, hk, q1, q2, q3⟩ := h
   rfl
 obtain ⟨l, rp, d, dy, t, kvs, g, X, Y, L, rfl, hl, hL, hlen, hLt, R, hk, q1, q2, q3⟩ := h
 have nd := sc_entry_lines.nd
 refine ⟨_, (pqo (ps_ret (pe_callR G_lined_by (hr.mono (by decide)) rfl m_lined_by k_lined_by b_lined_by Paired.nil xe_def (pcx (pe_callR G_with_dues (hr.mono (by decide)) rfl m_with_dues k_with_dues b_with_dues Paired.nil xe_def (pcx (pv 0) pnx)) (pcx (pv 1) (pcx (pv 2) pnx)))))), ?_⟩
 have hap : ∀ D : List Sd, vls D = dvs L (cns L) → lackC g (L ++ D) = lackC g L := fun D hv => lack_app fun y hy => by
   have hy2 : y.2 ∈ dvs L (cns L) := by
     rw [← hv]
     exact List.mem_map.mpr ⟨y, hy, rfl⟩
   exact (dvs_coin hy2).1
 refine ⟨_, rfl, True.intro, l, L, rfl, hl, hL, hlen, hLt, q1, fun hb wp D H1 e1 hwp0 hwp hD hv hDl => ⟨_, rfl, _, rfl, True.intro, wp, rp, d, dy, t, kvs, g, X, Y, L ++ D, rfl, hwp, (hL.same e1).app hD, (by rw [List.length_append]; omega), R.same e1, fun z hz => ?_, fun c hc x H2 e2 hx => ?_, fun hc p M H2 e2 hp0 hp hM hMv hMl => ?_⟩⟩
 · rcases List.mem_append.mp hz with w | w
   · exact Nat.le_trans (hk z w) (by decide)
   · have hz2 : z.2 ∈ dvs L (cns L) := by
       rw [← hv]
       exact List.mem_map.mpr ⟨z, w, rfl⟩
     obtain ⟨_, _, hbd⟩ := dvs_coin hz2
     exact Nat.le_trans (hbd (2 ^ 145) hk) (Nat.le_trans (Nat.mul_le_mul_right _ hlen) (by decide))
 · rw [hap D hv] at hc
   exact q2 c hb hc x H2 (e1.trans e2) hx
 · rw [hap D hv] at hc
   rw [vls_app, hv] at hMv
   exact q3 hb hc p M H2 (e1.trans e2) (e1.free hp0) hp hM hMv (by rw [List.length_append] at hMl; omega)
def spTc : Sp := fun vs H Q _ => ∃ (c : Int) (cl : Addr) (cs : List Str), vs = [.int c, .ref cl] ∧ H cl = some (.lst (cs.map V.str)) ∧ cs.length = 4 ∧ ∀ t : Str, Q (.str t) H
def spRts (K : PySem.W.Frag) (C : Addr) : Sp := fun vs H Q _ => ∃ t : Str, vs = [.str t] ∧ ∀ rp d H', Same H H' → RatesAt K C H' rp d t [] → Q (.ref rp) H'
def spRt1 : Sp := fun vs H Q _ => ∃ (o u : Int), vs = [.int o, .int u] ∧ ∀ (r : Addr) (x y : Int) H', Same H H' → H' r = some (.tup [.int x, .int y]) → 1 ≤ x → x ≤ 2 ^ 40 → 1 ≤ y → y ≤ 2 ^ 40 → Q (.ref r) H'
def T2 (H : Hp) (kvs : List (Key × V)) (c : Str) : Prop := ∃ r x y, valV kvs (Sum.inr c) = some (.ref r) ∧ H r = some (.tup [.int x, .int y]) ∧ 1 ≤ x ∧ x ≤ 2 ^ 40 ∧ 1 ≤ y ∧ y ≤ 2 ^ 40
def spTab (K : PySem.W.Frag) : Sp := fun vs H Q _ => ∃ (a cl : Addr) (ns : List Int) (cs : List Str) (t : Str), vs = [.ref a, .ref cl, .str t] ∧ SqL K H a (ns.map V.int) ∧ H cl = some (.lst (cs.map V.str)) ∧ cs.length = 4 ∧
 ∀ (d : Addr) (kvs : List (Key × V)) H', Same H H' → H' d = some (.dK kvs) → (∀ c ∈ cs, T2 H' kvs c) → (∃ r, valV kvs (Sum.inr t) = some (.ref r) ∧ H' r = some (.tup [.int 1, .int 1])) → Q (.ref d) H'
theorem m9r (x : Int) : 1 ≤ x % (10 : Int) ^ (9 : Int).toNat + 1 ∧ x % (10 : Int) ^ (9 : Int).toNat + 1 ≤ 2 ^ 40 := by
 show 1 ≤ x % (10 : Int) ^ 9 + 1 ∧ x % (10 : Int) ^ 9 + 1 ≤ 2 ^ 40
 omega
theorem five (a b c d e : Int) {i : Int} (h0 : 0 ≤ i) (h1 : i < 5) : ∃ v : Int, atI [V.int a, V.int b, V.int c, V.int d, V.int e] i = some (.int v) ∧ (v = a ∨ v = b ∨ v = c ∨ v = d ∨ v = e) := by
 have : i = 0 ∨ i = 1 ∨ i = 2 ∨ i = 3 ∨ i = 4 := by omega
 rcases this with rfl | rfl | rfl | rfl | rfl
 · exact ⟨a, rfl, .inl rfl⟩
 · exact ⟨b, rfl, .inr (.inl rfl)⟩
 · exact ⟨c, rfl, .inr (.inr (.inl rfl))⟩
 · exact ⟨d, rfl, .inr (.inr (.inr (.inl rfl)))⟩
 · exact ⟨e, rfl, .inr (.inr (.inr (.inr rfl)))⟩
theorem t2_put {H H' : Hp} {kvs : List (Key × V)} {c e : Str} {r : Addr} {x y : Int} (h : e = c ∨ T2 H kvs e) (k : ∀ b o, H b = some (.tup o) → H' b = some (.tup o)) (hr : H' r = some (.tup [.int x, .int y])) (h1 : 1 ≤ x) (h2 : x ≤ 2 ^ 40) (h3 : 1 ≤ y) (h4 : y ≤ 2 ^ 40) : T2 H' (putK kvs (Sum.inr c) (.ref r)) e := by
 by_cases z : e = c
 · subst z
   exact ⟨r, x, y, by rw [valV_put, if_pos rfl], hr, h1, h2, h3, h4⟩
 · obtain ⟨r', x', y', a, b, d⟩ := h.elim (fun w => absurd w z) id
   refine ⟨r', x', y', ?_, k _ _ b, d⟩
   rw [valV_put, if_neg (fun w => z (Sum.inr.inj w))]
   exact a
theorem sc__law_cell_at : FnScope ["_law_script", "_law_k"] ["_law_script", "_law_k"] (defScope s__law_cell_at) := ⟨rfl, rfl, rfl, by decide +kernel, rfl, by decide +kernel, by decide +kernel⟩
theorem ok__law_cell_at (D : Def K mg "_law_cell_at" s__law_cell_at .none) (z_len : mg "len" = none) : Cal P w K mg base CX0 cm 1 "_law_cell_at" ["_law_script", "_law_k"] [] (spCell K) := by
 obtain ⟨f, fd, F, hm⟩ := D
 refine ⟨f, fd, _, F.ok sc__law_cell_at (fun vs H Q E h => ?_) (fun cdv A outer s H vs Q E hr h => ?_), hm, F.kp, (F.binds fun _ _ _ _ _ _ us hl => match us, hl with | [_, _], _ => rfl), .nil, F.binds fun _ _ _ _ _ _ us hl => match us, hl with | [_, _], _ => rfl⟩
 · obtain ⟨a, ns, k, rfl, hS, q⟩ := h
   rfl
 obtain ⟨a, ns, k, rfl, hS, q⟩ := h
 have nd := sc__law_cell_at.nd
 refine ⟨_, (pqc (ps_if (pt_cmpR op_lt (pv 1) (pe_callB call_len_seq rfl z_len bt_len (pcx (pv 0) pnx)) (nomark _)) (pqo (ps_ret (pe_ix ix_seq (pv 0) (pv 1) (fun _ _ => rfl)))) pss_nil)
   (pqo (ps_ret pqi))), ?_⟩
 refine ⟨_, rfl, _, rfl, a, _, rfl, .inl hS, _, _, rfl, rfl, _, rfl, ?_⟩
 rw [List.length_map]
 refine dec2 (fun h => ?_) (fun h => ?_)
 · refine ⟨_, rfl, _, rfl, .inl ⟨a, _, k, .int (ns.getD k 0), rfl, rfl, hS, atI_nat ?_, q⟩⟩
   have hk : k < ns.length := by omega
   rw [List.getElem?_map, List.getElem?_eq_getElem hk]
   simp [List.getD, hk]
 · have hk : ns.length ≤ k := by omega
   have e : ns.getD k 0 = 0 := by simp [List.getD, hk]
   rw [e] at q
   exact q
theorem sc__law_whole : FnScope ["_law_found"] ["_law_found"] (defScope s__law_whole) := ⟨rfl, rfl, rfl, by decide +kernel, rfl, by decide +kernel, by decide +kernel⟩
theorem ok__law_whole (D : Def K mg "_law_whole" s__law_whole .none) (z_isinstance : mg "isinstance" = none) (z_int : mg "int" = none) (z_bool : mg "bool" = none) (q_ib : PySem.W.kitOne K (.type "int") (.type "bool") = some false) : Cal P w K mg base CX0 cm 1 "_law_whole" ["_law_found"] [] spWhole := by
 obtain ⟨f, fd, F, hm⟩ := D
 refine ⟨f, fd, _, F.ok sc__law_whole (fun vs H Q E h => ?_) (fun cdv A outer s H vs Q E hr h => ?_), hm, F.kp, (F.binds fun _ _ _ _ _ _ us hl => match us, hl with | [_], _ => rfl), .nil, F.binds fun _ _ _ _ _ _ us hl => match us, hl with | [_], _ => rfl⟩
 · obtain ⟨i, rfl, q⟩ := h
   rfl
 obtain ⟨i, rfl, q⟩ := h
 have nd := sc__law_whole.nd
 refine ⟨_, (pqo (ps_ret (pe_and (pe_callB call_is rfl z_isinstance bt_isinstance (pcx (pv 0) (pcx (pe_bltn (v := .ty "int") rfl z_int bt_int rfl) pnx))) (pe_one (pe_not (pe_callB call_is rfl z_isinstance bt_isinstance (pcx (pv 0) (pcx (pe_bltn (v := .ty "bool") rfl z_bool bt_bool rfl) pnx)))))))), ?_⟩
 refine ⟨_, rfl, _, _, _, _, _, rfl, .of (.int i), rfl, rfl, true, rfl, iteT ?_⟩
 exact ⟨_, rfl, _, _, _, _, _, rfl, .of (.int i), rfl, q_ib, false, rfl, q⟩
theorem sc__law_mix : FnScope ["_law_cell", "_law_by"] ["_law_cell", "_law_by"] (defScope s__law_mix) := ⟨rfl, rfl, rfl, by decide +kernel, rfl, by decide +kernel, by decide +kernel⟩
theorem ok__law_mix (D : Def K mg "_law_mix" s__law_mix .none) : Cal P w K mg base CX0 cm 1 "_law_mix" ["_law_cell", "_law_by"] [] spMix := by
 obtain ⟨f, fd, F, hm⟩ := D
 refine ⟨f, fd, _, F.ok sc__law_mix (fun vs H Q E h => ?_) (fun cdv A outer s H vs Q E hr h => ?_), hm, F.kp, (F.binds fun _ _ _ _ _ _ us hl => match us, hl with | [_, _], _ => rfl), .nil, F.binds fun _ _ _ _ _ _ us hl => match us, hl with | [_, _], _ => rfl⟩
 · obtain ⟨c, b, rfl, hb, q⟩ := h
   rfl
 obtain ⟨c, b, rfl, hb, q⟩ := h
 have nd := sc__law_mix.nd
 refine ⟨_, (pqo (ps_ret (pe_op op_fdiv (pe_op op_mod (pe_op op_mulB (pe_op op_add (pe_op op_mod (pv 0) pqi) pqi) (pv 1)) pqi) pqi))), ?_⟩
 exact ⟨_, rfl, _, _, rfl, rfl, (by show (0 : Int) < 2147483647; decide), _, _, rfl, rfl, _, rfl, _, _, rfl, rfl, mul_of (by omega) (by omega) (by omega) (by omega), _, _, rfl, rfl, (by show (0 : Int) < 2147483399; decide), _, _, rfl, rfl, ⟨by decide, by decide⟩, q _ (by omega) (by omega)⟩
theorem sc__law_names : FnScope ["_law_cell", "_law_many", "_law_letters", "_law_seed", "_law_base", "_law_size", "_law_at", "_law_turn", "_law_names_here", "_law_k"] ["_law_cell", "_law_many"] (defScope s__law_names) := ⟨rfl, rfl, rfl, by decide +kernel, rfl, by decide +kernel, by decide +kernel⟩
theorem ok__law_names (D : Def K mg "_law_names" s__law_names .none) (z_range : mg "range" = none) (z_int : mg "int" = none) : Cal P w K mg base CX0 true 2 "_law_names" ["_law_cell", "_law_many"] [] spNames := by
 obtain ⟨f, fd, F, hm⟩ := D
 refine ⟨f, fd, _, F.ok sc__law_names (fun vs H Q E h => ?_) (fun cdv A outer s H vs Q E hr h => ?_), hm, F.kp, (F.binds fun _ _ _ _ _ _ us hl => match us, hl with | [_, _], _ => rfl), .nil, F.binds fun _ _ _ _ _ _ us hl => match us, hl with | [_, _], _ => rfl⟩
 · obtain ⟨c, m, rfl, hm1, hm8, q⟩ := h
   rfl
 obtain ⟨c, m, rfl, hm1, hm8, q⟩ := h
 have nd := sc__law_names.nd
 refine ⟨_, (pqc (ps_set (i := 2) nd rfl (Or.inr rfl) pe_str)
   (pqc (ps_set (i := 3) nd rfl (Or.inr rfl) (pe_op op_mod (pv 0) pqi))
   (pqc (ps_set (i := 4) nd rfl (Or.inr rfl) (pe_lc [3] rfl (LcOk.free ["_law_seed"] rfl rfl (List.forall_mem_cons.mpr ⟨rfl, (fun _ h => nomatch h)⟩) (by decide +kernel) rfl (by decide +kernel) rfl (by decide +kernel) (show (["_law_k", "_law_seed"] : List Str).Nodup from by decide +kernel) (List.forall_mem_cons.mpr ⟨⟨_, rfl, rfl, rfl, by decide +kernel⟩, (fun _ h => nomatch h)⟩)) (pi_range1 rfl z_range (pcx pqi pnx)) (fun C s2 H2 fp xe => (pe_op op_mod (pe_op op_mod (pe_op op_mulB (pv 1) (pe_op op_add (pe_op op_mulB (pv 0) (pv 0)) pqi)) pqi) pqi))))
   (pqc (ps_set (i := 5) nd rfl (Or.inl rfl) (pe_op op_add pqi (pe_op op_mod (pe_op op_fdiv (pv 3) pqi) pqi)))
   (pqc (ps_set (i := 6) nd rfl (Or.inr rfl) (pe_op op_mod (pe_op op_fdiv (pv 3) pqi) (pv 5)))
   (pqc (ps_set (i := 7) nd rfl (Or.inl rfl) (pe_op op_mod (pe_op op_fdiv (pv 3) pqi) (pv 1)))
   (pqc (ps_set (i := 8) nd rfl (Or.inl rfl) (pe_lst pnx))
   (pqc (ps_for PassesOwn.never rfl (pi_range1 rfl z_range (pcx (pv 1) pnx)) (pg_name (i := 9) nd rfl (Or.inr rfl)) (pqo (ps_if (pt_cmpR op_eq (pe_op op_mod (pv 3) pqi) pqi (nomark _)) (pqo (ps_expr (pe_bm PySem.F.plainAttrs_list PySem.F.slot_list_append PySem.F.type_list_append mt_append (pv 8) (pcx (pe_bm PySem.F.plainAttrs_str PySem.F.slot_str_join PySem.F.type_str_join mt_join pe_str (pcx (pe_lc [2, 4] rfl (LcOk.free ["_law_letters", "_law_base"] rfl rfl (List.forall_mem_cons.mpr ⟨rfl, (List.forall_mem_cons.mpr ⟨rfl, (fun _ h => nomatch h)⟩)⟩) (by decide +kernel) rfl (by decide +kernel) rfl (by decide +kernel) (show (["_law_j", "_law_letters", "_law_base"] : List Str).Nodup from by decide +kernel) (List.forall_mem_cons.mpr ⟨⟨_, rfl, rfl, rfl, by decide +kernel⟩, (List.forall_mem_cons.mpr ⟨⟨_, rfl, rfl, rfl, by decide +kernel⟩, (fun _ h => nomatch h)⟩)⟩)) (pi_range1 rfl z_range (pcx (pe_op op_add (pv 9) pqi) pnx)) (fun C s2 H2 fp xe => (pe_ix ix_seqC (pv 1) (pe_ix ix_seqC (pv 2) (pv 0) (fun _ _ => rfl)) (fun _ _ => rfl)))) pnx)) pnx)))) (pqo (ps_expr (pe_bm PySem.F.plainAttrs_list PySem.F.slot_list_append PySem.F.type_list_append mt_append (pv 8) (pcx (pe_bm PySem.F.plainAttrs_str PySem.F.slot_str_join PySem.F.type_str_join mt_join pe_str (pcx (pe_lc [2, 4, 9, 6] rfl (LcOk.free ["_law_letters", "_law_k", "_law_base", "_law_at"] rfl rfl (List.forall_mem_cons.mpr ⟨rfl, (List.forall_mem_cons.mpr ⟨rfl, (List.forall_mem_cons.mpr ⟨rfl, (List.forall_mem_cons.mpr ⟨rfl, (fun _ h => nomatch h)⟩)⟩)⟩)⟩) (by decide +kernel) rfl (by decide +kernel) rfl (by decide +kernel) (show (["_law_j", "_law_letters", "_law_base", "_law_k", "_law_at"] : List Str).Nodup from by decide +kernel) (List.forall_mem_cons.mpr ⟨⟨_, rfl, rfl, rfl, by decide +kernel⟩, (List.forall_mem_cons.mpr ⟨⟨_, rfl, rfl, rfl, by decide +kernel⟩, (List.forall_mem_cons.mpr ⟨⟨_, rfl, rfl, rfl, by decide +kernel⟩, (List.forall_mem_cons.mpr ⟨⟨_, rfl, rfl, rfl, by decide +kernel⟩, (fun _ h => nomatch h)⟩)⟩)⟩)⟩)) (pi_range1 rfl z_range (pcx (pv 5) pnx)) (fun C s2 H2 fp xe => (pe_ix ix_seqC (pv 1) (pe_op op_mod (pe_op op_add (pe_ix ix_seqC (pv 2) (pv 0) (fun _ _ => rfl)) (pe_op op_mulB (pv 3) (pe_callTy call_int1 rfl z_int bt_int (pcx (pe_cmpR op_eq (pv 0) (pv 4) (nomark _)) pnx)))) pqi) (fun _ _ => rfl)))) pnx)) pnx)))))))
   (pqo (ps_ret (pe_op op_cat (pe_slice sl_list (pv 8) (po_some (pv 7)) po_none) (pe_slice sl_list (pv 8) po_none (po_some (pv 7)))))))))))))), ?_⟩
 have hline : 600 ≤ sizeLine := by decide
 refine ⟨_, rfl, _, _, rfl, rfl, (by show (0 : Int) < 999983; decide), ?_⟩
 refine ⟨_, rfl, by decide, by decide, ?_⟩
 refine lc_range (fun i ys H1 => ∃ bs : List Int, ys = bs.map V.int ∧ bs.length = i ∧ (∀ b ∈ bs, 0 ≤ b ∧ b < 26) ∧ H1 = H) ⟨[], rfl, rfl, (fun b hb => nomatch hb), rfl⟩ (by show 8 ≤ sizeLine; decide) ?_ ?_ ?_
 · rintro i ys H1 hi ⟨bs, rfl, hb, _, rfl⟩
   rw [List.length_map]
   exact hb
 · rintro i ys H1 hi ⟨bs, rfl, hb, hbs, rfl⟩
   have hi8 : i < 8 := hi
   have sq := sq8 i hi8
   refine ⟨_, rfl, _, rfl, _, rfl, _, _, rfl, rfl, mul_of (by omega) (by omega) (by omega) (by omega), _, _, rfl, rfl, _, _, rfl, rfl, mul_of (by omega) (by omega) (by omega) (by omega), _, _, rfl, rfl, (by show (0 : Int) < 7919; decide), _, _, rfl, rfl, (by show (0 : Int) < 26; decide), bs ++ [_], by rw [List.map_append]; rfl, by rw [List.length_append, hb]; rfl, fun b hm => ?_, rfl⟩
   rcases List.mem_append.mp hm with w | w
   · exact hbs b w
   · rw [List.mem_singleton.mp w]
     omega
 rintro ys H0 ⟨bs, rfl, hbn, hbs, rfl⟩ bl hbl
 have hbn8 : bs.length = 8 := hbn
 have eb := squ (o := .lst (bs.map V.int)) hbl
 have hat : atN c < 8 ∧ (atN c : Int) < (1 + c % 999983 / 3 % 8) := by
   unfold atN
   have a1 := Int.emod_nonneg (c % 999983 / 24) (show (1 + c % 999983 / 3 % 8) ≠ 0 by omega)
   have a2 := Int.emod_lt_of_pos (c % 999983 / 24) (show 0 < (1 + c % 999983 / 3 % 8) by omega)
   omega
 have hbb8 : ∀ j, j < 8 → 0 ≤ bs.getD j 0 ∧ bs.getD j 0 < 26 := fun j hj => by
   have : bs.getD j 0 = bs[j]'(by omega) := by simp [List.getD, show j < bs.length by omega]
   rw [this]
   exact hbs _ (List.getElem_mem _)
 refine ⟨_, rfl, _, _, rfl, rfl, ⟨by decide, by decide⟩, _, _, rfl, rfl, (by show (0 : Int) < 8; decide), _, _, rfl, rfl, ?_⟩
 refine ⟨_, rfl, _, _, rfl, rfl, ⟨by decide, by decide⟩, _, rfl, _, _, rfl, rfl, (by show (0 : Int) < (1 + c % 999983 / 3 % 8); omega), ?_⟩
 refine ⟨_, rfl, _, _, rfl, rfl, ⟨by decide, by decide⟩, _, rfl, _, _, rfl, rfl, (by show (0 : Int) < m; omega), ?_⟩
 refine ⟨(by show 0 ≤ sizeLine; decide), fun l hl => ?_⟩
 have nbl : bl ≠ l := nqn uqs hl
 have el := squ (o := .lst []) hl
 have hlH := eb.free hl
 refine ⟨_, rfl, _, rfl, by omega, by omega, ?_⟩
 refine for_range (fun i σ H' => ∃ (o : Option V) (xs : List Str), σ = [some (.int c), some (.int m), some (.str L26), some (.int (c % 999983)), some (.ref bl), some (.int (1 + c % 999983 / 3 % 8)), some (.int (c % 999983 / 24 % (1 + c % 999983 / 3 % 8))), some (.int (c % 999983 / 5 % m)), some (.ref l), o] ∧ Same H0 H' ∧ H' l = some (.lst (xs.map V.str)) ∧ xs.length = i ∧ H' bl = some (.lst (bs.map V.int)) ∧ ∀ j x, xs[j]? = some x → Dn5 c bs j x) ⟨_, [], rfl, eb.trans el, uqs, rfl, el _ _ uqs, fun j x h => by simp at h⟩ ?_ ?_
 · rintro i σ H1 hi ⟨o, xs, rfl, eH, hll, hxl, hbb, hdn⟩
   have him : i < m := by omega
   refine ⟨_, rfl, _, _, rfl, rfl, (by show (0 : Int) < 3; decide), rfl, _, rfl, ?_⟩
   refine dec2 (fun h => ?_) (fun h => ?_)
   · have h3 : c % 999983 % 3 = 1 := V.int.inj h
     refine ⟨_, rfl, .inl ⟨rfl, _, SqL.of hll⟩, rfl, _, rfl, _, _, rfl, rfl, _, rfl, by omega, by omega, ?_⟩
     refine lc_range (fun j ys H2 => ∃ ls : List Nat, ys = (ls.map sg).map V.str ∧ ls.length = j ∧ (∀ u ∈ ls, 97 ≤ u) ∧ H2 = H1) ⟨[], rfl, rfl, (fun u hu => nomatch hu), rfl⟩ (by omega) ?_ ?_ ?_
     · rintro j ys H2 hj ⟨ls, rfl, hz, _, rfl⟩
       rw [List.length_map, List.length_map]
       exact hz
     · rintro j ys H2 hj ⟨ls, rfl, hz, hv, rfl⟩
       obtain ⟨b, bm, hb⟩ := int_in (ws := bs) (i := 0 + (j : Int)) (by omega) (by omega)
       obtain ⟨b0, b1⟩ := hbs b bm
       refine ⟨_, rfl, _, rfl, _, rfl, .inl ⟨bl, _, _, _, rfl, rfl, SqL.of hbb, hb, .inr (.inr ⟨L26, _, _, rfl, rfl, l26_len, l26_at b0 b1, ?_⟩)⟩⟩
       exact ⟨ls ++ [97 + b.toNat], by rw [List.map_append, List.map_append]; rfl, by rw [List.length_append, hz]; rfl, (fun u hu => (List.mem_append.mp hu).elim (hv u) (fun w => by rw [List.mem_singleton.mp w]; omega)), rfl⟩
     · rintro ys H2 ⟨ls, rfl, hz, hv, rfl⟩ l3 hl3
       have e3 := squ (o := .lst ((ls.map sg).map V.str)) hl3
       refine ⟨"", l3, ls.map sg, rfl, rfl, SqL.of uqs, join_ok (by rw [List.length_map]; omega) sg_len, ?_⟩
       refine ⟨l, _, _, rfl, rfl, e3 _ _ hll, (by rw [List.length_map]; omega), ?_⟩
       refine ⟨_, xs ++ [Txt.join "" (ls.map sg)], rfl, same_set (eH.trans e3) hlH, (by rw [uqs, List.map_append]; rfl), by rw [List.length_append, hxl]; rfl, ?_, dn_app5 hdn ?_⟩
       · rw [uqn nbl]
         exact e3 _ _ hbb
       · unfold Dn5 Dn
         rw [if_pos h3, txt_cps, hz, hxl]
         exact ⟨by omega, let_sg (by omega) (by omega) hv⟩
   · have h3 : ¬ c % 999983 % 3 = 1 := fun z => h (congrArg V.int z)
     refine ⟨_, rfl, .inl ⟨rfl, _, SqL.of hll⟩, rfl, _, rfl, _, rfl, by omega, by omega, ?_⟩
     refine lc_range (fun j ys H2 => ∃ ls : List Nat, ys = (ls.map sg).map V.str ∧ ls.length = j ∧ ((atN c < j → ls[atN c]? = some (97 + ((bs.getD (atN c) 0 + (i : Int)) % 26).toNat)) ∧ ∀ u ∈ ls, 97 ≤ u) ∧ H2 = H1) ⟨[], rfl, rfl, ⟨(fun z => absurd z (Nat.not_lt_zero _)), fun u hu => nomatch hu⟩, rfl⟩ (by omega) ?_ ?_ ?_
     · rintro j ys H2 hj ⟨ls, rfl, hz, _, rfl⟩
       rw [List.length_map, List.length_map]
       exact hz
     · rintro j ys H2 hj ⟨ls, rfl, hz, hv, rfl⟩
       have hb := at_int0 (ws := bs) (n := j) (by omega)
       rw [show ((j : Nat) : Int) = 0 + (j : Int) by omega] at hb
       generalize hbe : bs.getD j 0 = b at hb
       have m0 := Int.emod_nonneg (b + (0 + (i : Int)) * (if decide (V.int (0 + (j : Int)) = V.int (c % 999983 / 24 % (1 + c % 999983 / 3 % 8))) = true then 1 else 0)) (show (26 : Int) ≠ 0 by decide)
       have m1 := Int.emod_lt_of_pos (b + (0 + (i : Int)) * (if decide (V.int (0 + (j : Int)) = V.int (c % 999983 / 24 % (1 + c % 999983 / 3 % 8))) = true then 1 else 0)) (show (0 : Int) < 26 by decide)
       have mi : (if decide (V.int (0 + (j : Int)) = V.int (c % 999983 / 24 % (1 + c % 999983 / 3 % 8))) = true then (1 : Int) else 0) = 0 ∨ (if decide (V.int (0 + (j : Int)) = V.int (c % 999983 / 24 % (1 + c % 999983 / 3 % 8))) = true then (1 : Int) else 0) = 1 := by split <;> simp
       refine ⟨_, rfl, _, rfl, _, rfl, .inl ⟨bl, _, _, _, rfl, rfl, SqL.of hbb, hb, _, rfl, _, rfl, _, rfl, rfl, .inr ⟨_, rfl, _, _, rfl, rfl, mul_of (by omega) (by omega) (by omega) (by omega), _, _, rfl, rfl, _, _, rfl, rfl, (by show (0 : Int) < 26; decide), .inr (.inr ⟨L26, _, _, rfl, rfl, l26_len, l26_at m0 m1, ?_⟩)⟩⟩⟩
       refine ⟨ls ++ [97 + ((b + (0 + (i : Int)) * (if decide (V.int (0 + (j : Int)) = V.int (c % 999983 / 24 % (1 + c % 999983 / 3 % 8))) = true then 1 else 0)) % 26).toNat], by rw [List.map_append, List.map_append]; rfl, by rw [List.length_append, hz]; rfl, ⟨fun ha => ?_, fun u hu => (List.mem_append.mp hu).elim (hv.2 u) (fun w => by rw [List.mem_singleton.mp w]; omega)⟩, rfl⟩
       rcases Nat.lt_or_eq_of_le (Nat.le_of_lt_succ ha) with w | w
       · rw [List.getElem?_append_left (by omega)]
         exact hv.1 w
       · rw [List.getElem?_append_right (by omega), w, hz, Nat.sub_self]
         have an := Int.emod_nonneg (c % 999983 / 24) (show (1 + c % 999983 / 3 % 8) ≠ 0 by omega)
         have hj1 : (V.int (0 + (j : Int)) = V.int (c % 999983 / 24 % (1 + c % 999983 / 3 % 8))) := congrArg V.int (by rw [← w]; unfold atN; omega)
         rw [if_pos (decide_eq_true hj1), hbe]
         show some (97 + ((b + (0 + (i : Int)) * 1) % 26).toNat) = _
         rw [show b + (0 + (i : Int)) * 1 = b + (i : Int) by omega]
     · rintro ys H2 ⟨ls, rfl, hz, hv, rfl⟩ l3 hl3
       have e3 := squ (o := .lst ((ls.map sg).map V.str)) hl3
       refine ⟨"", l3, ls.map sg, rfl, rfl, SqL.of uqs, join_ok (by rw [List.length_map]; omega) sg_len, ?_⟩
       refine ⟨l, _, _, rfl, rfl, e3 _ _ hll, (by rw [List.length_map]; omega), ?_⟩
       refine ⟨_, xs ++ [Txt.join "" (ls.map sg)], rfl, same_set (eH.trans e3) hlH, (by rw [uqs, List.map_append]; rfl), by rw [List.length_append, hxl]; rfl, ?_, dn_app5 hdn ?_⟩
       · rw [uqn nbl]
         exact e3 _ _ hbb
       · unfold Dn5 Dn
         rw [if_neg h3, txt_cps, hxl]
         refine ⟨hv.1 (by omega), let_sg (by omega) (by omega) hv.2⟩
 · rintro σ H1 ⟨o, xs, rfl, eH, hll, hxl, hbb, hdn⟩
   have hxm : xs.length = m := by omega
   have hnd := dn_nodup (by omega) (fun j x h => (hdn j x h).1)
   have hlt : ∀ x ∈ xs, Let x := fun x hx => by
     obtain ⟨j, hj⟩ := List.mem_iff_getElem?.mp hx
     exact (hdn j x hj).2
   obtain ⟨t, ht⟩ : ∃ t : Nat, c % 999983 / 5 % (m : Int) = (t : Int) := Int.eq_ofNat_of_zero_le (Int.emod_nonneg _ (by omega))
   rw [ht]
   refine ⟨_, rfl, _, rfl, _, rfl, l, _, rfl, SqL.of hll, fun x1 hx1 => ?_⟩
   have s1 := squ (o := .lst (cutV (xs.map V.str) (some (t : Int)) none)) hx1
   refine ⟨_, rfl, _, rfl, _, rfl, l, _, rfl, SqL.of (s1 _ _ hll), fun x2 hx2 => ?_⟩
   have s2 := squ (o := .lst (cutV (xs.map V.str) none (some (t : Int)))) hx2
   obtain ⟨us, hu, lu, nu, mu⟩ := cut_nd xs t hnd
   have hlu := congrArg List.length hu
   rw [List.length_append, List.length_map] at hlu
   refine ⟨x1, x2, _, _, rfl, rfl, s2 _ _ uqs, uqs, by omega, fun x3 hx3 => ?_⟩
   rw [hu]
   exact q x3 us _ (((eH.trans s1).trans s2).trans (squ hx3)) uqs (lu.trans hxm) (fun x hx => hlt x ((mu x).mp hx)) nu
theorem sc__law_coins : FnScope ["_law_cell"] ["_law_cell"] (defScope s__law_coins) := ⟨rfl, rfl, rfl, by decide +kernel, rfl, by decide +kernel, by decide +kernel⟩
theorem ok__law_coins (D : Def K mg "_law_coins" s__law_coins .none) (c__law_names : Cal P w K mg base CX0 true 2 "_law_names" ["_law_cell", "_law_many"] [] spNames) : Cal P w K mg base CX0 true 3 "_law_coins" ["_law_cell"] [] spCoins := by
 obtain ⟨f, fd, F, hm⟩ := D
 obtain ⟨f__law_names, fd__law_names, d__law_names, G__law_names, m__law_names, k__law_names, b__law_names, v__law_names, b__law_names1⟩ := c__law_names
 refine ⟨f, fd, _, F.ok sc__law_coins (fun vs H Q E h => ?_) (fun cdv A outer s H vs Q E hr h => ?_), hm, F.kp, (F.binds fun _ _ _ _ _ _ us hl => match us, hl with | [_], _ => rfl), .nil, F.binds fun _ _ _ _ _ _ us hl => match us, hl with | [_], _ => rfl⟩
 · obtain ⟨c, rfl, q⟩ := h
   rfl
 obtain ⟨c, rfl, q⟩ := h
 have nd := sc__law_coins.nd
 refine ⟨_, (pqc (ps_if (pt_cmpR op_eq (pe_op op_mod (pv 0) pqi) pqi (nomark _)) (pqo (ps_ret (pe_lst (pcx pe_str (pcx pe_str (pcx pe_str (pcx pe_str pnx))))))) pss_nil)
   (pqo (ps_ret (pe_call G__law_names (hr.mono (by decide)) rfl m__law_names k__law_names b__law_names Paired.nil pass0 (pcx (pv 0) (pcx pqi pnx)))))), ?_⟩
 refine ⟨_, rfl, _, _, rfl, rfl, (by show (0 : Int) < 7; decide), rfl, _, rfl, ?_⟩
 refine dec2 (fun h => ⟨(by show 4 ≤ sizeLine; decide), fun l hl => q l ["on", "one", "ones", "b"] _ (squ hl) uqs rfl (by decide +kernel)⟩) (fun h => ?_)
 exact ⟨_, rfl, c, 4, rfl, by decide, by decide, fun l xs H' e h hn _ nd => q l xs H' e h hn nd⟩
theorem sc__law_amount : FnScope ["_law_cell"] ["_law_cell"] (defScope s__law_amount) := ⟨rfl, rfl, rfl, by decide +kernel, rfl, by decide +kernel, by decide +kernel⟩
theorem ok__law_amount (D : Def K mg "_law_amount" s__law_amount .none) : Cal P w K mg base CX0 cm 1 "_law_amount" ["_law_cell"] [] spAmt := by
 obtain ⟨f, fd, F, hm⟩ := D
 refine ⟨f, fd, _, F.ok sc__law_amount (fun vs H Q E h => ?_) (fun cdv A outer s H vs Q E hr h => ?_), hm, F.kp, (F.binds fun _ _ _ _ _ _ us hl => match us, hl with | [_], _ => rfl), .nil, F.binds fun _ _ _ _ _ _ us hl => match us, hl with | [_], _ => rfl⟩
 · obtain ⟨c, rfl, hb, q⟩ := h
   rfl
 obtain ⟨c, rfl, hb, q⟩ := h
 have nd := sc__law_amount.nd
 refine ⟨_, (pqc (ps_if (pt_cmpR op_eq (pe_op op_mod (pv 0) pqi) pqi (nomark _)) (pqo (ps_ret (pe_op op_sub (pe_op op_mod (pe_op op_fdiv (pv 0) pqi) pqi) pqi))) pss_nil)
   (pqc (ps_if (pt_cmpR op_eq (pe_op op_mod (pv 0) pqi) pqi (nomark _)) (pqo (ps_ret (pe_op op_sub (pe_op op_mod (pe_op op_fdiv (pv 0) pqi) pqi) pqi))) pss_nil)
   (pqo (ps_ret (pe_op op_sub (pe_op op_mod (pe_op op_mulB (pe_op op_fdiv (pv 0) pqi) (pe_op op_pow pqi pqi)) (pe_op op_add (pe_op op_mulB pqi (pe_op op_pow pqi pqi)) pqi)) (pe_op op_pow pqi pqi)))))), ?_⟩
 refine ⟨_, rfl, _, _, rfl, rfl, (by show (0 : Int) < 3; decide), rfl, _, rfl, ?_⟩
 refine dec2 (fun h => ⟨_, rfl, _, _, rfl, rfl, ⟨by decide, by decide⟩, _, _, rfl, rfl, (by show (0 : Int) < 7; decide), _, _, rfl, rfl, q _ (by omega)⟩) (fun h => ?_)
 refine ⟨_, rfl, _, _, rfl, rfl, (by show (0 : Int) < 3; decide), rfl, _, rfl, ?_⟩
 refine dec2 (fun h => ⟨_, rfl, _, _, rfl, rfl, ⟨by decide, by decide⟩, _, _, rfl, rfl, (by show (0 : Int) < 2000001; decide), _, _, rfl, rfl, q _ (by omega)⟩) (fun h => ?_)
 exact ⟨_, rfl, _, _, rfl, rfl, ⟨by decide, by decide⟩, _, _, rfl, rfl, ⟨by decide, by decide, by decide⟩, _, _, rfl, rfl, mul_ok7 hb, _, _, rfl, rfl, ⟨by decide, by decide, by decide⟩, _, _, rfl, rfl, .of_left (intBits_le_64 (by decide) (by decide)), _, _, rfl, rfl, _, _, rfl, rfl, (by show (0 : Int) < 2 * 10 ^ 38 + 1; decide), _, _, rfl, rfl, ⟨by decide, by decide, by decide⟩, _, _, rfl, rfl, q _ (m38 _)⟩
theorem sc__law_side : FnScope ["_law_pick", "_law_amount_here", "_law_firms_here", "_law_accounts", "_law_coins_here", "_law_firm", "_law_account"] ["_law_pick", "_law_amount_here", "_law_firms_here", "_law_accounts", "_law_coins_here"] (defScope s__law_side) := ⟨rfl, rfl, rfl, by decide +kernel, rfl, by decide +kernel, by decide +kernel⟩
theorem ok__law_side (D : Def K mg "_law_side" s__law_side .none) (c__law_mix : Cal P w K mg base CX0 cm 1 "_law_mix" ["_law_cell", "_law_by"] [] spMix) (z_len : mg "len" = none) : Cal P w K mg base CX0 cm 2 "_law_side" ["_law_pick", "_law_amount_here", "_law_firms_here", "_law_accounts", "_law_coins_here"] [] spSide := by
 obtain ⟨f, fd, F, hm⟩ := D
 obtain ⟨f__law_mix, fd__law_mix, d__law_mix, G__law_mix, m__law_mix, k__law_mix, b__law_mix, v__law_mix, b__law_mix1⟩ := c__law_mix
 refine ⟨f, fd, _, F.ok sc__law_side (fun vs H Q E h => ?_) (fun cdv A outer s H vs Q E hr h => ?_), hm, F.kp, (F.binds fun _ _ _ _ _ _ us hl => match us, hl with | [_, _, _, _, _], _ => rfl), .nil, F.binds fun _ _ _ _ _ _ us hl => match us, hl with | [_, _, _, _, _], _ => rfl⟩
 · obtain ⟨p, am, fl, al, cl, fs, as, cs, rfl, L, q⟩ := h
   rfl
 obtain ⟨p, am, fl, al, cl, fs, as, cs, rfl, L, q⟩ := h
 have nd := sc__law_side.nd
 refine ⟨_, (pqc (ps_set (i := 5) nd rfl (Or.inl rfl) (pe_ix ix_seq (pv 2) (pe_op op_mod (pe_call G__law_mix (hr.mono (by decide)) rfl m__law_mix k__law_mix b__law_mix Paired.nil pass0 (pcx (pv 0) (pcx pqi pnx))) (pe_callB call_len_seq rfl z_len bt_len (pcx (pv 2) pnx))) (fun _ _ => rfl)))
   (pqc (ps_set (i := 6) nd rfl (Or.inl rfl) (pe_ix ix_seq (pv 3) (pe_op op_mod (pe_call G__law_mix (hr.mono (by decide)) rfl m__law_mix k__law_mix b__law_mix Paired.nil pass0 (pcx (pv 0) (pcx pqi pnx))) pqi) (fun _ _ => rfl)))
   (pqo (ps_ret (pe_tup (pcx (pv 5) (pcx (pv 6) (pcx (pe_ix ix_seq (pv 4) (pe_op op_mod (pe_call G__law_mix (hr.mono (by decide)) rfl m__law_mix k__law_mix b__law_mix Paired.nil pass0 (pcx (pv 0) (pcx pqi pnx))) pqi) (fun _ _ => rfl)) (pcx (pv 1) pnx))))))))), ?_⟩
 have lf := L.lf
 have la := L.la
 have lc := L.lc
 have lm : (fs.map V.str).length = fs.length := List.length_map ..
 refine ⟨_, rfl, _, rfl, p, 48271, rfl, by decide, fun m m0 m1 => ⟨_, rfl, fl, _, rfl, .inl (SqL.of L.f), _, _, rfl, rfl, (by show (0 : Int) < ((fs.map V.str).length : Int); omega), ?_⟩⟩
 obtain ⟨f, mf, hf⟩ := str_in (ws := fs) (i := m % ((fs.map V.str).length : Int)) (Int.emod_nonneg _ (by omega)) (by rw [← lm]; exact Int.emod_lt_of_pos _ (by omega))
 refine .inl ⟨fl, _, _, _, rfl, rfl, SqL.of L.f, hf, ?_⟩
 refine ⟨_, rfl, _, rfl, p, 69621, rfl, by decide, fun m2 n0 n1 => ⟨_, _, rfl, rfl, (by show (0 : Int) < 3; decide), ?_⟩⟩
 obtain ⟨ac, mac, hac⟩ := str_in (ws := as) (i := m2 % 3) (Int.emod_nonneg _ (by omega)) (by omega)
 refine .inl ⟨al, _, _, _, rfl, rfl, SqL.of L.a, hac, ?_⟩
 refine ⟨_, rfl, _, rfl, _, rfl, _, rfl, p, 40692, rfl, by decide, fun m3 k0 k1 => ⟨_, _, rfl, rfl, (by show (0 : Int) < 3; decide), ?_⟩⟩
 obtain ⟨k, hk⟩ : ∃ k : Nat, m3 % 3 = (k : Int) := Int.eq_ofNat_of_zero_le (Int.emod_nonneg _ (by omega))
 have hk3 : k < 3 := by omega
 have hco : atI (cs.map V.str) (m3 % 3) = some (.str (cs.getD k "")) := by
   rw [hk]
   exact str_at (by omega)
 exact .inl ⟨cl, _, _, _, rfl, rfl, SqL.of L.c, hco, _, rfl, (by show 4 ≤ sizeLine; decide), fun t ht => q t f ac _ ht (L.pf f mf) (L.pa ac mac) (take3 hk3 (by omega))⟩
theorem sc__law_sides : FnScope ["_law_script", "_law_firms_here", "_law_accounts", "_law_coins_here", "_law_cells", "_law_sides_here", "_law_k", "_law_more", "_law_pick"] ["_law_script", "_law_firms_here", "_law_accounts", "_law_coins_here"] (defScope s__law_sides) := ⟨rfl, rfl, rfl, by decide +kernel, rfl, by decide +kernel, by decide +kernel⟩
theorem ok__law_sides (D : Def K mg "_law_sides" s__law_sides .none) (c__law_side : Cal P w K mg base CX0 true 2 "_law_side" ["_law_pick", "_law_amount_here", "_law_firms_here", "_law_accounts", "_law_coins_here"] [] spSide) (c__law_amount : Cal P w K mg base CX0 true 1 "_law_amount" ["_law_cell"] [] spAmt) (c__law_cell_at : Cal P w K mg base CX0 true 1 "_law_cell_at" ["_law_script", "_law_k"] [] (spCell K)) (c__law_mix : Cal P w K mg base CX0 true 1 "_law_mix" ["_law_cell", "_law_by"] [] spMix) (z_range : mg "range" = none) (z_len : mg "len" = none) (z_int : mg "int" = none) : Cal P w K mg base CX0 true 3 "_law_sides" ["_law_script", "_law_firms_here", "_law_accounts", "_law_coins_here"] [] (spSides K) := by
 obtain ⟨f, fd, F, hm⟩ := D
 obtain ⟨f__law_side, fd__law_side, d__law_side, G__law_side, m__law_side, k__law_side, b__law_side, v__law_side, b__law_side1⟩ := c__law_side
 obtain ⟨f__law_amount, fd__law_amount, d__law_amount, G__law_amount, m__law_amount, k__law_amount, b__law_amount, v__law_amount, b__law_amount1⟩ := c__law_amount
 obtain ⟨f__law_cell_at, fd__law_cell_at, d__law_cell_at, G__law_cell_at, m__law_cell_at, k__law_cell_at, b__law_cell_at, v__law_cell_at, b__law_cell_at1⟩ := c__law_cell_at
 obtain ⟨f__law_mix, fd__law_mix, d__law_mix, G__law_mix, m__law_mix, k__law_mix, b__law_mix, v__law_mix, b__law_mix1⟩ := c__law_mix
 refine ⟨f, fd, _, F.ok sc__law_sides (fun vs H Q E h => ?_) (fun cdv A outer s H vs Q E hr h => ?_), hm, F.kp, (F.binds fun _ _ _ _ _ _ us hl => match us, hl with | [_, _, _, _], _ => rfl), .nil, F.binds fun _ _ _ _ _ _ us hl => match us, hl with | [_, _, _, _], _ => rfl⟩
 · obtain ⟨a, fl, al, cl, ns, fs, as, cs, rfl, hS, hlen, hb, LS, q⟩ := h
   rfl
 obtain ⟨a, fl, al, cl, ns, fs, as, cs, rfl, hS, hlen, hb, LS, q⟩ := h
 have nd := sc__law_sides.nd
 refine ⟨_, (pqc (ps_set (i := 4) nd rfl (Or.inl rfl) (pe_slice sl_list (pv 0) (po_some pqi) (po_some pqi)))
   (pqc (ps_set (i := 5) nd rfl (Or.inl rfl) (pe_lst pnx))
   (pqc (ps_for PassesOwn.never rfl (pi_range1 rfl z_range (pcx (pe_op op_fdiv (pe_callB call_len_seq rfl z_len bt_len (pcx (pv 4) pnx)) pqi) pnx)) (pg_name (i := 6) nd rfl (Or.inl rfl)) (pqo (ps_expr (pe_bm PySem.F.plainAttrs_list PySem.F.slot_list_append PySem.F.type_list_append mt_append (pv 5) (pcx (pe_call G__law_side (hr.mono (by decide)) rfl m__law_side k__law_side b__law_side Paired.nil pass0 (pcx (pe_ix ix_seq (pv 4) (pe_op op_mulB pqi (pv 6)) (fun _ _ => rfl)) (pcx (pe_call G__law_amount (hr.mono (by decide)) rfl m__law_amount k__law_amount b__law_amount Paired.nil pass0 (pcx (pe_ix ix_seq (pv 4) (pe_op op_add (pe_op op_mulB pqi (pv 6)) pqi) (fun _ _ => rfl)) pnx)) (pcx (pv 1) (pcx (pv 2) (pcx (pv 3) pnx)))))) pnx)))))
   (pqc (ps_set (i := 7) nd rfl (Or.inl rfl) (pe_call G__law_cell_at (hr.mono (by decide)) rfl m__law_cell_at k__law_cell_at b__law_cell_at Paired.nil pass0 (pcx (pv 0) (pcx pqi pnx))))
   (pqc (ps_for PassesOwn.never rfl (pi_range1 rfl z_range (pcx (pe_op op_mulB (pe_op op_mod (pe_op op_fdiv (pv 7) pqi) pqi) (pe_callTy call_int1 rfl z_int bt_int (pcx (pe_cmpR op_eq (pe_op op_mod (pv 7) pqi) pqi (nomark _)) pnx))) pnx)) (pg_name (i := 6) nd rfl (Or.inl rfl)) (pqc (ps_set (i := 8) nd rfl (Or.inl rfl) (pe_call G__law_mix (hr.mono (by decide)) rfl m__law_mix k__law_mix b__law_mix Paired.nil pass0 (pcx (pv 7) (pcx (pe_op op_add pqi (pe_op op_mulB (pe_op op_mulB pqi (pv 6)) (pv 6))) pnx))))
   (pqo (ps_expr (pe_bm PySem.F.plainAttrs_list PySem.F.slot_list_append PySem.F.type_list_append mt_append (pv 5) (pcx (pe_call G__law_side (hr.mono (by decide)) rfl m__law_side k__law_side b__law_side Paired.nil pass0 (pcx (pv 8) (pcx (pe_call G__law_amount (hr.mono (by decide)) rfl m__law_amount k__law_amount b__law_amount Paired.nil pass0 (pcx (pe_call G__law_mix (hr.mono (by decide)) rfl m__law_mix k__law_mix b__law_mix Paired.nil pass0 (pcx (pv 8) (pcx pqi pnx))) pnx)) (pcx (pv 1) (pcx (pv 2) (pcx (pv 3) pnx)))))) pnx))))))
   (pqo (ps_ret (pe_slice sl_list (pv 5) po_none (po_some pqi))))))))), ?_⟩
 have hline : 600 ≤ sizeLine := by decide
 obtain ⟨us, hu, lu, mu⟩ := cut_ints ns (some 7) (some 63)
 refine ⟨_, rfl, _, rfl, _, rfl, a, _, rfl, hS, fun cu hcu => ?_⟩
 rw [hu]
 have e1 := squ (o := .lst (us.map V.int)) hcu
 refine ⟨(by show 0 ≤ sizeLine; decide), fun p hp => ?_⟩
 have e2 := squ (o := .lst []) hp
 have hp0 := e1.free hp
 have ncp : cu ≠ p := nqn uqs hp
 have lum : (us.map V.int).length = us.length := List.length_map ..
 refine ⟨_, rfl, cu, _, rfl, .inl (SqL.of (e2 _ _ uqs)), _, _, rfl, rfl, ⟨by decide, by decide⟩, _, rfl, by omega, by omega, ?_⟩
 refine for_range (fun i σ H' => ∃ (o : Option V) (L : List Sd), σ = [some (.ref a), some (.ref fl), some (.ref al), some (.ref cl), some (.ref cu), some (.ref p), o, none, none] ∧ Same H H' ∧ H' cu = some (.lst (us.map V.int)) ∧ H' p = some (.lst (rfs L)) ∧ L.length ≤ i ∧ Rows cs (2 ^ 127) H' L) ⟨_, [], rfl, e1.trans e2, e2 _ _ uqs, uqs, Nat.le_refl _, fun z hz => nomatch hz⟩ ?_ ?_
 · rintro i σ H1 hi ⟨o, L, rfl, e, hcc, hpp, hlL, hL⟩
   have hi2 : 2 * i + 1 < us.length := by omega
   obtain ⟨c1, _, hc1⟩ := int_in (ws := us) (i := 2 * (0 + (i : Int))) (by omega) (by omega)
   obtain ⟨c2, mc2, hc2⟩ := int_in (ws := us) (i := 2 * (0 + (i : Int)) + 1) (by omega) (by omega)
   refine ⟨_, rfl, .inl ⟨rfl, _, SqL.of hpp⟩, _, rfl, _, rfl, _, _, rfl, rfl, mul_of (by omega) (by omega) (by omega) (by omega), .inl ⟨cu, _, _, _, rfl, rfl, SqL.of hcc, hc1, _, rfl, _, rfl, _, _, rfl, rfl, mul_of (by omega) (by omega) (by omega) (by omega), _, _, rfl, rfl, .inl ⟨cu, _, _, _, rfl, rfl, SqL.of hcc, hc2, c2, rfl, hb c2 (mu c2 mc2), fun am ham => ⟨_, rfl, _, rfl, _, rfl, c1, am, fl, al, cl, fs, as, cs, rfl, LS.same e, fun t f ac co ht hlf hla hco => ?_⟩⟩⟩⟩
   have e5 := squ (o := .tup [.str f, .str ac, .str co, .int am]) ht
   refine ⟨p, _, _, rfl, rfl, e5 _ _ hpp, (by rw [rfs_len]; omega), ?_⟩
   refine ⟨_, L ++ [(t, f, ac, co, am)], rfl, same_set (e.trans e5) hp0, (by rw [uqn ncp]; exact e5 _ _ hcc), (by rw [uqs, rfs_app]; rfl), (by rw [List.length_append]; show L.length + 1 ≤ _; omega), fun z hz => ?_⟩
   rcases List.mem_append.mp hz with w | w
   · exact ⟨tup_keep (e5 _ _ (hL z w).1) (e5 _ _ hpp), (hL z w).2⟩
   · rw [List.mem_singleton.mp w]
     exact ⟨tup_keep uqs (e5 _ _ hpp), hlf, hla, hco, ham⟩
 rintro σ H1 ⟨o, L, rfl, e, hcc, hpp, hlL, hL⟩
 have hL36 : L.length ≤ 40 := by omega
 refine ⟨_, rfl, a, ns, 6, rfl, e.seq hS, ?_⟩
 have mi : (if decide (V.int (ns.getD 6 0 % 8) = V.int 3) = true then (1 : Int) else 0) = 0 ∨ (if decide (V.int (ns.getD 6 0 % 8) = V.int 3) = true then (1 : Int) else 0) = 1 := by split <;> simp
 have mr : 0 ≤ ns.getD 6 0 / 8 % 29 * (if decide (V.int (ns.getD 6 0 % 8) = V.int 3) = true then (1 : Int) else 0) ∧ ns.getD 6 0 / 8 % 29 * (if decide (V.int (ns.getD 6 0 % 8) = V.int 3) = true then (1 : Int) else 0) ≤ 28 := by
   rcases mi with h | h <;> rw [h] <;> omega
 refine ⟨_, rfl, _, _, rfl, rfl, ⟨by decide, by decide⟩, _, _, rfl, rfl, (by show (0 : Int) < 29; decide), _, rfl, _, _, rfl, rfl, (by show (0 : Int) < 8; decide), rfl, .inr ⟨decide (V.int (ns.getD 6 0 % 8) = V.int 3), rfl, _, _, rfl, rfl, mul_of (by omega) (by omega) (by omega) (by omega), _, rfl, by omega, by omega, ?_⟩⟩
 refine for_range (fun i σ H' => ∃ (o o2 : Option V) (L : List Sd), σ = [some (.ref a), some (.ref fl), some (.ref al), some (.ref cl), some (.ref cu), some (.ref p), o, some (.int (ns.getD 6 0)), o2] ∧ Same H H' ∧ H' p = some (.lst (rfs L)) ∧ L.length ≤ 40 + i ∧ Rows cs (2 ^ 127) H' L) ⟨_, _, L, rfl, e, hpp, hL36, hL⟩ ?_ ?_
 · clear hpp hL hL36 hlL hcc e
   rintro i σ H1 hi ⟨o, o2, L, rfl, e, hpp, hlL, hL⟩
   have hi28 : i < 29 := by omega
   have sq := sq29 i hi28
   refine ⟨_, rfl, _, rfl, _, _, rfl, rfl, mul_of (by omega) (by omega) (by omega) (by omega), _, rfl, _, _, rfl, rfl, mul_of (by omega) (by omega) (by omega) (by omega), _, _, rfl, rfl, _, _, rfl, by omega, fun m m0 m1 => ?_⟩
   refine ⟨_, rfl, .inl ⟨rfl, _, SqL.of hpp⟩, _, rfl, _, rfl, m, 39373, rfl, by decide, fun m2 n0 n1 => ⟨m2, rfl, bits_31 n0 n1, fun am ham => ⟨_, rfl, _, rfl, _, rfl, m, am, fl, al, cl, fs, as, cs, rfl, LS.same e, fun t f ac co ht hlf hla hco => ?_⟩⟩⟩
   have e5 := squ (o := .tup [.str f, .str ac, .str co, .int am]) ht
   refine ⟨p, _, _, rfl, rfl, e5 _ _ hpp, (by rw [rfs_len]; omega), ?_⟩
   refine ⟨_, _, L ++ [(t, f, ac, co, am)], rfl, same_set (e.trans e5) hp0, (by rw [uqs, rfs_app]; rfl), (by rw [List.length_append]; show L.length + 1 ≤ _; omega), fun z hz => ?_⟩
   rcases List.mem_append.mp hz with w | w
   · exact ⟨tup_keep (e5 _ _ (hL z w).1) (e5 _ _ hpp), (hL z w).2⟩
   · rw [List.mem_singleton.mp w]
     exact ⟨tup_keep uqs (e5 _ _ hpp), hlf, hla, hco, ham⟩
 · clear hpp hL hL36 hlL hcc e
   rintro σ H1 ⟨o, o2, L, rfl, e, hpp, hlL, hL⟩
   refine ⟨_, rfl, _, rfl, p, _, rfl, SqL.of hpp, fun p2 hp2 => ?_⟩
   have e6 := squ (o := .lst (cutV (rfs L) none (some 36))) hp2
   have cut : cutV (rfs L) none (some 36) = rfs (L.take (min 36 L.length)) := by
     have h := cut_take (rfs L) 36
     rw [rfs_len] at h
     unfold rfs at h ⊢
     rw [List.map_take]
     exact h
   rw [cut] at e6 ⊢
   exact q p2 (L.take (min 36 L.length)) _ (e.trans e6) (e.free hp2) uqs (fun z hz => ⟨e6 _ _ (hL z (List.mem_of_mem_take hz)).1, (hL z (List.mem_of_mem_take hz)).2⟩) (by rw [List.length_take]; omega)
theorem sc__law_closed : FnScope ["_law_sides_here", "_law_firms_here", "_law_accounts", "_law_coins_here", "_law_cell", "_law_made", "_law_k", "_law_rest", "_law_pick", "_law_at"] ["_law_sides_here", "_law_firms_here", "_law_accounts", "_law_coins_here", "_law_cell"] (defScope s__law_closed) := ⟨rfl, rfl, rfl, by decide +kernel, rfl, by decide +kernel, by decide +kernel⟩
theorem ok__law_closed (D : Def K mg "_law_closed" s__law_closed .none) (c__law_mix : Cal P w K mg base CX0 true 1 "_law_mix" ["_law_cell", "_law_by"] [] spMix) (z_list : mg "list" = none) (z_range : mg "range" = none) (z_sum : mg "sum" = none) (z_len : mg "len" = none) : Cal P w K mg base CX0 true 3 "_law_closed" ["_law_sides_here", "_law_firms_here", "_law_accounts", "_law_coins_here", "_law_cell"] [] spClosed := by
 obtain ⟨f, fd, F, hm⟩ := D
 obtain ⟨f__law_mix, fd__law_mix, d__law_mix, G__law_mix, m__law_mix, k__law_mix, b__law_mix, v__law_mix, b__law_mix1⟩ := c__law_mix
 refine ⟨f, fd, _, F.ok sc__law_closed (fun vs H Q E h => ?_) (fun cdv A outer s H vs Q E hr h => ?_), hm, F.kp, (F.binds fun _ _ _ _ _ _ us hl => match us, hl with | [_, _, _, _, _], _ => rfl), .nil, F.binds fun _ _ _ _ _ _ us hl => match us, hl with | [_, _, _, _, _], _ => rfl⟩
 · obtain ⟨sl, fl, al, cl, c, L, fs, as, cs, rfl, hs, hL, hlen, LS, q⟩ := h
   rfl
 obtain ⟨sl, fl, al, cl, c, L, fs, as, cs, rfl, hs, hL, hlen, LS, q⟩ := h
 have nd := sc__law_closed.nd
 refine ⟨_, (pqc (ps_set (i := 5) nd rfl (Or.inl rfl) (pe_callTy call_list_of rfl z_list bt_list (pcx (pv 0) pnx)))
   (pqc (ps_for PassesOwn.never rfl (pi_range1 rfl z_range (pcx pqi pnx)) (pg_name (i := 6) nd rfl (Or.inr rfl)) (pqc (ps_set (i := 7) nd rfl (Or.inl rfl) (pe_callB (call_sum hr) rfl z_sum bt_sum (pcx (pe_lcIf [3, 6] rfl (LcOk.free ["_law_k", "_law_coins_here"] rfl rfl (List.forall_mem_cons.mpr ⟨rfl, (List.forall_mem_cons.mpr ⟨rfl, (fun _ h => nomatch h)⟩)⟩) (by decide +kernel) rfl (by decide +kernel) rfl (by decide +kernel) (show (["_law_side_here", "_law_coins_here", "_law_k"] : List Str).Nodup from by decide +kernel) (List.forall_mem_cons.mpr ⟨⟨_, rfl, rfl, rfl, by decide +kernel⟩, (List.forall_mem_cons.mpr ⟨⟨_, rfl, rfl, rfl, by decide +kernel⟩, (fun _ h => nomatch h)⟩)⟩)) (pi_list (pv 5)) (fun C s2 H2 fp xe => (pt_cmpR op_eq (pe_ix ix_seqC (pv 0) pqi (fun _ _ => rfl)) (pe_ix ix_seqC (pv 1) (pv 2) (fun _ _ => rfl)) (nomark _))) (fun C s2 H2 fp xe => (pe_ix ix_seqC (pv 0) pqi (fun _ _ => rfl)))) pnx)))
   (pqo (ps_if (pt_cmpR op_ne (pv 7) pqi (nomark _)) (pqc (ps_set (i := 8) nd rfl (Or.inl rfl) (pe_call G__law_mix (hr.mono (by decide)) rfl m__law_mix k__law_mix b__law_mix Paired.nil pass0 (pcx (pv 4) (pcx (pe_ix ix_seq (pe_lst (pcx pqi (pcx pqi (pcx pqi pnx)))) (pv 6) (fun _ _ => rfl)) pnx))))
   (pqc (ps_set (i := 9) nd rfl (Or.inl rfl) (pe_op op_mod (pe_call G__law_mix (hr.mono (by decide)) rfl m__law_mix k__law_mix b__law_mix Paired.nil pass0 (pcx (pv 4) (pcx (pe_ix ix_seq (pe_lst (pcx pqi (pcx pqi (pcx pqi pnx)))) (pv 6) (fun _ _ => rfl)) pnx))) (pe_op op_add (pe_callB call_len_seq rfl z_len bt_len (pcx (pv 5) pnx)) pqi)))
   (pqo (ps_expr (pe_bm PySem.F.plainAttrs_list PySem.F.slot_list_insert PySem.F.type_list_insert mt_insert (pv 5) (pcx (pv 9) (pcx (pe_tup (pcx (pe_ix ix_seq (pv 1) (pe_op op_mod (pv 8) (pe_callB call_len_seq rfl z_len bt_len (pcx (pv 1) pnx))) (fun _ _ => rfl)) (pcx (pe_ix ix_seq (pv 2) (pe_op op_mod (pe_op op_fdiv (pv 8) pqi) pqi) (fun _ _ => rfl)) (pcx (pe_ix ix_seq (pv 3) (pv 6) (fun _ _ => rfl)) (pcx (pe_un un_neg (pv 7)) pnx))))) pnx))))))) pss_nil))))
   (pqo (ps_ret (pv 5))))), ?_⟩
 have hline : 10 ^ 6 ≤ sizeLine := by decide
 have lf := LS.lf
 have la := LS.la
 have lc := LS.lc
 have lm : (fs.map V.str).length = fs.length := List.length_map ..
 refine ⟨_, rfl, sl, _, rfl, .inl (SqL.of hs), fun p hp => ?_⟩
 have e1 := squ (o := .lst (rfs L)) hp
 refine ⟨_, rfl, by decide, by decide, ?_⟩
 refine for_range (fun i σ H' => ∃ (o1 o2 o3 o4 : Option V) (L' : List Sd), σ = [some (.ref sl), some (.ref fl), some (.ref al), some (.ref cl), some (.int c), some (.ref p), o1, o2, o3, o4] ∧ Same H H' ∧ H' p = some (.lst (rfs L')) ∧ L'.length ≤ 36 + i ∧ Rows cs (bnd i) H' L' ∧ ∀ j, j < i → N21.tot (cs.getD j "") (prs L') = 0) ⟨_, _, _, _, L, rfl, e1, uqs, hlen, (hL.le (show 2 ^ 127 ≤ bnd 0 by decide)).same e1, fun j hj => absurd hj (Nat.not_lt_zero _)⟩ ?_ ?_
 · rintro i σ H1 hi ⟨o1, o2, o3, o4, L', rfl, e, hpp, hlL, hL', hz0⟩
   have hi3 : i < 3 := hi
   have hbb : bnd i ≤ bnd (i + 1) := by rw [bnd_s]; omega
   have L1 := LS.same e
   have hck : atI (cs.map V.str) (0 + (i : Int)) = some (.str (cs.getD i "")) := by
     rw [show (0 + (i : Int)) = ((i : Nat) : Int) by omega]
     exact str_at (by omega)
   refine ⟨_, rfl, p, rfl, ⟨_, SqL.of hpp⟩, ?_⟩
   refine lc_listIf (xs := rfs L') (fun j ys H2 => ys = (((prs (L'.take j)).filter (fun q => decide (q.1 = cs.getD i ""))).map (·.2)).map V.int ∧ H2 = H1) ⟨rfl, rfl⟩ (by rw [rfs_len]; omega) ?_ ?_ ?_
   · rintro j ys H2 hj ⟨rfl, rfl⟩
     refine ⟨SqL.of hpp, ?_⟩
     rw [List.length_map, List.length_map]
     have h1 := List.length_filter_le (fun q => decide (q.1 = cs.getD i "")) (prs (L'.take j))
     rw [prs_len, List.length_take] at h1
     omega
   · rintro j x ys H2 hx ⟨rfl, rfl⟩
     obtain ⟨z, hz, rfl⟩ := rfs_at hx
     have hT := SqT.of (K := K) (hL' z (List.mem_of_getElem? hz)).1
     refine ⟨_, rfl, .inr (.inl ⟨z.1, _, 2, _, rfl, rfl, hT, rfl, _, rfl, _, rfl, .inl ⟨cl, _, _, _, rfl, rfl, SqL.of L1.c, hck, rfl, _, rfl, ?_⟩⟩)⟩
     refine dec2 (fun h => ?_) (fun h => ?_)
     · refine ⟨_, rfl, .inr (.inl ⟨z.1, _, 3, _, rfl, rfl, hT, rfl, ?_, rfl⟩)⟩
       rw [prs_snoc hz, List.filter_append, List.filter_cons_of_pos (by simpa using V.str.inj h), List.map_append, List.map_append]
       rfl
     · refine ⟨?_, rfl⟩
       rw [prs_snoc hz, List.filter_append, List.filter_cons_of_neg (by simpa using fun z => h (congrArg V.str z))]
       simp
   rintro ys H2 ⟨rfl, rfl⟩ l3 hl3
   rw [rfs_len, List.take_length]
   have e3 := squ (o := .lst ((((prs L').filter (fun q => decide (q.1 = cs.getD i ""))).map (·.2)).map V.int)) hl3
   refine ⟨l3, _, rfl, SqL.of uqs, ?_⟩
   rw [N21.tot_filter]
   have L3 := L1.same e3
   refine ⟨_, rfl, rfl, _, rfl, ?_⟩
   refine ndec2 (fun h => ?_) (fun h => ?_)
   · have hne : N21.tot (cs.getD i "") (prs L') ≠ 0 := fun z => h (congrArg V.int z)
     obtain ⟨v1, hv1, w1⟩ := three3 39373 62089 52774 hi3
     obtain ⟨v2, hv2, w2⟩ := three3 30269 45991 16807 hi3
     refine ⟨_, rfl, (by show 3 ≤ sizeLine; decide), fun q1 hq1 => ⟨_, rfl, .inl ⟨q1, _, _, _, rfl, rfl, SqL.of uqs, hv1, _, _, rfl, by omega, fun m m0 m1 => ?_⟩⟩⟩
     have f1 := squ (o := .lst [.int 39373, .int 62089, .int 52774]) hq1
     refine ⟨_, rfl, (by show 3 ≤ sizeLine; decide), fun q2 hq2 => ⟨_, rfl, .inl ⟨q2, _, _, _, rfl, rfl, SqL.of uqs, hv2, _, _, rfl, by omega, fun m2 n0 n1 => ?_⟩⟩⟩
     have f2 := squ (o := .lst [.int 30269, .int 45991, .int 16807]) hq2
     have f12 := f1.trans f2
     have hp3 := f12 _ _ (e3 _ _ hpp)
     have L5 := L3.same f12
     refine ⟨_, rfl, p, _, rfl, .inl (SqL.of hp3), _, _, rfl, rfl, _, _, rfl, rfl, (by show (0 : Int) < ((rfs L').length : Int) + 1; omega), ?_⟩
     obtain ⟨t, ht⟩ : ∃ t : Nat, m2 % (((rfs L').length : Int) + 1) = (t : Int) := Int.eq_ofNat_of_zero_le (Int.emod_nonneg _ (by omega))
     have htl := Int.emod_lt_of_pos m2 (show (0 : Int) < ((rfs L').length : Int) + 1 by omega)
     have hte : (fun i j => V.int (i % j)) m2 (((rfs L').length : Int) + 1) = V.int (t : Int) := congrArg V.int ht
     rw [hte]
     rw [ht] at htl
     have rl := rfs_len L'
     refine ⟨_, rfl, .inl ⟨rfl, _, SqL.of hp3⟩, _, rfl, _, rfl, _, rfl, _, rfl, fl, _, rfl, .inl (SqL.of L5.f), _, _, rfl, rfl, (by show (0 : Int) < ((fs.map V.str).length : Int); omega), ?_⟩
     obtain ⟨f, mf, hf⟩ := str_in (ws := fs) (i := m % ((fs.map V.str).length : Int)) (Int.emod_nonneg _ (by omega)) (by rw [← lm]; exact Int.emod_lt_of_pos _ (by omega))
     refine .inl ⟨fl, _, _, _, rfl, rfl, SqL.of L5.f, hf, _, rfl, _, rfl, _, _, rfl, rfl, ⟨by decide, by decide⟩, _, _, rfl, rfl, (by show (0 : Int) < 3; decide), ?_⟩
     obtain ⟨ac, mac, hac⟩ := str_in (ws := as) (i := m / 7 % 3) (Int.emod_nonneg _ (by omega)) (by omega)
     refine .inl ⟨al, _, _, _, rfl, rfl, SqL.of L5.a, hac, _, rfl, _, rfl, .inl ⟨cl, _, _, _, rfl, rfl, SqL.of L5.c, hck, _, rfl, _, rfl, (by show 4 ≤ sizeLine; decide), fun tp htp => ?_⟩⟩
     have e4 := squ (o := .tup [.str f, .str ac, .str (cs.getD i ""), .int (-N21.tot (cs.getD i "") (prs L'))]) htp
     have hp4 := e4 _ _ hp3
     refine ⟨p, _, t, _, rfl, rfl, hp4, by omega, by omega, ?_⟩
     refine ⟨_, _, _, _, L'.take t ++ (tp, f, ac, cs.getD i "", -N21.tot (cs.getD i "") (prs L')) :: L'.drop t, rfl, same_set (((e.trans e3).trans f12).trans e4) hp, ?_, ?_, fun z hz => ?_, fun j hj => ?_⟩
     · rw [uqs]
       unfold rfs
       rw [List.map_append, List.map_cons, List.map_take, List.map_drop]
     · rw [List.length_append, List.length_cons, List.length_take, List.length_drop]
       omega
     · rcases List.mem_append.mp hz with w | w
       · exact ⟨tup_keep (e4 _ _ (f12 _ _ (e3 _ _ (hL' z (List.mem_of_mem_take w)).1))) hp4, ((hL'.le hbb) z (List.mem_of_mem_take w)).2⟩
       · rcases List.mem_cons.mp w with w | w
         · rw [w]
           exact ⟨tup_keep uqs hp4, LS.pf f mf, LS.pa ac mac, take3 hi3 (by omega), (by have := rows_tot hL' (cs.getD i "") (by omega); rw [bnd_s]; show (-N21.tot (cs.getD i "") (prs L')).natAbs ≤ _; rw [Int.natAbs_neg]; exact this)⟩
         · exact ⟨tup_keep (e4 _ _ (f12 _ _ (e3 _ _ (hL' z (List.mem_of_mem_drop w)).1))) hp4, ((hL'.le hbb) z (List.mem_of_mem_drop w)).2⟩
     · rw [tot_ins]
       show _ + (if cs.getD i "" = cs.getD j "" then -N21.tot (cs.getD i "") (prs L') else 0) = 0
       by_cases hji : cs.getD i "" = cs.getD j ""
       · rw [if_pos hji, ← hji]
         omega
       · have hji2 : j ≠ i := fun z => hji (by rw [z])
         rw [if_neg hji, hz0 j (by omega)]
         rfl
   · refine ⟨_, _, _, _, L', rfl, e.trans e3, e3 _ _ hpp, by omega, (hL'.le hbb).same e3, fun j hj => ?_⟩
     by_cases hji : j = i
     · rw [hji]
       exact V.int.inj h
     · exact hz0 j (by omega)
 · rintro σ H1 ⟨o1, o2, o3, o4, L', rfl, e, hpp, hlL, hL', hz0⟩
   exact ⟨_, rfl, q p L' _ e hp hpp (hL'.le (by show 2 ^ 127 * 64 ^ 3 ≤ 2 ^ 145; decide)) hlL hz0⟩
theorem sc__law_firms : FnScope ["_law_script", "_law_cell"] ["_law_script"] (defScope s__law_firms) := ⟨rfl, rfl, rfl, by decide +kernel, rfl, by decide +kernel, by decide +kernel⟩
theorem ok__law_firms (D : Def K mg "_law_firms" s__law_firms .none) (c__law_cell_at : Cal P w K mg base CX0 true 1 "_law_cell_at" ["_law_script", "_law_k"] [] (spCell K)) (c__law_names : Cal P w K mg base CX0 true 2 "_law_names" ["_law_cell", "_law_many"] [] spNames) (c__law_mix : Cal P w K mg base CX0 true 1 "_law_mix" ["_law_cell", "_law_by"] [] spMix) : Cal P w K mg base CX0 true 3 "_law_firms" ["_law_script"] [] (spFirms K) := by
 obtain ⟨f, fd, F, hm⟩ := D
 obtain ⟨f__law_cell_at, fd__law_cell_at, d__law_cell_at, G__law_cell_at, m__law_cell_at, k__law_cell_at, b__law_cell_at, v__law_cell_at, b__law_cell_at1⟩ := c__law_cell_at
 obtain ⟨f__law_names, fd__law_names, d__law_names, G__law_names, m__law_names, k__law_names, b__law_names, v__law_names, b__law_names1⟩ := c__law_names
 obtain ⟨f__law_mix, fd__law_mix, d__law_mix, G__law_mix, m__law_mix, k__law_mix, b__law_mix, v__law_mix, b__law_mix1⟩ := c__law_mix
 refine ⟨f, fd, _, F.ok sc__law_firms (fun vs H Q E h => ?_) (fun cdv A outer s H vs Q E hr h => ?_), hm, F.kp, (F.binds fun _ _ _ _ _ _ us hl => match us, hl with | [_], _ => rfl), .nil, F.binds fun _ _ _ _ _ _ us hl => match us, hl with | [_], _ => rfl⟩
 · obtain ⟨a, ns, rfl, hS, q⟩ := h
   rfl
 obtain ⟨a, ns, rfl, hS, q⟩ := h
 have nd := sc__law_firms.nd
 refine ⟨_, (pqc (ps_set (i := 1) nd rfl (Or.inl rfl) (pe_call G__law_cell_at (hr.mono (by decide)) rfl m__law_cell_at k__law_cell_at b__law_cell_at Paired.nil pass0 (pcx (pv 0) (pcx pqi pnx))))
   (pqo (ps_ret (pe_slice sl_list (pe_call G__law_names (hr.mono (by decide)) rfl m__law_names k__law_names b__law_names Paired.nil pass0 (pcx (pv 1) (pcx pqi pnx))) po_none (po_some (pe_op op_add pqi (pe_op op_mod (pe_call G__law_mix (hr.mono (by decide)) rfl m__law_mix k__law_mix b__law_mix Paired.nil pass0 (pcx (pv 1) (pcx pqi pnx))) pqi))))))), ?_⟩
 refine ⟨_, rfl, a, ns, 0, rfl, hS, ?_⟩
 refine ⟨_, rfl, _, 6, rfl, by decide, by decide, fun l xs H1 e1 hl hx hlt hnd => ?_⟩
 refine ⟨_, rfl, _, 40014, rfl, by decide, fun m m0 m1 => ⟨_, _, rfl, rfl, (by show (0 : Int) < 6; decide), _, _, rfl, rfl, _, rfl, l, _, rfl, SqL.of hl, fun p2 hp2 => ?_⟩⟩
 obtain ⟨t, ht⟩ : ∃ t : Nat, 1 + m % 6 = (t : Int) := Int.eq_ofNat_of_zero_le (by omega)
 rw [ht]
 obtain ⟨us, hu, lu, mu⟩ := cut_head xs t
 rw [hu]
 exact q p2 us _ (e1.trans (squ hp2)) uqs (by omega) (by omega) fun x m => hlt x (mu x m)
theorem sc__law_rate : FnScope ["_law_one", "_law_other"] ["_law_one", "_law_other"] (defScope s__law_rate) := ⟨rfl, rfl, rfl, by decide +kernel, rfl, by decide +kernel, by decide +kernel⟩
theorem ok__law_rate (D : Def K mg "_law_rate" s__law_rate .none) : Cal P w K mg base CX0 cm 1 "_law_rate" ["_law_one", "_law_other"] [] spRt1 := by
 obtain ⟨f, fd, F, hm⟩ := D
 refine ⟨f, fd, _, F.ok sc__law_rate (fun vs H Q E h => ?_) (fun cdv A outer s H vs Q E hr h => ?_), hm, F.kp, (F.binds fun _ _ _ _ _ _ us hl => match us, hl with | [_, _], _ => rfl), .nil, F.binds fun _ _ _ _ _ _ us hl => match us, hl with | [_, _], _ => rfl⟩
 · obtain ⟨o, u, rfl, q⟩ := h
   rfl
 obtain ⟨o, u, rfl, q⟩ := h
 have nd := sc__law_rate.nd
 refine ⟨_, (pqc (ps_if (pt_cmpR op_eq (pe_op op_mod (pv 0) pqi) pqi (nomark _)) (pqo (ps_ret (pe_tup (pcx (pe_op op_add (pe_op op_mod (pe_op op_fdiv (pv 0) pqi) pqi) pqi) (pcx (pe_ix ix_seq (pe_lst (pcx pqi (pcx pqi (pcx pqi (pcx pqi (pcx pqi pnx)))))) (pe_op op_mod (pv 1) pqi) (fun _ _ => rfl)) pnx))))) pss_nil)
   (pqo (ps_ret (pe_tup (pcx (pe_op op_add (pe_op op_mod (pv 0) (pe_op op_pow pqi pqi)) pqi) (pcx (pe_op op_add (pe_op op_mod (pv 1) (pe_op op_pow pqi pqi)) pqi) pnx)))))), ?_⟩
 refine ⟨_, rfl, _, _, rfl, rfl, (by show (0 : Int) < 3; decide), rfl, _, rfl, ?_⟩
 refine dec2 (fun h => ?_) (fun h => ?_)
 · refine ⟨_, rfl, _, _, rfl, rfl, ⟨by decide, by decide⟩, _, _, rfl, rfl, (by show (0 : Int) < 99; decide), _, _, rfl, rfl, (by show 5 ≤ sizeLine; decide), fun l hl => ⟨_, rfl, _, _, rfl, rfl, (by show (0 : Int) < 5; decide), .inl ?_⟩⟩
   obtain ⟨v, e, hv⟩ := five 2 2 4 10 6 (Int.emod_nonneg u (show (5 : Int) ≠ 0 by decide)) (Int.emod_lt_of_pos u (by decide))
   refine ⟨l, _, _, _, rfl, rfl, SqL.of uqs, e, (by show 2 ≤ sizeLine; decide), fun r hr => ?_⟩
   exact q r _ v _ ((squ hl).trans (squ hr)) uqs (by show 1 ≤ o / 3 % 99 + 1; omega) (by show o / 3 % 99 + 1 ≤ 2 ^ 40; omega) (by omega) (by omega)
 · refine ⟨_, rfl, _, _, rfl, rfl, ⟨by decide, by decide, by decide⟩, _, _, rfl, rfl, (by show (0 : Int) < 10 ^ 9; decide), _, _, rfl, rfl, _, rfl, _, _, rfl, rfl, ⟨by decide, by decide, by decide⟩, _, _, rfl, rfl, (by show (0 : Int) < 10 ^ 9; decide), _, _, rfl, rfl, (by show 2 ≤ sizeLine; decide), fun r hr => ?_⟩
   exact q r _ _ _ (squ hr) uqs (m9r _).1 (m9r _).2 (m9r _).1 (m9r _).2
theorem sc__law_table : FnScope ["_law_script", "_law_coins_here", "_law_told_here", "_law_table_here", "_law_k", "_law_one", "_law_other"] ["_law_script", "_law_coins_here", "_law_told_here"] (defScope s__law_table) := ⟨rfl, rfl, rfl, by decide +kernel, rfl, by decide +kernel, by decide +kernel⟩
theorem ok__law_table (D : Def K mg "_law_table" s__law_table .none) (c__law_cell_at : Cal P w K mg base CX0 true 1 "_law_cell_at" ["_law_script", "_law_k"] [] (spCell K)) (c__law_rate : Cal P w K mg base CX0 true 1 "_law_rate" ["_law_one", "_law_other"] [] spRt1) (z_range : mg "range" = none) (z_len : mg "len" = none) : Cal P w K mg base CX0 true 2 "_law_table" ["_law_script", "_law_coins_here", "_law_told_here"] [] (spTab K) := by
 obtain ⟨f, fd, F, hm⟩ := D
 obtain ⟨f__law_cell_at, fd__law_cell_at, d__law_cell_at, G__law_cell_at, m__law_cell_at, k__law_cell_at, b__law_cell_at, v__law_cell_at, b__law_cell_at1⟩ := c__law_cell_at
 obtain ⟨f__law_rate, fd__law_rate, d__law_rate, G__law_rate, m__law_rate, k__law_rate, b__law_rate, v__law_rate, b__law_rate1⟩ := c__law_rate
 refine ⟨f, fd, _, F.ok sc__law_table (fun vs H Q E h => ?_) (fun cdv A outer s H vs Q E hr h => ?_), hm, F.kp, (F.binds fun _ _ _ _ _ _ us hl => match us, hl with | [_, _, _], _ => rfl), .nil, F.binds fun _ _ _ _ _ _ us hl => match us, hl with | [_, _, _], _ => rfl⟩
 · obtain ⟨a, cl, ns, cs, t, rfl, hS, hcl, hc4, q⟩ := h
   rfl
 obtain ⟨a, cl, ns, cs, t, rfl, hS, hcl, hc4, q⟩ := h
 have nd := sc__law_table.nd
 refine ⟨_, (pqc (ps_set (i := 3) nd rfl (Or.inl rfl) pe_dnewK)
   (pqc (ps_for PassesOwn.never rfl (pi_range1 rfl z_range (pcx (pe_callB call_len_seq rfl z_len bt_len (pcx (pv 1) pnx)) pnx)) (pg_name (i := 4) nd rfl (Or.inl rfl)) (pqc (ps_set (i := 5) nd rfl (Or.inl rfl) (pe_op op_mod (pe_op op_mulB (pe_op op_add (pe_op op_mod (pe_call G__law_cell_at (hr.mono (by decide)) rfl m__law_cell_at k__law_cell_at b__law_cell_at Paired.nil pass0 (pcx (pv 0) (pcx pqi pnx))) pqi) pqi) (pe_op op_add pqi (pe_op op_mulB pqi (pv 4)))) pqi))
   (pqc (ps_set (i := 6) nd rfl (Or.inl rfl) (pe_op op_mod (pe_op op_mulB (pe_op op_add (pe_op op_mod (pe_call G__law_cell_at (hr.mono (by decide)) rfl m__law_cell_at k__law_cell_at b__law_cell_at Paired.nil pass0 (pcx (pv 0) (pcx pqi pnx))) pqi) pqi) (pe_op op_add pqi (pe_op op_mulB pqi (pv 4)))) pqi))
   (pqo (ps_dput (hu_of hr) (pv 3) (pe_ix ix_seq (pv 1) (pv 4) (fun _ _ => rfl)) (pe_call G__law_rate (hr.mono (by decide)) rfl m__law_rate k__law_rate b__law_rate Paired.nil pass0 (pcx (pv 5) (pcx (pv 6) pnx))) rfl)))))
   (pqc (ps_dput (hu_of hr) (pv 3) (pv 2) (pe_tup (pcx pqi (pcx pqi pnx))) rfl)
   (pqo (ps_ret (pv 3)))))), ?_⟩
 have hline : 600 ≤ sizeLine := by decide
 have lcm : (cs.map V.str).length = cs.length := List.length_map ..
 refine fun d hd => ?_
 have e1 := squ (o := .dK []) hd
 refine ⟨_, rfl, cl, _, rfl, .inl (SqL.of (e1 _ _ hcl)), _, rfl, by omega, by omega, ?_⟩
 refine for_range (fun i σ H' => ∃ (o1 o2 o3 : Option V) (kvs : List (Key × V)), σ = [some (.ref a), some (.ref cl), some (.str t), some (.ref d), o1, o2, o3] ∧ Same H H' ∧ H' d = some (.dK kvs) ∧ kvs.length ≤ i ∧ ∀ c ∈ cs.take i, T2 H' kvs c) ⟨_, _, _, [], rfl, e1, uqs, Nat.le_refl _, fun c hc => nomatch hc⟩ ?_ ?_
 · rintro i σ H1 hi ⟨o1, o2, o3, kvs, rfl, e, hdd, hkl, hT⟩
   have hi4 : i < cs.length := by omega
   refine ⟨_, rfl, a, ns, 2, rfl, e.seq hS, _, _, rfl, rfl, (by show (0 : Int) < 2147483647; decide), _, _, rfl, rfl, _, rfl, _, _, rfl, rfl, mul_of (by omega) (by omega) (by omega) (by omega), _, _, rfl, rfl, _, _, rfl, rfl, mul_of (by omega) (by omega) (by omega) (by omega), _, _, rfl, rfl, (by show (0 : Int) < 999999937; decide), ?_⟩
   refine ⟨_, rfl, a, ns, 3, rfl, e.seq hS, _, _, rfl, rfl, (by show (0 : Int) < 2147483647; decide), _, _, rfl, rfl, _, rfl, _, _, rfl, rfl, mul_of (by omega) (by omega) (by omega) (by omega), _, _, rfl, rfl, _, _, rfl, rfl, mul_of (by omega) (by omega) (by omega) (by omega), _, _, rfl, rfl, (by show (0 : Int) < 999999937; decide), ?_⟩
   have hck : atI (cs.map V.str) (0 + (i : Int)) = some (.str (cs.getD i "")) := by
     rw [show (0 + (i : Int)) = ((i : Nat) : Int) by omega]
     exact str_at hi4
   refine ⟨_, rfl, _, rfl, _, _, rfl, fun r x y H2 f2 hr x1 x2 y1 y2 => ?_⟩
   have hdd2 := f2 _ _ hdd
   refine ⟨_, rfl, _, rfl, _, rfl, .inl ⟨cl, _, _, _, rfl, rfl, SqL.of (f2 _ _ (e _ _ hcl)), hck, d, _, rfl, DPut.k (k := kS (cs.getD i "")) hdd2 (by omega), ?_⟩⟩
   have kp : ∀ b o, H2 b = some (.tup o) → upd H2 d (.dK (putK kvs (kS (cs.getD i "")) (.ref r))) b = some (.tup o) := fun b o hb => by
     rw [uqn (ne_of hb hdd2 (by intro z; cases z))]
     exact hb
   refine ⟨_, _, _, putK kvs (kS (cs.getD i "")) (.ref r), rfl, same_set (e.trans f2) hd, uqs, ?_, fun c hc => ?_⟩
   · have := length_putK kvs (kS (cs.getD i "")) (V.ref r)
     omega
   · refine t2_put (H := H2) ?_ kp (kp _ _ hr) x1 x2 y1 y2
     have hcz : cs[i]? = some (cs.getD i "") := by rw [List.getD, List.getElem?_eq_getElem hi4]; rfl
     rw [List.take_succ, hcz] at hc
     rcases List.mem_append.mp hc with w | w
     · obtain ⟨r', x', y', a1, a2, a3⟩ := hT c w
       exact .inr ⟨r', x', y', a1, f2 _ _ a2, a3⟩
     · exact .inl (List.mem_singleton.mp w)
 rintro σ H1 ⟨o1, o2, o3, kvs, rfl, e, hdd, hkl, hT⟩
 have hT4 : ∀ c ∈ cs, T2 H1 kvs c := fun c hc => hT c (by rw [List.take_of_length_le (by omega)]; exact hc)
 refine ⟨(by show 2 ≤ sizeLine; decide), fun r hr => ?_⟩
 have f1 := squ (o := .tup [.int 1, .int 1]) hr
 have hdd2 := f1 _ _ hdd
 refine ⟨_, rfl, _, rfl, d, _, rfl, DPut.k (k := kS t) hdd2 (by omega), ?_⟩
 have kp : ∀ b o, upd H1 r (.tup [.int 1, .int 1]) b = some (.tup o) → upd (upd H1 r (.tup [.int 1, .int 1])) d (.dK (putK kvs (kS t) (.ref r))) b = some (.tup o) := fun b o hb => by
   rw [uqn (ne_of hb hdd2 (by intro z; cases z))]
   exact hb
 refine ⟨_, rfl, q d _ _ (same_set (e.trans f1) hd) uqs (fun c hc => ?_) ⟨r, (by rw [valV_put]; exact if_pos rfl), kp _ _ uqs⟩⟩
 obtain ⟨r', x', y', a1, a2, a3⟩ := hT4 c hc
 exact t2_put (H := upd H1 r (.tup [.int 1, .int 1])) (.inr ⟨r', x', y', a1, f1 _ _ a2, a3⟩) kp (kp _ _ uqs) (by decide) (by decide) (by decide) (by decide)
theorem sc__law_told_coin : FnScope ["_law_cell", "_law_coins_here"] ["_law_cell", "_law_coins_here"] (defScope s__law_told_coin) := ⟨rfl, rfl, rfl, by decide +kernel, rfl, by decide +kernel, by decide +kernel⟩
theorem ok__law_told_coin (D : Def K mg "_law_told_coin" s__law_told_coin .none) : Cal P w K mg base CX0 cm 1 "_law_told_coin" ["_law_cell", "_law_coins_here"] [] spTc := by
 obtain ⟨f, fd, F, hm⟩ := D
 refine ⟨f, fd, _, F.ok sc__law_told_coin (fun vs H Q E h => ?_) (fun cdv A outer s H vs Q E hr h => ?_), hm, F.kp, (F.binds fun _ _ _ _ _ _ us hl => match us, hl with | [_, _], _ => rfl), .nil, F.binds fun _ _ _ _ _ _ us hl => match us, hl with | [_, _], _ => rfl⟩
 · obtain ⟨c, cl, cs, rfl, hcl, hc4, q⟩ := h
   rfl
 obtain ⟨c, cl, cs, rfl, hcl, hc4, q⟩ := h
 have nd := sc__law_told_coin.nd
 refine ⟨_, (pqc (ps_if (pt_cmpR op_eq (pe_op op_mod (pv 0) pqi) pqi (nomark _)) (pqo (ps_ret pe_str)) pss_nil)
   (pqo (ps_ret (pe_ix ix_seq (pv 1) (pe_op op_mod (pe_op op_fdiv (pv 0) pqi) pqi) (fun _ _ => rfl))))), ?_⟩
 refine ⟨_, rfl, _, _, rfl, rfl, (by show (0 : Int) < 7; decide), rfl, _, rfl, ?_⟩
 refine dec2 (fun h => q _) (fun h => ?_)
 obtain ⟨w, _, hw⟩ := str_in (ws := cs) (i := c / 7 % 4) (Int.emod_nonneg _ (by decide)) (by omega)
 exact ⟨_, rfl, _, rfl, _, _, rfl, rfl, ⟨by decide, by decide⟩, _, _, rfl, rfl, (by show (0 : Int) < 4; decide), .inl ⟨cl, _, _, _, rfl, rfl, SqL.of hcl, hw, q w⟩⟩
theorem sc__law_rates : FnScope ["_law_told_here"] ["_law_told_here"] (defScope s__law_rates) := ⟨rfl, rfl, rfl, by decide +kernel, rfl, by decide +kernel, by decide +kernel⟩
theorem ok__law_rates (D : Def K mg "_law_rates" s__law_rates .none) {C_Rates : Addr} (c_Rates___init__ : CalI P w K mg base CX0 true 1 C_Rates ["self", "told"] [.str "one"] (spInit K C_Rates)) (m_Rates : mg "Rates" = some (.ref C_Rates)) : Cal P w K mg base CX0 true 3 "_law_rates" ["_law_told_here"] [] (spRts K C_Rates) := by
 obtain ⟨f, fd, F, hm⟩ := D
 obtain ⟨f_Rates___init__, fd_Rates___init__, d_Rates___init__, G_Rates___init__, M_Rates, b_Rates___init__, v_Rates___init__, b_Rates___init__1⟩ := c_Rates___init__
 refine ⟨f, fd, _, F.ok sc__law_rates (fun vs H Q E h => ?_) (fun cdv A outer s H vs Q E hr h => ?_), hm, F.kp, (F.binds fun _ _ _ _ _ _ us hl => match us, hl with | [_], _ => rfl), .nil, F.binds fun _ _ _ _ _ _ us hl => match us, hl with | [_], _ => rfl⟩
 · obtain ⟨t, rfl, q⟩ := h
   rfl
 obtain ⟨t, rfl, q⟩ := h
 have nd := sc__law_rates.nd
 refine ⟨_, (pqc (ps_if (pt_cmpR op_eq (pv 0) pe_str (nomark _)) (pqo (ps_ret (pe_make0 M_Rates G_Rates___init__ (hr.mono (by decide)) rfl m_Rates b_Rates___init__1 v_Rates___init__ pass0))) pss_nil)
   (pqo (ps_ret (pe_make M_Rates G_Rates___init__ (hr.mono (by decide)) rfl m_Rates b_Rates___init__ Paired.nil pass0 (pcx (pv 0) pnx))))), ?_⟩
 refine ⟨_, rfl, rfl, _, rfl, ?_⟩
 refine dec2 (fun h => ?_) (fun h => ?_)
 · have ht : t = "one" := V.str.inj h
   subst ht
   refine fun rp dx0 hrp hdx hne => ⟨rp, dx0, "one", rfl, uqs, fun d H2 hd R0 k2 => ⟨rfl, ?_⟩⟩
   have e2 : Same H H2 := fun b o hb => by
     have nb1 : b ≠ rp := nqn hb hrp
     have nb2 : b ≠ dx0 := nqn hb hdx
     exact k2 b o (by rw [uqn nb1, uqn nb2]; exact hb) nb1
   exact q rp d H2 e2 R0
 · refine ⟨_, rfl, fun rp dx0 hrp hdx hne => ⟨rp, dx0, t, rfl, uqs, fun d H2 hd R0 k2 => ⟨rfl, ?_⟩⟩⟩
   have e2 : Same H H2 := fun b o hb => by
     have nb1 : b ≠ rp := nqn hb hrp
     have nb2 : b ≠ dx0 := nqn hb hdx
     exact k2 b o (by rw [uqn nb1, uqn nb2]; exact hb) nb1
   exact q rp d H2 e2 R0
def spWor : Sp := fun vs H Q _ => ∃ (a x y : Int) (r : Addr), vs = [.int a, .ref r] ∧ H r = some (.tup [.int x, .int y]) ∧ a.natAbs ≤ 2 ^ 200 ∧ 1 ≤ x ∧ x ≤ 2 ^ 40 ∧ 1 ≤ y ∧ y ≤ 2 ^ 40 ∧ Q (.int (N13.nearZ (a * x) y)) H
theorem prod_le {n x : Int} (h0 : 0 ≤ n) (h1 : n ≤ 2 ^ 200) (x1 : 1 ≤ x) (x2 : x ≤ 2 ^ 40) : 0 ≤ n * x ∧ n * x ≤ 2 ^ 240 := by
 refine ⟨Int.mul_nonneg h0 (by omega), ?_⟩
 have a := Int.mul_le_mul h1 x2 (by omega) (by decide)
 exact Int.le_trans a (by decide)
theorem fdiv_le {p y : Int} (h0 : 0 ≤ p) (h1 : p ≤ 2 ^ 240) (y1 : 1 ≤ y) : 0 ≤ Int.fdiv p y ∧ Int.fdiv p y ≤ 2 ^ 240 := by
 rw [Int.fdiv_eq_ediv_of_nonneg _ (by omega)]
 exact ⟨Int.ediv_nonneg h0 (by omega), Int.le_trans (Int.ediv_le_self y h0) h1⟩
theorem sc__law_worth : FnScope ["_law_amount_here", "_law_ratio", "_law_many"] ["_law_amount_here", "_law_ratio"] (defScope s__law_worth) := ⟨rfl, rfl, rfl, by decide +kernel, rfl, by decide +kernel, by decide +kernel⟩
theorem ok__law_worth (D : Def K mg "_law_worth" s__law_worth .none) (z_abs : mg "abs" = none) : Cal P w K mg base CX0 cm 1 "_law_worth" ["_law_amount_here", "_law_ratio"] [] spWor := by
 obtain ⟨f, fd, F, hm⟩ := D
 refine ⟨f, fd, _, F.ok sc__law_worth (fun vs H Q E h => ?_) (fun cdv A outer s H vs Q E hr h => ?_), hm, F.kp, (F.binds fun _ _ _ _ _ _ us hl => match us, hl with | [_, _], _ => rfl), .nil, F.binds fun _ _ _ _ _ _ us hl => match us, hl with | [_, _], _ => rfl⟩
 · obtain ⟨a, x, y, r, rfl, hr0, ha, x1, x2, y1, y2, q⟩ := h
   rfl
 obtain ⟨a, x, y, r, rfl, hr0, ha, x1, x2, y1, y2, q⟩ := h
 have nd := sc__law_worth.nd
 refine ⟨_, (pqc (ps_set (i := 2) nd rfl (Or.inl rfl) (pe_op op_fdivB (pe_op op_mulB (pe_callB call_absN rfl z_abs bt_abs (pcx (pv 0) pnx)) (pe_ix ix_seq (pv 1) pqi (fun _ _ => rfl))) (pe_ix ix_seq (pv 1) pqi (fun _ _ => rfl))))
   (pqc (ps_if (pt_cmpR op_ge (pe_op op_mulB pqi (pe_op op_sub (pe_op op_mulB (pe_callB call_absN rfl z_abs bt_abs (pcx (pv 0) pnx)) (pe_ix ix_seq (pv 1) pqi (fun _ _ => rfl))) (pe_op op_mulB (pv 2) (pe_ix ix_seq (pv 1) pqi (fun _ _ => rfl))))) (pe_ix ix_seq (pv 1) pqi (fun _ _ => rfl)) (nomark _)) (pqo (ps_set (i := 2) nd rfl (Or.inl rfl) (pe_op op_add (pv 2) pqi))) pss_nil)
   (pqc (ps_if (pt_cmpR op_lt (pv 0) pqi (nomark _)) (pqo (ps_ret (pe_un un_neg (pv 2)))) pss_nil)
   (pqo (ps_ret (pv 2)))))), ?_⟩
 have hT := SqT.of (K := K) hr0
 have p := prod_le (n := ((a.natAbs : Nat) : Int)) (by omega) (by omega) x1 x2
 have d := fdiv_le p.1 p.2 y1
 rw [← N24.lawW_eq x1 y1] at q
 refine ⟨_, rfl, a, rfl, _, rfl, .inr (.inl ⟨r, _, 0, _, rfl, rfl, hT, rfl, _, _, rfl, rfl, mul_of (by omega) (by omega) (by omega) (by omega), _, rfl, .inr (.inl ⟨r, _, 1, _, rfl, rfl, hT, rfl, _, _, rfl, rfl, log_of (by omega) (by omega) (by omega), ?_⟩)⟩)⟩
 refine ⟨_, rfl, a, rfl, _, rfl, .inr (.inl ⟨r, _, 0, _, rfl, rfl, hT, rfl, _, _, rfl, rfl, mul_of (by omega) (by omega) (by omega) (by omega), _, rfl, _, rfl, .inr (.inl ⟨r, _, 1, _, rfl, rfl, hT, rfl, _, _, rfl, rfl, mul_of (by omega) (by omega) (by omega) (by omega), _, _, rfl, rfl, _, _, rfl, rfl, .of_left (intBits_le_64 (by decide) (by decide)), _, rfl, .inr (.inl ⟨r, _, 1, _, rfl, rfl, hT, rfl, _, _, rfl, rfl, _, rfl, ?_⟩)⟩)⟩)⟩
 refine dec2 (fun h => ?_) (fun h => ?_)
 · refine ⟨_, rfl, _, _, rfl, rfl, ?_⟩
   refine ⟨_, rfl, _, _, rfl, rfl, _, rfl, ?_⟩
   have e : N24.lawW a x y = if a < 0 then -(Int.fdiv (((a.natAbs : Nat) : Int) * x) y + 1) else Int.fdiv (((a.natAbs : Nat) : Int) * x) y + 1 := by
     unfold N24.lawW
     simp only [if_pos (show y ≤ 2 * (((a.natAbs : Nat) : Int) * x - Int.fdiv (((a.natAbs : Nat) : Int) * x) y * y) from h)]
   rw [e] at q
   refine dec2 (fun h1 => ?_) (fun h1 => ?_)
   · rw [if_pos h1] at q
     exact ⟨_, rfl, _, rfl, q⟩
   · rw [if_neg h1] at q
     exact ⟨_, rfl, q⟩
 · refine ⟨_, rfl, _, _, rfl, rfl, _, rfl, ?_⟩
   have e : N24.lawW a x y = if a < 0 then -(Int.fdiv (((a.natAbs : Nat) : Int) * x) y) else Int.fdiv (((a.natAbs : Nat) : Int) * x) y := by
     unfold N24.lawW
     simp only [if_neg (show ¬ y ≤ 2 * (((a.natAbs : Nat) : Int) * x - Int.fdiv (((a.natAbs : Nat) : Int) * x) y * y) from h)]
   rw [e] at q
   refine dec2 (fun h1 => ?_) (fun h1 => ?_)
   · rw [if_pos h1] at q
     exact ⟨_, rfl, _, rfl, q⟩
   · rw [if_neg h1] at q
     exact ⟨_, rfl, q⟩
theorem sc__law_dues : FnScope ["_law_sides_here", "_law_order", "_law_coins_here", "_law_side_here", "_law_dues_here", "_law_firm", "_law_coin", "_law_rest"] ["_law_sides_here"] (defScope s__law_dues) := ⟨rfl, rfl, rfl, by decide +kernel, rfl, by decide +kernel, by decide +kernel⟩
theorem ok__law_dues (D : Def K mg "_law_dues" s__law_dues .none) (z_sum : mg "sum" = none) : Cal P w K mg base CX0 true 2 "_law_dues" ["_law_sides_here"] [] spDuesL := by
 obtain ⟨f, fd, F, hm⟩ := D
 refine ⟨f, fd, _, F.ok sc__law_dues (fun vs H Q E h => ?_) (fun cdv A outer s H vs Q E hr h => ?_), hm, F.kp, (F.binds fun _ _ _ _ _ _ us hl => match us, hl with | [_], _ => rfl), .nil, F.binds fun _ _ _ _ _ _ us hl => match us, hl with | [_], _ => rfl⟩
 · obtain ⟨l, L, rfl, hl, hL, hlen, hLt, q⟩ := h
   rfl
 obtain ⟨l, L, rfl, hl, hL, hlen, hLt, q⟩ := h
 have nd := sc__law_dues.nd
 refine ⟨_, (pqc (ps_set (i := 1) nd rfl (Or.inl rfl) (pe_lst pnx))
   (pqc (ps_set (i := 2) nd rfl (Or.inl rfl) (pe_lst pnx))
   (pqc (ps_for PassesOwn.never rfl (pi_list (pv 0)) (pg_name (i := 3) nd rfl (Or.inl rfl)) (pqc (ps_if (pt_cmpR op_notIn_seq (pe_ix ix_seq (pv 3) pqi (fun _ _ => rfl)) (pv 1) (by with_unfolding_all rfl)) (pqo (ps_expr (pe_bm PySem.F.plainAttrs_list PySem.F.slot_list_append PySem.F.type_list_append mt_append (pv 1) (pcx (pe_ix ix_seq (pv 3) pqi (fun _ _ => rfl)) pnx)))) pss_nil)
   (pqo (ps_if (pt_cmpR op_notIn_seq (pe_ix ix_seq (pv 3) pqi (fun _ _ => rfl)) (pv 2) (by with_unfolding_all rfl)) (pqo (ps_expr (pe_bm PySem.F.plainAttrs_list PySem.F.slot_list_append PySem.F.type_list_append mt_append (pv 2) (pcx (pe_ix ix_seq (pv 3) pqi (fun _ _ => rfl)) pnx)))) pss_nil))))
   (pqc (ps_set (i := 4) nd rfl (Or.inl rfl) (pe_lst pnx))
   (pqc (ps_for PassesOwn.never rfl (pi_list (pe_slice sl_list (pv 1) (po_some pqi) po_none)) (pg_name (i := 5) nd rfl (Or.inr rfl)) (pqo (ps_for PassesOwn.never rfl (pi_list (pv 2)) (pg_name (i := 6) nd rfl (Or.inr rfl)) (pqc (ps_set (i := 7) nd rfl (Or.inl rfl) (pe_callB (call_sum hr) rfl z_sum bt_sum (pcx (pe_lcIf [5, 6] rfl (LcOk.free ["_law_firm", "_law_coin"] rfl rfl (List.forall_mem_cons.mpr ⟨rfl, (List.forall_mem_cons.mpr ⟨rfl, (fun _ h => nomatch h)⟩)⟩) (by decide +kernel) rfl (by decide +kernel) rfl (by decide +kernel) (show (["_law_side_here", "_law_firm", "_law_coin"] : List Str).Nodup from by decide +kernel) (List.forall_mem_cons.mpr ⟨⟨_, rfl, rfl, rfl, by decide +kernel⟩, (List.forall_mem_cons.mpr ⟨⟨_, rfl, rfl, rfl, by decide +kernel⟩, (fun _ h => nomatch h)⟩)⟩)) (pi_list (pv 0)) (fun C s2 H2 fp xe => (PW.pt (pw_and (pt_cmpR op_eq (pe_ix ix_seqC (pv 0) pqi (fun _ _ => rfl)) (pv 1) (nomark _)) (pw_and1 (pt_cmpR op_eq (pe_ix ix_seqC (pv 0) pqi (fun _ _ => rfl)) (pv 2) (nomark _)))))) (fun C s2 H2 fp xe => (pe_ix ix_seqC (pv 0) pqi (fun _ _ => rfl)))) pnx)))
   (pqo (ps_if (pt_cmpR op_ne (pv 7) pqi (nomark _)) (pqc (ps_expr (pe_bm PySem.F.plainAttrs_list PySem.F.slot_list_append PySem.F.type_list_append mt_append (pv 4) (pcx (pe_tup (pcx (pv 5) (pcx (pe_op op_add_str pe_str (pe_ix ix_seq (pv 1) pqi (fun _ _ => rfl))) (pcx (pv 6) (pcx (pe_un un_neg (pv 7)) pnx))))) pnx)))
   (pqo (ps_expr (pe_bm PySem.F.plainAttrs_list PySem.F.slot_list_append PySem.F.type_list_append mt_append (pv 4) (pcx (pe_tup (pcx (pe_ix ix_seq (pv 1) pqi (fun _ _ => rfl)) (pcx (pe_op op_add_str pe_str (pv 5)) (pcx (pv 6) (pcx (pv 7) pnx))))) pnx))))) pss_nil))))))
   (pqo (ps_ret (pv 4)))))))), ?_⟩
 have hline : 10 ^ 6 ≤ sizeLine := by decide
 refine ⟨(by show 0 ≤ sizeLine; decide), fun op hop0 => ?_⟩
 have g1 := squ (o := .lst []) hop0
 refine ⟨(by show 0 ≤ sizeLine; decide), fun cp hcp00 => ?_⟩
 have g2 := squ (o := .lst []) hcp00
 have hcp0 := g1.free hcp00
 have noc : op ≠ cp := nqn uqs hcp00
 refine ⟨_, rfl, l, rfl, ⟨_, SqL.of ((g1.trans g2) _ _ hl)⟩, ?_⟩
 refine for_list (xs := rfs L) (fun i σ H' => ∃ (o3 : Option V), σ = [some (.ref l), some (.ref op), some (.ref cp), o3, none, none, none, none] ∧ Same H H' ∧ H' op = some (.lst ((frm (L.take i)).map V.str)) ∧ H' cp = some (.lst ((cns (L.take i)).map V.str))) ⟨_, rfl, g1.trans g2, g2 _ _ uqs, uqs⟩ ?_ ?_ ?_
 · rintro i σ H1 hi ⟨o3, rfl, e, _⟩
   exact SqL.of (e _ _ hl)
 · rintro i x σ H1 hx ⟨o3, rfl, e, hop, hcp⟩
   obtain ⟨z, hz, rfl⟩ := rfs_at hx
   have hil : i < L.length := (List.getElem?_eq_some_iff.mp hz).1
   have hzz := e _ _ (hL z (List.mem_of_getElem? hz))
   have hT := SqT.of (K := K) hzz
   have l1 := frm_len (L.take i)
   have l2 := cns_len (L.take i)
   rw [List.length_take] at l1 l2
   refine ⟨_, rfl, .inr (.inl ⟨z.1, _, 0, _, rfl, rfl, hT, rfl, _, rfl, op, _, rfl, .inl (SqL.of hop), rfl, flat_strs _, _, rfl, ?_⟩)⟩
   rw [inV_strs]
   show if (!decide (z.2.1 ∈ frm (L.take i))) = true then _ else _
   refine ndec2 (fun hc1 => ?_) (fun hc1 => ?_)
   · refine ⟨_, rfl, .inl ⟨rfl, _, SqL.of hop⟩, _, rfl, .inr (.inl ⟨z.1, _, 0, _, rfl, rfl, hT, rfl, op, _, _, rfl, rfl, hop, (by rw [List.length_map]; omega), ?_⟩)⟩
     have E := same_set (o := .lst ((frm (L.take i)).map V.str ++ [.str z.2.1])) e hop0
     have hop2 : (upd H1 op (.lst ((frm (L.take i)).map V.str ++ [.str z.2.1]))) op = some (.lst ((N21.add (frm (L.take i)) z.2.1).map V.str)) := by
       rw [uqs]
       unfold N21.add
       rw [if_neg hc1, List.map_append]
       rfl
     have hcp2 : (upd H1 op (.lst ((frm (L.take i)).map V.str ++ [.str z.2.1]))) cp = some (.lst ((cns (L.take i)).map V.str)) := by
       rw [uqn (Ne.symm noc)]
       exact hcp
     have hT2 := SqT.of (K := K) (tup_keep (ys := (frm (L.take i)).map V.str ++ [.str z.2.1]) hzz hop)
     refine ⟨_, rfl, .inr (.inl ⟨z.1, _, 2, _, rfl, rfl, hT2, rfl, _, rfl, cp, _, rfl, .inl (SqL.of hcp2), rfl, flat_strs _, _, rfl, ?_⟩)⟩
     rw [inV_strs]
     show if (!decide (z.2.2.2.1 ∈ cns (L.take i))) = true then _ else _
     refine ndec2 (fun hc2 => ?_) (fun hc2 => ?_)
     · refine ⟨_, rfl, .inl ⟨rfl, _, SqL.of hcp2⟩, _, rfl, .inr (.inl ⟨z.1, _, 2, _, rfl, rfl, hT2, rfl, cp, _, _, rfl, rfl, hcp2, (by rw [List.length_map]; omega), ?_⟩)⟩
       refine ⟨_, rfl, same_set E hcp0, ?_, ?_⟩
       · rw [uqn noc, frm_snoc hz]
         exact hop2
       · rw [uqs, cns_snoc hz]
         unfold N21.add
         rw [if_neg hc2, List.map_append]
         rfl
     · refine ⟨_, rfl, E, ?_, ?_⟩
       · rw [frm_snoc hz]
         exact hop2
       · rw [cns_snoc hz]
         unfold N21.add
         rw [if_pos hc2]
         exact hcp2
   · have hop2 : H1 op = some (.lst ((N21.add (frm (L.take i)) z.2.1).map V.str)) := by
       unfold N21.add
       rw [if_pos hc1]
       exact hop
     refine ⟨_, rfl, .inr (.inl ⟨z.1, _, 2, _, rfl, rfl, hT, rfl, _, rfl, cp, _, rfl, .inl (SqL.of hcp), rfl, flat_strs _, _, rfl, ?_⟩)⟩
     rw [inV_strs]
     show if (!decide (z.2.2.2.1 ∈ cns (L.take i))) = true then _ else _
     refine ndec2 (fun hc2 => ?_) (fun hc2 => ?_)
     · refine ⟨_, rfl, .inl ⟨rfl, _, SqL.of hcp⟩, _, rfl, .inr (.inl ⟨z.1, _, 2, _, rfl, rfl, hT, rfl, cp, _, _, rfl, rfl, hcp, (by rw [List.length_map]; omega), ?_⟩)⟩
       refine ⟨_, rfl, same_set e hcp0, ?_, ?_⟩
       · rw [uqn noc, frm_snoc hz]
         exact hop2
       · rw [uqs, cns_snoc hz]
         unfold N21.add
         rw [if_neg hc2, List.map_append]
         rfl
     · refine ⟨_, rfl, e, ?_, ?_⟩
       · rw [frm_snoc hz]
         exact hop2
       · rw [cns_snoc hz]
         unfold N21.add
         rw [if_pos hc2]
         exact hcp
 rintro σ H2 ⟨o3, rfl, e12, hf2, hc⟩
 rw [rfs_len, List.take_length] at hf2 hc
 have hFl := frm_len L
 have hcs := cns_len L
 refine ⟨(by show 0 ≤ sizeLine; decide), fun p hp => ?_⟩
 have e3 := squ (o := .lst []) hp
 refine ⟨_, rfl, _, rfl, op, _, rfl, SqL.of (e3 _ _ hf2), fun sl hsl => ⟨sl, rfl, ⟨_, SqL.of uqs⟩, ?_⟩⟩
 rw [cut1]
 have nps : p ≠ sl := nqn uqs hsl
 have e4 := squ (o := .lst (((frm L).drop 1).map V.str)) hsl
 have ldr : (((frm L).drop 1).map V.str).length ≤ 60 := by rw [List.length_map, List.length_drop]; omega
 refine for_list (xs := ((frm L).drop 1).map V.str) (fun i σ H' => ∃ (o5 o6 o7 : Option V) (D : List Sd), σ = [some (.ref l), some (.ref op), some (.ref cp), o3, some (.ref p), o5, o6, o7] ∧ Same H2 H' ∧ H' sl = some (.lst (((frm L).drop 1).map V.str)) ∧ H' p = some (.lst (rfs D)) ∧ RT H' D ∧ vls D = N22.dues due ((frm L).headD "") (tf L) (((frm L).drop 1).take i) (cns L) ∧ D.length ≤ 120 * i) ⟨_, _, _, [], rfl, e3.trans e4, uqs, e4 _ _ uqs, (fun z hz => nomatch hz), rfl, Nat.le_refl _⟩ ?_ ?_ ?_
 · rintro i σ H3 hi ⟨o5, o6, o7, D, rfl, e, hs, _⟩
   exact SqL.of hs
 · rintro i x σ H3 hx ⟨o5, o6, o7, D, rfl, e, hs, hpp, hD, hv, hDl⟩
   have hi60 : i < 60 := by
     have := (List.getElem?_eq_some_iff.mp hx).1
     omega
   obtain ⟨f, hf, rfl⟩ := strs_at hx
   have hcl := e _ _ hc
   obtain ⟨s0, T0, hFs⟩ : ∃ s0 T0, frm L = s0 :: T0 := by
     cases h : frm L with
     | nil => rw [h] at hf; simp at hf
     | cons a r => exact ⟨a, r, rfl⟩
   have hs0 : atI ((frm L).map V.str) 0 = some (.str ((frm L).headD "")) := by
     rw [hFs]
     show atI ((s0 :: T0).map V.str) ((0 : Nat) : Int) = _
     exact atI_nat rfl
   have hsL : Let ((frm L).headD "") := by
     obtain ⟨z, hz, ez⟩ := frm_mem (L := L) (f := (frm L).headD "") (by rw [hFs]; exact List.mem_cons_self)
     rw [← ez]
     exact hLt z hz
   have hfL : Let f := by
     obtain ⟨z, hz, ez⟩ := frm_mem (L := L) (f := f) (List.mem_of_mem_drop (List.mem_of_getElem? hf))
     rw [← ez]
     exact hLt z hz
   refine ⟨_, rfl, cp, rfl, ⟨_, SqL.of hcl⟩, ?_⟩
   refine for_list (xs := (cns L).map V.str) (fun j σ H' => ∃ (o6 o7 : Option V) (D : List Sd), σ = [some (.ref l), some (.ref op), some (.ref cp), o3, some (.ref p), some (.str f), o6, o7] ∧ Same H2 H' ∧ H' sl = some (.lst (((frm L).drop 1).map V.str)) ∧ H' p = some (.lst (rfs D)) ∧ RT H' D ∧ vls D = N22.dues due ((frm L).headD "") (tf L) (((frm L).drop 1).take i) (cns L) ++ ((cns L).take j).flatMap (N22.oneDue due ((frm L).headD "") (tf L) f) ∧ D.length ≤ 120 * i + 2 * j) ⟨_, _, D, rfl, e, hs, hpp, hD, by rw [hv]; simp, by omega⟩ ?_ ?_ ?_
   · rintro j σ H4 hj ⟨o6, o7, D, rfl, e', _⟩
     exact SqL.of (e' _ _ hc)
   · clear e hs hpp hD hv hDl hcl
     rintro j x σ H4 hx2 ⟨o6, o7, D, rfl, e, hs, hpp, hD, hv, hDl⟩
     have hj60 : j < 60 := by
       have := (List.getElem?_eq_some_iff.mp hx2).1
       rw [List.length_map] at this
       omega
     obtain ⟨c, hcj, rfl⟩ := strs_at hx2
     have hl4 := e _ _ (e12 _ _ hl)
     have hL4 := hL.same (e12.trans e)
     refine ⟨_, rfl, l, rfl, ⟨_, SqL.of hl4⟩, ?_⟩
     refine lc_listIf (xs := rfs L) (fun j ys H5 => ys = (((vls (L.take j)).filter (N22.pFC f c)).map (·.2.2.2)).map V.int ∧ H5 = H4) ⟨rfl, rfl⟩ (by rw [rfs_len]; omega) ?_ ?_ ?_
     · rintro j ys H5 hj ⟨rfl, rfl⟩
       refine ⟨SqL.of hl4, ?_⟩
       rw [List.length_map, List.length_map]
       have h1 := List.length_filter_le (N22.pFC f c) (vls (L.take j))
       rw [vls_len, List.length_take] at h1
       omega
     · rintro j x ys H5 hx ⟨rfl, rfl⟩
       obtain ⟨y, hy, rfl⟩ := rfs_at hx
       have hTy := SqT.of (K := K) (hL4 y (List.mem_of_getElem? hy))
       refine ⟨_, rfl, .inr (.inl ⟨y.1, _, 0, _, rfl, rfl, hTy, rfl, _, rfl, rfl, _, rfl, ?_⟩)⟩
       refine dec2 (fun h1 => ?_) (fun h1 => ?_)
       · refine ⟨_, rfl, .inr (.inl ⟨y.1, _, 2, _, rfl, rfl, hTy, rfl, _, rfl, rfl, _, rfl, ?_⟩)⟩
         refine dec2 (fun h2 => ?_) (fun h2 => ?_)
         · refine ⟨_, rfl, .inr (.inl ⟨y.1, _, 3, _, rfl, rfl, hTy, rfl, ?_, rfl⟩)⟩
           rw [vls_snoc hy, List.filter_append, List.filter_cons_of_pos (by simp [N22.pFC, V.str.inj h1, V.str.inj h2]), List.map_append, List.map_append]
           rfl
         · refine ⟨?_, rfl⟩
           have n2 : ¬ y.2.2.2.1 = c := fun z => h2 (congrArg V.str z)
           rw [vls_snoc hy, List.filter_append, List.filter_cons_of_neg (by simp [N22.pFC, n2])]
           simp
       · refine iteF ⟨?_, rfl⟩
         have n1 : ¬ y.2.1 = f := fun z => h1 (congrArg V.str z)
         rw [vls_snoc hy, List.filter_append, List.filter_cons_of_neg (by simp [N22.pFC, n1])]
         simp
     rintro ys H5 ⟨rfl, rfl⟩ k1 hk1
     rw [rfs_len, List.take_length]
     have f1 := squ (o := .lst ((((vls L).filter (N22.pFC f c)).map (·.2.2.2)).map V.int)) hk1
     refine ⟨k1, _, rfl, SqL.of uqs, ?_⟩
     rw [N22.sumIf_filter]
     show gName 7 (V.int (tf L f c)) _ _ _
     have e1' := e.trans f1
     have hs1 := f1 _ _ hs
     have hp1 := f1 _ _ hpp
     have hD1 := hD.same f1
     refine ⟨_, rfl, rfl, _, rfl, ?_⟩
     refine ndec2 (fun hne => ?_) (fun hz => ?_)
     · have hne' : tf L f c ≠ 0 := fun z => hne (congrArg V.int z)
       have hfp1 := e1' _ _ hf2
       refine ⟨_, rfl, .inl ⟨rfl, _, SqL.of hp1⟩, _, rfl, _, rfl, .inl ⟨op, _, 0, _, rfl, rfl, SqL.of hfp1, hs0, _, _, rfl, rfl, due5 hsL.2, _, rfl, _, rfl, _, rfl, (by show 4 ≤ sizeLine; decide), fun t1 ht1 => ?_⟩⟩
       have f2 := squ (o := .tup [.str f, .str (due ((frm L).headD "")), .str c, .int (-tf L f c)]) ht1
       refine ⟨p, _, _, rfl, rfl, f2 _ _ hp1, (by rw [rfs_len]; omega), ?_⟩
       have e2' := same_set (o := .lst (rfs D ++ [.ref t1])) (e1'.trans f2) hp
       have hp2 : (upd (upd (upd H5 k1 (.lst ((((vls L).filter (N22.pFC f c)).map (·.2.2.2)).map V.int))) t1 (.tup [.str f, .str (due ((frm L).headD "")), .str c, .int (-tf L f c)])) p (.lst (rfs D ++ [.ref t1]))) p = some (.lst (rfs D ++ [.ref t1])) := uqs
       have ht1' : (upd (upd (upd H5 k1 (.lst ((((vls L).filter (N22.pFC f c)).map (·.2.2.2)).map V.int))) t1 (.tup [.str f, .str (due ((frm L).headD "")), .str c, .int (-tf L f c)])) p (.lst (rfs D ++ [.ref t1]))) t1 = some (.tup [.str f, .str (due ((frm L).headD "")), .str c, .int (-tf L f c)]) := tup_keep uqs (f2 _ _ hp1)
       have hD2 : RT (upd (upd (upd H5 k1 (.lst ((((vls L).filter (N22.pFC f c)).map (·.2.2.2)).map V.int))) t1 (.tup [.str f, .str (due ((frm L).headD "")), .str c, .int (-tf L f c)])) p (.lst (rfs D ++ [.ref t1]))) D := fun z hz => tup_keep (f2 _ _ (hD1 z hz)) (f2 _ _ hp1)
       have hs2 : (upd (upd (upd H5 k1 (.lst ((((vls L).filter (N22.pFC f c)).map (·.2.2.2)).map V.int))) t1 (.tup [.str f, .str (due ((frm L).headD "")), .str c, .int (-tf L f c)])) p (.lst (rfs D ++ [.ref t1]))) sl = some (.lst (((frm L).drop 1).map V.str)) := by
         rw [uqn (Ne.symm nps)]
         exact f2 _ _ hs1
       refine ⟨_, rfl, .inl ⟨rfl, _, SqL.of hp2⟩, _, rfl, .inl ⟨op, _, 0, _, rfl, rfl, SqL.of (e2' _ _ hf2), hs0, _, rfl, _, _, rfl, rfl, due5 hfL.2, _, rfl, _, rfl, (by show 4 ≤ sizeLine; decide), fun t2 ht2 => ?_⟩⟩
       have f3 := squ (o := .tup [.str ((frm L).headD ""), .str (due f), .str c, .int (tf L f c)]) ht2
       refine ⟨p, _, _, rfl, rfl, f3 _ _ hp2, (by rw [List.length_append, rfs_len]; show D.length + 1 < sizeLine; omega), ?_⟩
       refine ⟨_, _, D ++ [(t1, f, due ((frm L).headD ""), c, -tf L f c), (t2, (frm L).headD "", due f, c, tf L f c)], rfl, same_set (e2'.trans f3) hp, ?_, ?_, ?_, ?_, ?_⟩
       · rw [uqn (Ne.symm nps)]
         exact f3 _ _ hs2
       · rw [uqs, rfs_app, List.append_assoc]
         rfl
       · intro z hz
         rcases List.mem_append.mp hz with w | w
         · exact tup_keep (f3 _ _ (hD2 z w)) (f3 _ _ hp2)
         · simp only [List.mem_cons, List.not_mem_nil, or_false] at w
           rcases w with rfl | rfl
           · exact tup_keep (f3 _ _ ht1') (f3 _ _ hp2)
           · exact tup_keep uqs (f3 _ _ hp2)
       · rw [vls_app, hv, row_snoc _ _ _ hcj, List.append_assoc]
         congr 2
         unfold N22.oneDue
         rw [if_pos hne']
         rfl
       · rw [List.length_append]
         show D.length + 2 ≤ _
         omega
     · refine ⟨_, _, D, rfl, e1', hs1, hp1, hD1, ?_, by omega⟩
       rw [hv, row_snoc _ _ _ hcj]
       have : N22.oneDue due ((frm L).headD "") (tf L) f c = [] := by
         unfold N22.oneDue
         rw [if_neg (by simpa using V.int.inj hz)]
       rw [this, List.append_nil]
   · clear e hs hpp hD hv hDl hcl
     rintro σ H4 ⟨o6, o7, D, rfl, e, hs, hpp, hD, hv, hDl⟩
     rw [List.length_map] at hv hDl
     rw [List.take_length] at hv
     refine ⟨_, _, _, D, rfl, e, hs, hpp, hD, ?_, by omega⟩
     rw [hv, dues_snoc _ _ _ hf]
     rfl
 rintro σ H3 ⟨o5, o6, o7, D, rfl, e, hs, hpp, hD, hv, hDl⟩
 rw [List.length_map, List.take_length] at hv
 exact ⟨_, rfl, q p D _ (e12.trans e) (e12.free hp) hpp hD hv (by omega)⟩
def Tb (H : Hp) (d : Addr) (cs : List Str) (x y : Str → Int) : Prop := ∃ (kvs : List (Key × V)) (A : Str → Addr), H d = some (.dK kvs) ∧ ∀ c ∈ cs, valV kvs (Sum.inr c) = some (.ref (A c)) ∧ H (A c) = some (.tup [.int (x c), .int (y c)]) ∧ 1 ≤ x c ∧ x c ≤ 2 ^ 40 ∧ 1 ≤ y c ∧ y c ≤ 2 ^ 40
theorem Tb.same {H H' : Hp} {d : Addr} {cs : List Str} {x y : Str → Int} (h : Tb H d cs x y) (e : Same H H') : Tb H' d cs x y := by
 obtain ⟨kvs, A, h1, h2⟩ := h
 exact ⟨kvs, A, e _ _ h1, fun c hc => ⟨(h2 c hc).1, e _ _ (h2 c hc).2.1, (h2 c hc).2.2⟩⟩
def spLn : Sp := fun vs H Q _ => ∃ (l d : Addr) (t : Str) (cs : List Str) (x y : Str → Int) (L : List Sd), vs = [.ref l, .ref d, .str t] ∧ H l = some (.lst (rfs L)) ∧ RT H L ∧ L.length ≤ 20000 ∧ Tb H d cs x y ∧ (∀ z ∈ L, z.2.2.2.1 ∈ cs ∧ z.2.2.2.2.natAbs ≤ 2 ^ 200) ∧
 ∀ (p : Addr) (M : List Ln) H', Same H H' → H p = none → H' p = some (.lst (rf5 M)) → R5 H' M → M.map (·.2) = N25.lines (wS x y) "*rounding" t (vls L) → M.length ≤ 2 * L.length → Q (.ref p) H'
theorem sum_firm (f : Str) (W : Str → Int → Int) (ro t : Str) (V : List (N22.Rv Str)) (fs : List Str) (hf : f ∉ fs) : (((V.map (N25.lnv W) ++ fs.flatMap (fun g => N25.rone ro t (g, N21.tot g (N25.fw W V)))).filter fun z => decide (z.1 = f)).map (·.2.2.2)).sum = N21.tot f (N25.fw W V) := by
 rw [N25.sg_sum, N25.sg_filter, N25.sg_app, N25.sg_map]
 have e1 : N25.sg (fun z : N25.Lv Str => if decide (z.1 = f) = true then z.2.2.2 else 0) (fs.flatMap (fun g => N25.rone ro t (g, N21.tot g (N25.fw W V)))) = 0 := N25.sg_zero fun z hz => by
   obtain ⟨g, hg, hz⟩ := List.mem_flatMap.mp hz
   unfold N25.rone at hz
   split at hz
   · rw [List.mem_singleton.mp hz]
     have : ¬ g = f := fun e => hf (e ▸ hg)
     simp [this]
   · cases hz
 rw [e1, Int.add_zero, N25.tot_sg]
 unfold N25.fw
 rw [N25.sg_map]
 refine N25.sg_congr fun v _ => ?_
 show (if decide (v.1 = f) = true then W v.2.2.1 v.2.2.2 else 0) = if v.1 = f then W v.2.2.1 v.2.2.2 else 0
 by_cases h : v.1 = f <;> simp [h]
theorem fil_sum (f : Str) (M : List Ln) : ((M.filter fun y => decide (y.2.1 = f)).map (·.2.2.2.2)).sum = (((M.map (·.2)).filter fun z => decide (z.1 = f)).map (·.2.2.2)).sum := by
 rw [List.filter_map, List.map_map]
 rfl
theorem rnd_flat (ro t : Str) (P : List (Str × Int)) : N25.rnd ro t P = (N21.firsts (P.map (·.1))).flatMap (fun g => N25.rone ro t (g, N21.tot g P)) := by
 unfold N25.rnd N21.rs
 rw [List.flatMap_map]
theorem fw_firms (W : Str → Int → Int) (L : List Sd) : (N25.fw W (vls L)).map (·.1) = L.map (·.2.1) := by
 unfold N25.fw vls
 rw [List.map_map, List.map_map]
 rfl
theorem sc__law_lines : FnScope ["_law_sides_here", "_law_table_here", "_law_told_here", "_law_lines_here", "_law_firms_here", "_law_side_here", "_law_firm", "_law_rest"] ["_law_sides_here", "_law_table_here", "_law_told_here"] (defScope s__law_lines) := ⟨rfl, rfl, rfl, by decide +kernel, rfl, by decide +kernel, by decide +kernel⟩
theorem ok__law_lines (D : Def K mg "_law_lines" s__law_lines .none) (c__law_worth : Cal P w K mg base CX0 true 1 "_law_worth" ["_law_amount_here", "_law_ratio"] [] spWor) (z_sum : mg "sum" = none) : Cal P w K mg base CX0 true 2 "_law_lines" ["_law_sides_here", "_law_table_here", "_law_told_here"] [] spLn := by
 obtain ⟨f, fd, F, hm⟩ := D
 obtain ⟨f__law_worth, fd__law_worth, d__law_worth, G__law_worth, m__law_worth, k__law_worth, b__law_worth, v__law_worth, b__law_worth1⟩ := c__law_worth
 refine ⟨f, fd, _, F.ok sc__law_lines (fun vs H Q E h => ?_) (fun cdv A outer s H vs Q E hr h => ?_), hm, F.kp, (F.binds fun _ _ _ _ _ _ us hl => match us, hl with | [_, _, _], _ => rfl), .nil, F.binds fun _ _ _ _ _ _ us hl => match us, hl with | [_, _, _], _ => rfl⟩
 · obtain ⟨l, d, t, cs, x, y, L, rfl, hl, hL, hlen, hT, hk, q⟩ := h
   rfl
 obtain ⟨l, d, t, cs, x, y, L, rfl, hl, hL, hlen, hT, hk, q⟩ := h
 have nd := sc__law_lines.nd
 refine ⟨_, (pqc (ps_set (i := 3) nd rfl (Or.inl rfl) (pe_lst pnx))
   (pqc (ps_set (i := 4) nd rfl (Or.inl rfl) (pe_lst pnx))
   (pqc (ps_for PassesOwn.never rfl (pi_list (pv 0)) (pg_name (i := 5) nd rfl (Or.inl rfl)) (pqc (ps_expr (pe_bm PySem.F.plainAttrs_list PySem.F.slot_list_append PySem.F.type_list_append mt_append (pv 3) (pcx (pe_op op_catT (pv 5) (pe_tup (pcx (pe_call G__law_worth (hr.mono (by decide)) rfl m__law_worth k__law_worth b__law_worth Paired.nil pass0 (pcx (pe_ix ix_seq (pv 5) pqi (fun _ _ => rfl)) (pcx (pe_dget (hu_of hr) (pv 1) (pe_ix ix_seq (pv 5) pqi (fun _ _ => rfl)) (fun _ _ => rfl)) pnx))) pnx))) pnx)))
   (pqo (ps_if (pt_cmpR op_notIn_seq (pe_ix ix_seq (pv 5) pqi (fun _ _ => rfl)) (pv 4) (by with_unfolding_all rfl)) (pqo (ps_expr (pe_bm PySem.F.plainAttrs_list PySem.F.slot_list_append PySem.F.type_list_append mt_append (pv 4) (pcx (pe_ix ix_seq (pv 5) pqi (fun _ _ => rfl)) pnx)))) pss_nil))))
   (pqc (ps_for PassesOwn.never rfl (pi_list (pv 4)) (pg_name (i := 6) nd rfl (Or.inr rfl)) (pqc (ps_set (i := 7) nd rfl (Or.inl rfl) (pe_callB (call_sum hr) rfl z_sum bt_sum (pcx (pe_lcIf [6] rfl (LcOk.free ["_law_firm"] rfl rfl (List.forall_mem_cons.mpr ⟨rfl, (fun _ h => nomatch h)⟩) (by decide +kernel) rfl (by decide +kernel) rfl (by decide +kernel) (show (["_law_line", "_law_firm"] : List Str).Nodup from by decide +kernel) (List.forall_mem_cons.mpr ⟨⟨_, rfl, rfl, rfl, by decide +kernel⟩, (fun _ h => nomatch h)⟩)) (pi_list (pv 3)) (fun C s2 H2 fp xe => (pt_cmpR op_eq (pe_ix ix_seqC (pv 0) pqi (fun _ _ => rfl)) (pv 1) (nomark _))) (fun C s2 H2 fp xe => (pe_ix ix_seqC (pv 0) pqi (fun _ _ => rfl)))) pnx)))
   (pqo (ps_if (pt_cmpR op_ne (pv 7) pqi (nomark _)) (pqo (ps_expr (pe_bm PySem.F.plainAttrs_list PySem.F.slot_list_append PySem.F.type_list_append mt_append (pv 3) (pcx (pe_tup (pcx (pv 6) (pcx pe_str (pcx (pv 2) (pcx pqi (pcx (pe_un un_neg (pv 7)) pnx)))))) pnx)))) pss_nil))))
   (pqo (ps_ret (pv 3))))))), ?_⟩
 have hline : 10 ^ 6 ≤ sizeLine := by decide
 refine ⟨(by show 0 ≤ sizeLine; decide), fun p hp => ?_⟩
 have e1 := squ (o := .lst []) hp
 refine ⟨(by show 0 ≤ sizeLine; decide), fun fp hfp0 => ?_⟩
 have e2 := squ (o := .lst []) hfp0
 have npf : p ≠ fp := nqn uqs hfp0
 have hf0 := e1.free hfp0
 refine ⟨_, rfl, l, rfl, ⟨_, SqL.of (e2 _ _ (e1 _ _ hl))⟩, ?_⟩
 refine for_list (xs := rfs L) (fun i σ H' => ∃ (o5 o6 o7 : Option V) (M : List Ln), σ = [some (.ref l), some (.ref d), some (.str t), some (.ref p), some (.ref fp), o5, o6, o7] ∧ Same H H' ∧ H' p = some (.lst (rf5 M)) ∧ H' fp = some (.lst ((frm (L.take i)).map V.str)) ∧ R5 H' M ∧ M.map (·.2) = (vls (L.take i)).map (N25.lnv (wS x y))) ⟨_, _, _, [], rfl, e1.trans e2, e2 _ _ uqs, uqs, (fun z hz => nomatch hz), rfl⟩ ?_ ?_ ?_
 · rintro i σ H1 hi ⟨o5, o6, o7, M, rfl, e, _⟩
   exact SqL.of (e _ _ hl)
 · rintro i x' σ H1 hx ⟨o5, o6, o7, M, rfl, e, hpp, hff, hM, hMv⟩
   obtain ⟨z, hz, rfl⟩ := rfs_at hx
   have hzm := List.mem_of_getElem? hz
   have hiL : i < L.length := (List.getElem?_eq_some_iff.mp hz).1
   have hzz := e _ _ (hL z hzm)
   have hTz := SqT.of (K := K) hzz
   obtain ⟨hzc, hza⟩ := hk z hzm
   obtain ⟨kvs, A, hd, hv⟩ := hT.same e
   obtain ⟨v1, v2, x1, x2, y1, y2⟩ := hv _ hzc
   have g := DGet.k (k := Sum.inr z.2.2.2.1) hd
   rw [v1] at g
   have hMl : M.length = i := by
     have := congrArg List.length hMv
     rw [List.length_map, List.length_map, vls_len, List.length_take] at this
     omega
   have l1 := frm_len (L.take i)
   rw [List.length_take] at l1
   refine ⟨_, rfl, .inl ⟨rfl, _, SqL.of hpp⟩, _, rfl, _, rfl, .inr (.inl ⟨z.1, _, 3, _, rfl, rfl, hTz, rfl, _, rfl, _, rfl, .inr (.inl ⟨z.1, _, 2, _, rfl, rfl, hTz, rfl, d, _, rfl, g, z.2.2.2.2, x z.2.2.2.1, y z.2.2.2.1, A z.2.2.2.1, rfl, v2, hza, x1, x2, y1, y2, (by show 1 ≤ sizeLine; decide), fun t1 ht1 => ?_⟩)⟩)⟩
   have f1 := squ (o := .tup [.int (N13.nearZ (z.2.2.2.2 * x z.2.2.2.1) (y z.2.2.2.1))]) ht1
   refine ⟨z.1, t1, _, _, rfl, rfl, SqT.of (f1 _ _ hzz), SqT.of uqs, (by intro w; cases w), (by show 4 + 1 ≤ sizeLine; decide), (fun w => by cases w), fun _ tp htp => ?_⟩
   have f2 := squ (o := .tup ([.str z.2.1, .str z.2.2.1, .str z.2.2.2.1, .int z.2.2.2.2] ++ [.int (N13.nearZ (z.2.2.2.2 * x z.2.2.2.1) (y z.2.2.2.1))])) htp
   have f12 := f1.trans f2
   have hp3 := f12 _ _ hpp
   refine ⟨p, _, _, rfl, rfl, hp3, (by rw [rf5_len]; omega), ?_⟩
   have eA := same_set (o := .lst (rf5 M ++ [.ref tp])) (e.trans f12) hp
   have pA : upd (upd (upd H1 t1 (.tup [.int (N13.nearZ (z.2.2.2.2 * x z.2.2.2.1) (y z.2.2.2.1))])) tp (.tup ([.str z.2.1, .str z.2.2.1, .str z.2.2.2.1, .int z.2.2.2.2] ++ [.int (N13.nearZ (z.2.2.2.2 * x z.2.2.2.1) (y z.2.2.2.1))]))) p (.lst (rf5 M ++ [.ref tp])) p = some (.lst (rf5 (M ++ [(tp, N25.lnv (wS x y) z.2)]))) := by
     rw [uqs, rf5_app]
     rfl
   have fA : upd (upd (upd H1 t1 (.tup [.int (N13.nearZ (z.2.2.2.2 * x z.2.2.2.1) (y z.2.2.2.1))])) tp (.tup ([.str z.2.1, .str z.2.2.1, .str z.2.2.2.1, .int z.2.2.2.2] ++ [.int (N13.nearZ (z.2.2.2.2 * x z.2.2.2.1) (y z.2.2.2.1))]))) p (.lst (rf5 M ++ [.ref tp])) fp = some (.lst ((frm (L.take i)).map V.str)) := by
     rw [uqn (Ne.symm npf)]
     exact f12 _ _ hff
   have zA : upd (upd (upd H1 t1 (.tup [.int (N13.nearZ (z.2.2.2.2 * x z.2.2.2.1) (y z.2.2.2.1))])) tp (.tup ([.str z.2.1, .str z.2.2.1, .str z.2.2.2.1, .int z.2.2.2.2] ++ [.int (N13.nearZ (z.2.2.2.2 * x z.2.2.2.1) (y z.2.2.2.1))]))) p (.lst (rf5 M ++ [.ref tp])) z.1 = some (tupZ z) := tup_keepL (f12 _ _ hzz) hp3
   have rA : R5 (upd (upd (upd H1 t1 (.tup [.int (N13.nearZ (z.2.2.2.2 * x z.2.2.2.1) (y z.2.2.2.1))])) tp (.tup ([.str z.2.1, .str z.2.2.1, .str z.2.2.2.1, .int z.2.2.2.2] ++ [.int (N13.nearZ (z.2.2.2.2 * x z.2.2.2.1) (y z.2.2.2.1))]))) p (.lst (rf5 M ++ [.ref tp]))) (M ++ [(tp, N25.lnv (wS x y) z.2)]) := fun y' hy => by
     rcases List.mem_append.mp hy with w | w
     · exact tup_keepL (f12 _ _ (hM y' w)) hp3
     · rw [List.mem_singleton.mp w]
       exact tup_keepL uqs hp3
   have mA : (M ++ [(tp, N25.lnv (wS x y) z.2)]).map (·.2) = (vls (L.take (i + 1))).map (N25.lnv (wS x y)) := by
     rw [List.map_append, hMv, vls_snoc hz, List.map_append]
     rfl
   show _
   generalize upd (upd (upd H1 t1 (.tup [.int (N13.nearZ (z.2.2.2.2 * x z.2.2.2.1) (y z.2.2.2.1))])) tp (.tup ([.str z.2.1, .str z.2.2.1, .str z.2.2.2.1, .int z.2.2.2.2] ++ [.int (N13.nearZ (z.2.2.2.2 * x z.2.2.2.1) (y z.2.2.2.1))]))) p (.lst (rf5 M ++ [.ref tp])) = HA at eA pA fA zA rA ⊢
   generalize M ++ [(tp, N25.lnv (wS x y) z.2)] = MA at pA rA mA
   have hTA := SqT.of (K := K) zA
   refine ⟨_, rfl, .inr (.inl ⟨z.1, _, 0, _, rfl, rfl, hTA, rfl, _, rfl, fp, _, rfl, .inl (SqL.of fA), rfl, flat_strs _, _, rfl, ?_⟩)⟩
   rw [inV_strs]
   show if (!decide (z.2.1 ∈ frm (L.take i))) = true then _ else _
   refine ndec2 (fun hc1 => ?_) (fun hc1 => ?_)
   · refine ⟨_, rfl, .inl ⟨rfl, _, SqL.of fA⟩, _, rfl, .inr (.inl ⟨z.1, _, 0, _, rfl, rfl, hTA, rfl, fp, _, _, rfl, rfl, fA, (by rw [List.length_map]; omega), ?_⟩)⟩
     refine ⟨_, _, _, MA, rfl, same_set eA hf0, (by rw [uqn npf]; exact pA), ?_, (fun y' hy => tup_keepL (rA y' hy) fA), mA⟩
     rw [uqs, frm_snoc hz]
     unfold N21.add
     rw [if_neg hc1, List.map_append]
     rfl
   · refine ⟨_, _, _, MA, rfl, eA, pA, ?_, rA, mA⟩
     rw [frm_snoc hz]
     unfold N21.add
     rw [if_pos hc1]
     exact fA
 rintro σ H1 ⟨o5, o6, o7, M, rfl, e, hpp, hff, hM, hMv⟩
 rw [rfs_len, List.take_length] at hff hMv
 have hMl : M.length = L.length := by
   have := congrArg List.length hMv
   rw [List.length_map, List.length_map, vls_len] at this
   exact this
 have hFl := frm_len L
 refine ⟨_, rfl, fp, rfl, ⟨_, SqL.of hff⟩, ?_⟩
 refine for_list (xs := (frm L).map V.str) (fun i σ H' => ∃ (o5 o6 o7 : Option V) (M : List Ln), σ = [some (.ref l), some (.ref d), some (.str t), some (.ref p), some (.ref fp), o5, o6, o7] ∧ Same H H' ∧ H' p = some (.lst (rf5 M)) ∧ H' fp = some (.lst ((frm L).map V.str)) ∧ R5 H' M ∧ M.map (·.2) = (vls L).map (N25.lnv (wS x y)) ++ ((frm L).take i).flatMap (fun g => N25.rone (κ := Str) "*rounding" t (g, N21.tot g (N25.fw (wS x y) (vls L)))) ∧ M.length ≤ L.length + i) ⟨_, _, _, M, rfl, e, hpp, hff, hM, (by rw [hMv]; simp), by omega⟩ ?_ ?_ ?_
 · rintro i σ H2 hi ⟨o5, o6, o7, M, rfl, e, _, hff, _⟩
   exact SqL.of hff
 · clear hMv hMl hM hpp hff e
   rintro i x' σ H2 hx ⟨o5, o6, o7, M, rfl, e, hpp, hff, hM, hMv, hMl⟩
   obtain ⟨f, hfi, rfl⟩ := strs_at hx
   have hiF : i < (frm L).length := (List.getElem?_eq_some_iff.mp hfi).1
   refine ⟨_, rfl, p, rfl, ⟨_, SqL.of hpp⟩, ?_⟩
   refine lc_listIf (xs := rf5 M) (fun j ys H5 => ys = (((M.take j).filter fun y' => decide (y'.2.1 = f)).map (·.2.2.2.2)).map V.int ∧ H5 = H2) ⟨rfl, rfl⟩ (by rw [rf5_len]; omega) ?_ ?_ ?_
   · rintro j ys H5 hj ⟨rfl, rfl⟩
     refine ⟨SqL.of hpp, ?_⟩
     rw [List.length_map, List.length_map]
     have h1 := List.length_filter_le (fun y' : Ln => decide (y'.2.1 = f)) (M.take j)
     rw [List.length_take] at h1
     omega
   · rintro j x' ys H5 hx ⟨rfl, rfl⟩
     obtain ⟨y', hy, rfl⟩ := rf5_at hx
     have hTy := SqT.of (K := K) (hM y' (List.mem_of_getElem? hy))
     refine ⟨_, rfl, .inr (.inl ⟨y'.1, _, 0, _, rfl, rfl, hTy, rfl, _, rfl, rfl, _, rfl, ?_⟩)⟩
     refine dec2 (fun h => ?_) (fun h => ?_)
     · refine ⟨_, rfl, .inr (.inl ⟨y'.1, _, 4, _, rfl, rfl, hTy, rfl, ?_, rfl⟩)⟩
       rw [take_nx hy, List.filter_append, List.filter_cons_of_pos (by simpa using V.str.inj h), List.map_append, List.map_append]
       rfl
     · refine ⟨?_, rfl⟩
       rw [take_nx hy, List.filter_append, List.filter_cons_of_neg (by simpa using fun w => h (congrArg V.str w))]
       simp
   rintro ys HX ⟨rfl, rfl⟩ k1 hk1
   have hnf : f ∉ (frm L).take i := nd_takeS (N21.nodup_firsts _) hfi
   rw [rf5_len, List.take_length]
   have f1 := squ (o := .lst (((M.filter fun y' => decide (y'.2.1 = f)).map (·.2.2.2.2)).map V.int)) hk1
   refine ⟨k1, _, rfl, SqL.of uqs, ?_⟩
   rw [fil_sum, hMv, sum_firm f (wS x y) "*rounding" t (vls L) _ hnf]
   have hp1 := f1 _ _ hpp
   refine ⟨_, rfl, rfl, _, rfl, ?_⟩
   have nx : ((frm L).take (i + 1)).flatMap (fun g => N25.rone (κ := Str) "*rounding" t (g, N21.tot g (N25.fw (wS x y) (vls L)))) = ((frm L).take i).flatMap (fun g => N25.rone (κ := Str) "*rounding" t (g, N21.tot g (N25.fw (wS x y) (vls L)))) ++ N25.rone (κ := Str) "*rounding" t (f, N21.tot f (N25.fw (wS x y) (vls L))) := by
     rw [take_nx hfi, List.flatMap_append]
     simp
   refine ndec2 (fun h => ?_) (fun h => ?_)
   · have h0 : N21.tot f (N25.fw (wS x y) (vls L)) ≠ 0 := fun z => h (congrArg V.int z)
     refine ⟨_, rfl, .inl ⟨rfl, _, SqL.of hp1⟩, _, rfl, _, rfl, _, rfl, _, rfl, (by show 5 ≤ sizeLine; decide), fun t2 ht2 => ?_⟩
     have g2 := squ (o := tup5 (t2, f, (("*rounding" : Str), t), 0, -N21.tot f (N25.fw (wS x y) (vls L)))) ht2
     have hp3 := g2 _ _ hp1
     refine ⟨p, _, _, rfl, rfl, hp3, (by rw [rf5_len]; omega), ?_⟩
     refine ⟨_, _, _, M ++ [(t2, f, (("*rounding" : Str), t), 0, -N21.tot f (N25.fw (wS x y) (vls L)))], rfl, same_set ((e.trans f1).trans g2) hp, (by rw [uqs, rf5_app]; rfl), (by rw [uqn (Ne.symm npf)]; exact g2 _ _ (f1 _ _ hff)), fun y' hy => ?_, ?_, ?_⟩
     · rcases List.mem_append.mp hy with w | w
       · exact tup_keepL (g2 _ _ (f1 _ _ (hM y' w))) hp3
       · rw [List.mem_singleton.mp w]
         exact tup_keepL uqs hp3
     · rw [List.map_append, hMv, nx, List.append_assoc]
       congr 2
       unfold N25.rone
       rw [if_pos h0]
       rfl
     · rw [List.length_append]
       show M.length + 1 ≤ _
       omega
   · have h0 : N21.tot f (N25.fw (wS x y) (vls L)) = 0 := V.int.inj h
     refine ⟨_, _, _, M, rfl, e.trans f1, hp1, f1 _ _ hff, hM.same f1, ?_, by omega⟩
     rw [hMv, nx]
     unfold N25.rone
     rw [h0]
     simp
 rintro σ H2 ⟨o5, o6, o7, M, rfl, e, hpp, hff, hM, hMv, hMl⟩
 rw [List.length_map, List.take_length] at hMv
 rw [List.length_map] at hMl
 refine ⟨_, rfl, q p M _ e hp hpp hM ?_ (by omega)⟩
 rw [hMv]
 unfold N25.lines
 rw [rnd_flat, fw_firms]
 rfl
def spTd : Sp := fun vs H Q _ => ∃ (f d : Addr) (M N : List Ln), vs = [.ref f, .ref d] ∧ H f = some (.lst (rf5 M)) ∧ H d = some (.lst (rf5 N)) ∧ R5 H M ∧ R5 H N ∧ M.map (·.2) = N.map (·.2) ∧ Q (.bl true) H
theorem eq5 {K : PySem.W.Frag} {H : Hp} {M N : List Ln} (h1 : R5 H M) (h2 : R5 H N) (h : M.map (·.2) = N.map (·.2)) : EqLs K H (rf5 M) (rf5 N) := by
 refine ⟨by have := congrArg List.length h; rw [List.length_map, List.length_map] at this; rw [rf5_len, rf5_len]; exact this, fun j x y e1 e2 => ?_⟩
 obtain ⟨y1, m1, rfl⟩ := rf5_at e1
 obtain ⟨y2, m2, rfl⟩ := rf5_at e2
 have hy : y1.2 = y2.2 := by
   have h := congrArg (fun l => l[j]?) h
   simp only [List.getElem?_map, m1, m2] at h
   exact Option.some.inj h
 have t1 := h1 y1 (List.mem_of_getElem? m1)
 have t2 := h2 y2 (List.mem_of_getElem? m2)
 unfold tup5 at t1 t2
 rw [← hy] at t2
 refine .inr ⟨y1.1, y2.1, _, rfl, rfl, SqT.of t1, SqT.of t2, fun w hw => ?_⟩
 simp only [List.mem_cons, List.not_mem_nil, or_false] at hw
 rcases hw with rfl | rfl | rfl | rfl | rfl <;> rfl
def nrT (c : Str) (dy : Int) : List V := [.str "NoRate", .str c, .int dy]
def otT : List V := [.str "other", .bl true]
theorem pl_nr {c : Str} {dy : Int} : ∀ z ∈ nrT c dy, eqPl z = true := by
 intro z hz
 unfold nrT at hz
 simp only [List.mem_cons, List.not_mem_nil, or_false] at hz
 rcases hz with rfl | rfl | rfl <;> rfl
theorem pl_ot : ∀ z ∈ otT, eqPl z = true := by
 intro z hz
 unfold otT at hz
 simp only [List.mem_cons, List.not_mem_nil, or_false] at hz
 rcases hz with rfl | rfl <;> rfl
def Due (H : Hp) (v : V) (o : Option (List V)) : Prop := (o = none ∧ v = .non) ∨ ∃ xs t, o = some xs ∧ v = .ref t ∧ H t = some (.tup xs)
theorem Due.same {H H' : Hp} {v : V} {o : Option (List V)} (h : Due H v o) (e : Same H H') : Due H' v o := by
 rcases h with h | ⟨xs, t, h1, h2, h3⟩
 · exact .inl h
 · exact .inr ⟨xs, t, h1, h2, e _ _ h3⟩
theorem Due.eqO {K : PySem.W.Frag} {H : Hp} {v w : V} {o : Option (List V)} (h : Due H v o) (k : Due H w o) (pl : ∀ xs, o = some xs → ∀ z ∈ xs, eqPl z = true) : EqO K H v w := by
 rcases h with ⟨h1, h2⟩ | ⟨xs, t, h1, h2, h3⟩
 · rcases k with ⟨k1, k2⟩ | ⟨xs, t, k1, k2, k3⟩
   · exact .inl ⟨h2, k2⟩
   · rw [h1] at k1; cases k1
 · rcases k with ⟨k1, k2⟩ | ⟨ys, u, k1, k2, k3⟩
   · rw [h1] at k1; cases k1
   · rw [h1] at k1
     cases k1
     exact .inr ⟨t, u, xs, h2, k2, SqT.of h3, SqT.of k3, pl xs h1⟩
def refd (b : Bool) (g : Str → Bool) (dy : Int) (L : List Sd) : Option (List V) := if b = true ∧ bad L ≠ none then some otT else (lackC g L).map fun c => nrT c dy
def spLk : Sp := fun vs H Q _ => ∃ (l kl : Addr) (dy : Int) (lk : List Str) (g : Str → Bool) (L : List Sd), vs = [.ref l, .ref kl, .int dy] ∧ H l = some (.lst (rfs L)) ∧ RT H L ∧ H kl = some (.lst (lk.map V.str)) ∧ (∀ z ∈ L, g z.2.2.2.1 = !decide (z.2.2.2.1 ∈ lk)) ∧ ∀ v H', Same H H' → Due H' v ((lackC g L).map fun c => nrT c dy) → Q v H'
def spOp : Sp := fun vs H Q _ => ∃ (l : Addr) (L : List Sd), vs = [.ref l] ∧ H l = some (.lst (rfs L)) ∧ RT H L ∧ L.length ≤ 60 ∧ (bad L = none → ∀ H', Same H H' → Q (.bl false) H') ∧ (bad L ≠ none → ∀ H', Same H H' → Q (.bl true) H')
def spRf (K : PySem.W.Frag) (C : Addr) : Sp := fun vs H Q _ => ∃ (l rp d : Addr) (b : Bool) (dy : Int) (t : Str) (kvs : List (List Key × V)) (g : Str → Bool) (X Y : Str → Int) (L : List Sd), vs = [.ref l, .int dy, .ref rp, .bl b] ∧ H l = some (.lst (rfs L)) ∧ RT H L ∧ L.length ≤ 60 ∧ (∀ z ∈ L, Let z.2.1) ∧ RtG K C H rp d t kvs dy g X Y ∧ (∀ z ∈ L, z.2.2.2.2.natAbs ≤ 2 ^ 145) ∧
 ∀ v H', Same H H' → Due H' v (refd b g dy L) → Q v H'
theorem refd_u {g : Str → Bool} {dy : Int} {L : List Sd} {c : Str} {r : Int} (h : bad L = some (c, r)) : refd true g dy L = some otT := by
 unfold refd
 rw [if_pos ⟨rfl, by rw [h]; intro z; cases z⟩]
theorem refd_n {b : Bool} {g : Str → Bool} {dy : Int} {L : List Sd} (h : b = false ∨ bad L = none) : refd b g dy L = (lackC g L).map fun c => nrT c dy := by
 unfold refd
 rw [if_neg]
 rintro ⟨h1, h2⟩
 rcases h with w | w
 · rw [w] at h1; cases h1
 · exact h2 w
theorem sc__law_told : FnScope ["_law_found", "_law_due", "_law_line"] ["_law_found", "_law_due"] (defScope s__law_told) := ⟨rfl, rfl, rfl, by decide +kernel, rfl, by decide +kernel, by decide +kernel⟩
theorem ok__law_told (D : Def K mg "_law_told" s__law_told .none) (c__law_whole : Cal P w K mg base CX0 true 1 "_law_whole" ["_law_found"] [] spWhole) (z_isinstance : mg "isinstance" = none) (z_list : mg "list" = none) (z_len : mg "len" = none) (z_tuple : mg "tuple" = none) (z_str : mg "str" = none) : Cal P w K mg base CX0 true 2 "_law_told" ["_law_found", "_law_due"] [] spTd := by
 obtain ⟨f, fd, F, hm⟩ := D
 obtain ⟨f__law_whole, fd__law_whole, d__law_whole, G__law_whole, m__law_whole, k__law_whole, b__law_whole, v__law_whole, b__law_whole1⟩ := c__law_whole
 refine ⟨f, fd, _, F.ok sc__law_told (fun vs H Q E h => ?_) (fun cdv A outer s H vs Q E hr h => ?_), hm, F.kp, (F.binds fun _ _ _ _ _ _ us hl => match us, hl with | [_, _], _ => rfl), .nil, F.binds fun _ _ _ _ _ _ us hl => match us, hl with | [_, _], _ => rfl⟩
 · obtain ⟨f_, d_, M, Nn, rfl, hf, hd, hM, hN, hv, q⟩ := h
   rfl
 obtain ⟨f_, d_, M, Nn, rfl, hf, hd, hM, hN, hv, q⟩ := h
 have nd := sc__law_told.nd
 refine ⟨_, (pqc (ps_if (PW.pt (pw_or (pt_not (pt_val (pe_callB call_is rfl z_isinstance bt_isinstance (pcx (pv 0) (pcx (pe_bltn (v := .ty "list") rfl z_list bt_list rfl) pnx))))) (pw_or1 (pt_cmpR op_ne (pe_callB call_len_seq rfl z_len bt_len (pcx (pv 0) pnx)) (pe_callB call_len_seq rfl z_len bt_len (pcx (pv 1) pnx)) (nomark _))))) (pqo (ps_ret pe_bl)) pss_nil)
   (pqc (ps_for PassesOwn.never rfl (pi_list (pv 0)) (pg_name (i := 2) nd rfl (Or.inl rfl)) (pqc (ps_if (PW.pt (pw_or (pt_not (pt_val (pe_callB call_is rfl z_isinstance bt_isinstance (pcx (pv 2) (pcx (pe_bltn (v := .ty "tuple") rfl z_tuple bt_tuple rfl) pnx))))) (pw_or1 (pt_cmpR op_ne (pe_callB call_len_seq rfl z_len bt_len (pcx (pv 2) pnx)) pqi (nomark _))))) (pqo (ps_ret pe_bl)) pss_nil)
   (pqc (ps_if (PW.pt (pw_or (pt_not (pt_val (pe_callB call_is rfl z_isinstance bt_isinstance (pcx (pe_ix ix_seq (pv 2) pqi (fun _ _ => rfl)) (pcx (pe_bltn (v := .ty "str") rfl z_str bt_str rfl) pnx))))) (pw_or (pt_not (pt_val (pe_callB call_is rfl z_isinstance bt_isinstance (pcx (pe_ix ix_seq (pv 2) pqi (fun _ _ => rfl)) (pcx (pe_bltn (v := .ty "str") rfl z_str bt_str rfl) pnx))))) (pw_or1 (pt_not (pt_val (pe_callB call_is rfl z_isinstance bt_isinstance (pcx (pe_ix ix_seq (pv 2) pqi (fun _ _ => rfl)) (pcx (pe_bltn (v := .ty "str") rfl z_str bt_str rfl) pnx))))))))) (pqo (ps_ret pe_bl)) pss_nil)
   (pqo (ps_if (PW.pt (pw_or (pt_not (pt_val (pe_call G__law_whole (hr.mono (by decide)) rfl m__law_whole k__law_whole b__law_whole Paired.nil pass0 (pcx (pe_ix ix_seq (pv 2) pqi (fun _ _ => rfl)) pnx)))) (pw_or1 (pt_not (pt_val (pe_call G__law_whole (hr.mono (by decide)) rfl m__law_whole k__law_whole b__law_whole Paired.nil pass0 (pcx (pe_ix ix_seq (pv 2) pqi (fun _ _ => rfl)) pnx))))))) (pqo (ps_ret pe_bl)) pss_nil)))))
   (pqo (ps_ret (pe_cmpR (op_eqD hr) (pv 0) (pv 1) (nomark _)))))), ?_⟩
 have l1 := rf5_len M
 have l2 := rf5_len Nn
 have l3 : M.length = Nn.length := by
   have := congrArg List.length hv
   rw [List.length_map, List.length_map] at this
   exact this
 refine ⟨_, rfl, _, _, _, _, _, rfl, .of (.lst hf), rfl, rfl, true, rfl, iteF ?_⟩
 refine ⟨_, rfl, f_, _, rfl, .inl (SqL.of hf), _, rfl, d_, _, rfl, .inl (SqL.of hd), rfl, _, rfl, ndecF (congrArg V.int (by omega)) ?_⟩
 refine ⟨_, rfl, f_, rfl, ⟨_, SqL.of hf⟩, ?_⟩
 refine for_list (xs := rf5 M) (fun i σ H' => ∃ (o : Option V), σ = [some (.ref f_), some (.ref d_), o] ∧ H' = H) ⟨_, rfl, rfl⟩ ?_ ?_ ?_
 · rintro i σ H4 hi ⟨o, rfl, rfl⟩
   exact SqL.of hf
 · rintro i x σ H4 hx ⟨o, rfl, rfl⟩
   obtain ⟨z, hz, rfl⟩ := rf5_at hx
   have hzz := hM z (List.mem_of_getElem? hz)
   have hT := SqT.of (K := K) hzz
   refine ⟨_, rfl, _, _, _, _, _, rfl, .of (.tup hzz), rfl, rfl, true, rfl, iteF ?_⟩
   refine ⟨_, rfl, z.1, _, rfl, .inr hT, rfl, _, rfl, ndecF rfl ?_⟩
   refine ⟨_, rfl, .inr (.inl ⟨z.1, _, 0, _, rfl, rfl, hT, rfl, _, _, _, _, _, rfl, .of (.str _), rfl, rfl, true, rfl, iteF ?_⟩)⟩
   refine ⟨_, rfl, .inr (.inl ⟨z.1, _, 1, _, rfl, rfl, hT, rfl, _, _, _, _, _, rfl, .of (.str _), rfl, rfl, true, rfl, iteF ?_⟩)⟩
   refine ⟨_, rfl, .inr (.inl ⟨z.1, _, 2, _, rfl, rfl, hT, rfl, _, _, _, _, _, rfl, .of (.str _), rfl, rfl, true, rfl, iteF ?_⟩)⟩
   refine ⟨_, rfl, .inr (.inl ⟨z.1, _, 3, _, rfl, rfl, hT, rfl, _, rfl, true, rfl, iteF ?_⟩)⟩
   exact ⟨_, rfl, .inr (.inl ⟨z.1, _, 4, _, rfl, rfl, hT, rfl, _, rfl, true, rfl, iteF ⟨_, rfl, rfl⟩⟩)⟩
 rintro σ H4 ⟨o, rfl, rfl⟩
 exact ⟨_, rfl, _, rfl, f_, d_, _, _, rfl, rfl, SqL.of hf, SqL.of hd, eq5 hM hN hv, q⟩
theorem sc__law_lacking : FnScope ["_law_sides_here", "_law_lacks_here", "_law_day", "_law_side_here"] ["_law_sides_here", "_law_lacks_here", "_law_day"] (defScope s__law_lacking) := ⟨rfl, rfl, rfl, by decide +kernel, rfl, by decide +kernel, by decide +kernel⟩
theorem ok__law_lacking (D : Def K mg "_law_lacking" s__law_lacking .none) : Cal P w K mg base CX0 true 1 "_law_lacking" ["_law_sides_here", "_law_lacks_here", "_law_day"] [] spLk := by
 obtain ⟨f, fd, F, hm⟩ := D
 refine ⟨f, fd, _, F.ok sc__law_lacking (fun vs H Q E h => ?_) (fun cdv A outer s H vs Q E hr h => ?_), hm, F.kp, (F.binds fun _ _ _ _ _ _ us hl => match us, hl with | [_, _, _], _ => rfl), .nil, F.binds fun _ _ _ _ _ _ us hl => match us, hl with | [_, _, _], _ => rfl⟩
 · obtain ⟨l, kl, dy, lk, g, L, rfl, hl, hL, hkl, hg, q⟩ := h
   rfl
 obtain ⟨l, kl, dy, lk, g, L, rfl, hl, hL, hkl, hg, q⟩ := h
 have nd := sc__law_lacking.nd
 refine ⟨_, (pqc (ps_for PassesOwn.never rfl (pi_list (pv 0)) (pg_name (i := 3) nd rfl (Or.inl rfl)) (pqo (ps_if (pt_cmpR op_in_seq (pe_ix ix_seq (pv 3) pqi (fun _ _ => rfl)) (pv 1) (by with_unfolding_all rfl)) (pqo (ps_ret (pe_tup (pcx pe_str (pcx (pe_ix ix_seq (pv 3) pqi (fun _ _ => rfl)) (pcx (pv 2) pnx)))))) pss_nil)))
   (pqo (ps_ret pe_non))), ?_⟩
 refine ⟨_, rfl, l, rfl, ⟨_, SqL.of hl⟩, ?_⟩
 refine for_list (xs := rfs L) (fun i σ H' => ∃ (o : Option V), σ = [some (.ref l), some (.ref kl), some (.int dy), o] ∧ H' = H ∧ ∀ y ∈ L.take i, g y.2.2.2.1 = true) ⟨_, rfl, rfl, fun y hy => nomatch hy⟩ ?_ ?_ ?_
 · rintro i σ H1 hi ⟨o, rfl, rfl, _⟩
   exact SqL.of hl
 · rintro i x σ H1 hx ⟨o, rfl, rfl, hz0⟩
   obtain ⟨z, hz, rfl⟩ := rfs_at hx
   have hzm := List.mem_of_getElem? hz
   have hT := SqT.of (K := K) (hL z hzm)
   refine ⟨_, rfl, .inr (.inl ⟨z.1, _, 2, _, rfl, rfl, hT, rfl, _, rfl, kl, _, rfl, .inl (SqL.of hkl), rfl, flat_strs _, _, rfl, ?_⟩)⟩
   rw [inV_strs]
   show if decide (z.2.2.2.1 ∈ lk) = true then _ else _
   refine dec2 (fun h => ?_) (fun h => ?_)
   · have hgz : g z.2.2.2.1 = false := by rw [hg z hzm, decide_eq_true h]; rfl
     refine ⟨_, rfl, .inr (.inl ⟨z.1, _, 2, _, rfl, rfl, hT, rfl, _, rfl, (by show 3 ≤ sizeLine; decide), fun t ht => ?_⟩)⟩
     refine q (.ref t) _ (squ ht) (.inr ⟨nrT z.2.2.2.1 dy, t, ?_, rfl, uqs⟩)
     unfold lackC
     rw [find_at (i := i) (fun y hy => by rw [hz0 y hy]; rfl) hz (by rw [hgz]; rfl)]
     rfl
   · refine ⟨_, rfl, rfl, fun y hy => ?_⟩
     rw [take_nx hz] at hy
     rcases List.mem_append.mp hy with w | w
     · exact hz0 y w
     · rw [List.mem_singleton.mp w, hg z hzm, decide_eq_false h]
       rfl
 rintro σ H1 ⟨o, rfl, rfl, hz0⟩
 rw [rfs_len, List.take_length] at hz0
 exact q .non _ (Same.refl _) (.inl ⟨by rw [lack_none hz0]; rfl, rfl⟩)
theorem sc__law_open : FnScope ["_law_sides_here", "_law_side_here"] ["_law_sides_here"] (defScope s__law_open) := ⟨rfl, rfl, rfl, by decide +kernel, rfl, by decide +kernel, by decide +kernel⟩
theorem ok__law_open (D : Def K mg "_law_open" s__law_open .none) (z_sum : mg "sum" = none) : Cal P w K mg base CX0 true 1 "_law_open" ["_law_sides_here"] [] spOp := by
 obtain ⟨f, fd, F, hm⟩ := D
 refine ⟨f, fd, _, F.ok sc__law_open (fun vs H Q E h => ?_) (fun cdv A outer s H vs Q E hr h => ?_), hm, F.kp, (F.binds fun _ _ _ _ _ _ us hl => match us, hl with | [_], _ => rfl), .nil, F.binds fun _ _ _ _ _ _ us hl => match us, hl with | [_], _ => rfl⟩
 · obtain ⟨l, L, rfl, hl, hL, hlen, q1, q2⟩ := h
   rfl
 obtain ⟨l, L, rfl, hl, hL, hlen, q1, q2⟩ := h
 have nd := sc__law_open.nd
 refine ⟨_, (pqc (ps_for PassesOwn.never rfl (pi_list (pv 0)) (pg_name (i := 1) nd rfl (Or.inr rfl)) (pqo (ps_if (pt_cmpR op_ne (pe_callB (call_sum hr) rfl z_sum bt_sum (pcx (pe_lcIf [1] rfl (LcOk.free ["_law_side_here"] rfl rfl (List.forall_mem_cons.mpr ⟨rfl, (fun _ h => nomatch h)⟩) (by decide +kernel) rfl (by decide +kernel) rfl (by decide +kernel) (show (["_law_other", "_law_side_here"] : List Str).Nodup from by decide +kernel) (List.forall_mem_cons.mpr ⟨⟨_, rfl, rfl, rfl, by decide +kernel⟩, (fun _ h => nomatch h)⟩)) (pi_list (pv 0)) (fun C s2 H2 fp xe => (pt_cmpR op_eq (pe_ix ix_seqC (pv 0) pqi (fun _ _ => rfl)) (pe_ix ix_seqC (pv 1) pqi (fun _ _ => rfl)) (nomark _))) (fun C s2 H2 fp xe => (pe_ix ix_seqC (pv 0) pqi (fun _ _ => rfl)))) pnx)) pqi (nomark _)) (pqo (ps_ret pe_bl)) pss_nil)))
   (pqo (ps_ret pe_bl))), ?_⟩
 have hline : 600 ≤ sizeLine := by decide
 refine ⟨_, rfl, l, rfl, ⟨_, SqL.of hl⟩, ?_⟩
 refine for_list (xs := rfs L) (fun i σ H' => ∃ (o1 : Option V), σ = [some (.ref l), o1] ∧ Same H H' ∧ ∀ y ∈ L.take i, N21.tot y.2.2.2.1 (prs L) = 0) ⟨_, rfl, Same.refl _, fun y hy => nomatch hy⟩ ?_ ?_ ?_
 · rintro i σ H1 hi ⟨o1, rfl, e, _⟩
   exact SqL.of (e _ _ hl)
 · rintro i x σ H1 hx ⟨o1, rfl, e, hz0⟩
   obtain ⟨z, hz, rfl⟩ := rfs_at hx
   have hL1 := hL.same e
   have hl1 := e _ _ hl
   have hTz := SqT.of (K := K) (hL1 z (List.mem_of_getElem? hz))
   refine ⟨_, rfl, l, rfl, ⟨_, SqL.of hl1⟩, ?_⟩
   refine lc_listIf (xs := rfs L) (fun j ys H3 => ys = (((prs (L.take j)).filter (fun q => decide (q.1 = z.2.2.2.1))).map (·.2)).map V.int ∧ H3 = H1) ⟨rfl, rfl⟩ (by rw [rfs_len]; omega) ?_ ?_ ?_
   · rintro j ys H3 hj ⟨rfl, rfl⟩
     refine ⟨SqL.of hl1, ?_⟩
     rw [List.length_map, List.length_map]
     have h1 := List.length_filter_le (fun q => decide (q.1 = z.2.2.2.1)) (prs (L.take j))
     rw [prs_len, List.length_take] at h1
     omega
   · rintro j x ys H3 hx ⟨rfl, rfl⟩
     obtain ⟨y, hy, rfl⟩ := rfs_at hx
     have hTy := SqT.of (K := K) (hL1 y (List.mem_of_getElem? hy))
     refine ⟨_, rfl, .inr (.inl ⟨y.1, _, 2, _, rfl, rfl, hTy, rfl, _, rfl, .inr (.inl ⟨z.1, _, 2, _, rfl, rfl, hTz, rfl, rfl, _, rfl, ?_⟩)⟩)⟩
     refine dec2 (fun h => ?_) (fun h => ?_)
     · refine ⟨_, rfl, .inr (.inl ⟨y.1, _, 3, _, rfl, rfl, hTy, rfl, ?_, rfl⟩)⟩
       rw [prs_snoc hy, List.filter_append, List.filter_cons_of_pos (by simpa using V.str.inj h), List.map_append, List.map_append]
       rfl
     · refine ⟨?_, rfl⟩
       rw [prs_snoc hy, List.filter_append, List.filter_cons_of_neg (by simpa using fun z => h (congrArg V.str z))]
       simp
   rintro ys H3 ⟨rfl, rfl⟩ l4 hl4
   rw [rfs_len, List.take_length]
   have f1 := squ (o := .lst ((((prs L).filter (fun q => decide (q.1 = z.2.2.2.1))).map (·.2)).map V.int)) hl4
   refine ⟨l4, _, rfl, SqL.of uqs, ?_⟩
   rw [N21.tot_filter]
   refine ⟨rfl, _, rfl, ?_⟩
   refine ndec2 (fun hne => ?_) (fun h0 => ?_)
   · have hne' : N21.tot z.2.2.2.1 (prs L) ≠ 0 := fun w => hne (congrArg V.int w)
     have hbad : bad L = some (z.2.2.2.1, N21.tot z.2.2.2.1 (prs L)) := by
       rw [bad_eq, find_at (i := i) (fun y hy => by simp [hz0 y hy]) hz (by simpa using hne')]
       rfl
     exact q2 (by rw [hbad]; intro w; cases w) _ (e.trans f1)
   · refine ⟨_, rfl, e.trans f1, fun y m => ?_⟩
     rw [List.take_succ, hz] at m
     rcases List.mem_append.mp m with w | w
     · exact hz0 y w
     · rw [List.mem_singleton.mp w]
       exact V.int.inj h0
 rintro σ H1 ⟨o1, rfl, e, hz0⟩
 rw [rfs_len, List.take_length] at hz0
 refine q1 ?_ _ e
 rw [bad_eq, List.find?_eq_none.mpr (fun y hy => by simp [hz0 y hy])]
 rfl
theorem sc__law_refused : FnScope ["_law_sides_here", "_law_day", "_law_rates_here", "_law_dues_here", "_law_told_here", "e"] ["_law_sides_here", "_law_day", "_law_rates_here", "_law_dues_here"] (defScope s__law_refused) := ⟨rfl, rfl, rfl, by decide +kernel, rfl, by decide +kernel, by decide +kernel⟩
theorem ok__law_refused (D : Def K mg "_law_refused" s__law_refused .none) {C_BooksError C_NoRate C_Rates C_Unbalanced : Addr} (c_entry_lines : Cal P w K mg base (CX1 P w) true 6 "entry_lines" ["sides", "day", "rates"] [] (spEntryE K C_Rates C_NoRate C_Unbalanced)) (c_lined_by : Cal P w K mg base (CX1 P w) true 5 "lined_by" ["sides", "day", "rates"] [] (spLinedE K C_Rates C_NoRate)) (z_isinstance : mg "isinstance" = none) (m_NoRate : mg "NoRate" = some (.ref C_NoRate)) (m_BooksError : mg "BooksError" = some (.ref C_BooksError)) (m_Unbalanced : mg "Unbalanced" = some (.ref C_Unbalanced)) (X_NoRate : XCls K C_NoRate) (X_Unbalanced : XCls K C_Unbalanced) (n_rcoin : NoAttr K C_NoRate "coin") (n_rday : NoAttr K C_NoRate "day") (q_nn : PySem.W.exmOne K (.ref C_NoRate) (.ref C_NoRate) = some true) (q_un : PySem.W.exmOne K (.ref C_Unbalanced) (.ref C_NoRate) = some false) (q_ub : PySem.W.exmOne K (.ref C_Unbalanced) (.ref C_BooksError) = some true) (q_uu : PySem.W.kitOne K (.ref C_Unbalanced) (.ref C_Unbalanced) = some true) : Cal P w K mg base CX0 true 7 "_law_refused" ["_law_sides_here", "_law_day", "_law_rates_here", "_law_dues_here"] [] (spRf K C_Rates) := by
 obtain ⟨f, fd, F, hm⟩ := D
 obtain ⟨f_entry_lines, fd_entry_lines, d_entry_lines, G_entry_lines, m_entry_lines, k_entry_lines, b_entry_lines, v_entry_lines, b_entry_lines1⟩ := c_entry_lines
 obtain ⟨f_lined_by, fd_lined_by, d_lined_by, G_lined_by, m_lined_by, k_lined_by, b_lined_by, v_lined_by, b_lined_by1⟩ := c_lined_by
 refine ⟨f, fd, _, F.ok sc__law_refused (fun vs H Q E h => ?_) (fun cdv A outer s H vs Q E hr h => ?_), hm, F.kp, (F.binds fun _ _ _ _ _ _ us hl => match us, hl with | [_, _, _, _], _ => rfl), .nil, F.binds fun _ _ _ _ _ _ us hl => match us, hl with | [_, _, _, _], _ => rfl⟩
 · obtain ⟨l, rp, d, b, dy, t, kvs, g, X, Y, L, rfl, hl, hL, hlen, hLt, R, hk, q⟩ := h
   rfl
 obtain ⟨l, rp, d, b, dy, t, kvs, g, X, Y, L, rfl, hl, hL, hlen, hLt, R, hk, q⟩ := h
 have nd := sc__law_refused.nd
 refine ⟨_, (pqc (ps_set (i := 4) nd rfl (Or.inl rfl) pe_non)
   (pqc (ps_tryH rfl rfl (fun pn E' R Ek hpo hxe => (pqo (ps_if (pt_val (pv 3)) (pqo (ps_expr (pe_callR G_entry_lines (hr.mono (by decide)) rfl m_entry_lines k_entry_lines b_entry_lines Paired.nil hxe (pcx (pv 0) (pcx (pv 1) (pcx (pv 2) pnx)))))) (pqo (ps_expr (pe_callR G_lined_by (hr.mono (by decide)) rfl m_lined_by k_lined_by b_lined_by Paired.nil hxe (pcx (pv 0) (pcx (pv 1) (pcx (pv 2) pnx))))))))) (ph_as (i := 5) nd rfl rfl rfl m_NoRate (fun _ => (pqo (ps_set (i := 4) nd rfl (Or.inl rfl) (pe_tup (pcx pe_str (pcx (pe_fldXS (pv 5) rfl) (pcx (pe_fldXS (pv 5) rfl) pnx))))))) (ph_as (i := 5) nd rfl rfl rfl m_BooksError (fun _ => (pqo (ps_set (i := 4) nd rfl (Or.inl rfl) (pe_tup (pcx pe_str (pcx (pe_callB call_isS rfl z_isinstance bt_isinstance (pcx (pv 5) (pcx (pe_glob (v := .ref C_Unbalanced) rfl m_Unbalanced rfl) pnx))) pnx)))))) ph_nil)))
   (pqo (ps_ret (pv 4))))), ?_⟩
 refine ⟨_, rfl, b, rfl, ?_⟩
 cases b with
 | true =>
   refine iteT ⟨_, rfl, _, rfl, _, rfl, rfl, l, rp, d, dy, t, kvs, g, X, Y, L, rfl, hl, hL, hlen, hLt, R, hk, (fun c r hb e2 H1 e1 he => .inr ⟨q_un, .inl ⟨q_ub, fun x hx => ?_⟩⟩), (fun c hb hlk e2 H1 e1 he => .inl ⟨q_nn, fun x hx => ?_⟩), fun hb hlk p M H1 e1 hp0 hp hM hMv hMl => ?_⟩
   · refine ⟨_, rfl, _, _, _, _, _, rfl, .exc uqs X_Unbalanced, rfl, q_uu, (by show 2 ≤ sizeLine; decide), fun t ht => ?_⟩
     exact ⟨_, rfl, q (.ref t) _ ((e1.trans (squ hx)).trans (squ ht)) (.inr ⟨otT, t, refd_u hb, rfl, uqs⟩)⟩
   · have nx : e2 ≠ x := nqn he hx
     refine ⟨_, rfl, x, C_NoRate, e2, _, _, rfl, uqs, (by rw [uqn nx]; exact he), X_NoRate, n_rcoin, f2_coin _ _, _, rfl, x, C_NoRate, e2, _, _, rfl, uqs, (by rw [uqn nx]; exact he), X_NoRate, n_rday, f2_day _ _, (by show 3 ≤ sizeLine; decide), fun t ht => ?_⟩
     exact ⟨_, rfl, q (.ref t) _ ((e1.trans (squ hx)).trans (squ ht)) (.inr ⟨nrT c dy, t, (by rw [refd_n (.inr hb), hlk]; rfl), rfl, uqs⟩)⟩
   · exact ⟨_, rfl, q .non _ e1 (.inl ⟨by rw [refd_n (.inr hb), hlk]; rfl, rfl⟩)⟩
 | false =>
   refine iteF ⟨_, rfl, _, rfl, _, rfl, rfl, l, rp, d, dy, t, kvs, g, X, Y, L, rfl, hl, hL, by omega, R, (fun z hz => Nat.le_trans (hk z hz) (by decide)), (fun c hlk e2 H1 e1 he => .inl ⟨q_nn, fun x hx => ?_⟩), fun hlk p M H1 e1 hp0 hp hM hMv hMl => ?_⟩
   · have nx : e2 ≠ x := nqn he hx
     refine ⟨_, rfl, x, C_NoRate, e2, _, _, rfl, uqs, (by rw [uqn nx]; exact he), X_NoRate, n_rcoin, f2_coin _ _, _, rfl, x, C_NoRate, e2, _, _, rfl, uqs, (by rw [uqn nx]; exact he), X_NoRate, n_rday, f2_day _ _, (by show 3 ≤ sizeLine; decide), fun t ht => ?_⟩
     exact ⟨_, rfl, q (.ref t) _ ((e1.trans (squ hx)).trans (squ ht)) (.inr ⟨nrT c dy, t, (by rw [refd_n (.inl rfl), hlk]; rfl), rfl, uqs⟩)⟩
   · exact ⟨_, rfl, q .non _ e1 (.inl ⟨by rw [refd_n (.inl rfl), hlk]; rfl, rfl⟩)⟩
def cnt (f t : Str) (M : List Ln) : Nat := (M.filter fun y => decide (y.2.1 = f) && !decide (y.2.2.1.2 = t)).length
def spFew : Sp := fun vs H Q _ => ∃ (l : Addr) (t : Str) (M : List Ln), vs = [.ref l, .str t] ∧ H l = some (.lst (rf5 M)) ∧ R5 H M ∧ M.length ≤ 30000 ∧ (∀ y ∈ M, y.2.2.1.1 = "*rounding" → 2 * ((y.2.2.2.2.natAbs : Nat) : Int) ≤ (cnt y.2.1 t M : Int)) ∧ ∀ H', Same H H' → Q (.bl true) H'
theorem sc__law_few : FnScope ["_law_lines_here", "_law_told_here", "_law_line", "_law_many"] ["_law_lines_here", "_law_told_here"] (defScope s__law_few) := ⟨rfl, rfl, rfl, by decide +kernel, rfl, by decide +kernel, by decide +kernel⟩
theorem ok__law_few (D : Def K mg "_law_few" s__law_few .none) (z_len : mg "len" = none) (z_abs : mg "abs" = none) : Cal P w K mg base CX0 true 1 "_law_few" ["_law_lines_here", "_law_told_here"] [] spFew := by
 obtain ⟨f, fd, F, hm⟩ := D
 refine ⟨f, fd, _, F.ok sc__law_few (fun vs H Q E h => ?_) (fun cdv A outer s H vs Q E hr h => ?_), hm, F.kp, (F.binds fun _ _ _ _ _ _ us hl => match us, hl with | [_, _], _ => rfl), .nil, F.binds fun _ _ _ _ _ _ us hl => match us, hl with | [_, _], _ => rfl⟩
 · obtain ⟨l, t, M, rfl, hl, hM, hlen, hc, q⟩ := h
   rfl
 obtain ⟨l, t, M, rfl, hl, hM, hlen, hc, q⟩ := h
 have nd := sc__law_few.nd
 refine ⟨_, (pqc (ps_for PassesOwn.never rfl (pi_list (pv 0)) (pg_name (i := 2) nd rfl (Or.inr rfl)) (pqo (ps_if (pt_cmpR op_eq (pe_ix ix_seq (pv 2) pqi (fun _ _ => rfl)) pe_str (nomark _)) (pqc (ps_set (i := 3) nd rfl (Or.inl rfl) (pe_callB call_len_seq rfl z_len bt_len (pcx (pe_lcIf [1, 2] rfl (LcOk.free ["_law_told_here", "_law_line"] rfl rfl (List.forall_mem_cons.mpr ⟨rfl, (List.forall_mem_cons.mpr ⟨rfl, (fun _ h => nomatch h)⟩)⟩) (by decide +kernel) rfl (by decide +kernel) rfl (by decide +kernel) (show (["_law_other", "_law_told_here", "_law_line"] : List Str).Nodup from by decide +kernel) (List.forall_mem_cons.mpr ⟨⟨_, rfl, rfl, rfl, by decide +kernel⟩, (List.forall_mem_cons.mpr ⟨⟨_, rfl, rfl, rfl, by decide +kernel⟩, (fun _ h => nomatch h)⟩)⟩)) (pi_list (pv 0)) (fun C s2 H2 fp xe => (PW.pt (pw_and (pt_cmpR op_eq (pe_ix ix_seqC (pv 0) pqi (fun _ _ => rfl)) (pe_ix ix_seqC (pv 2) pqi (fun _ _ => rfl)) (nomark _)) (pw_and1 (pt_cmpR op_ne (pe_ix ix_seqC (pv 0) pqi (fun _ _ => rfl)) (pv 1) (nomark _)))))) (fun C s2 H2 fp xe => (pv 0))) pnx)))
   (pqo (ps_if (pt_cmpR op_gt (pe_op op_mulB pqi (pe_callB call_absN rfl z_abs bt_abs (pcx (pe_ix ix_seq (pv 2) pqi (fun _ _ => rfl)) pnx))) (pv 3) (nomark _)) (pqo (ps_ret pe_bl)) pss_nil))) pss_nil)))
   (pqo (ps_ret pe_bl))), ?_⟩
 have hline : 10 ^ 6 ≤ sizeLine := by decide
 refine ⟨_, rfl, l, rfl, ⟨_, SqL.of hl⟩, ?_⟩
 refine for_list (xs := rf5 M) (fun i σ H' => ∃ (o2 o3 : Option V), σ = [some (.ref l), some (.str t), o2, o3] ∧ Same H H') ⟨_, _, rfl, Same.refl _⟩ ?_ ?_ ?_
 · rintro i σ H1 hi ⟨o2, o3, rfl, e⟩
   exact SqL.of (e _ _ hl)
 · rintro i x σ H1 hx ⟨o2, o3, rfl, e⟩
   obtain ⟨z, hz, rfl⟩ := rf5_at hx
   have hzm := List.mem_of_getElem? hz
   have hl1 := e _ _ hl
   have hM1 := hM.same e
   have hTz := SqT.of (K := K) (hM1 z hzm)
   refine ⟨_, rfl, .inr (.inl ⟨z.1, _, 1, _, rfl, rfl, hTz, rfl, rfl, _, rfl, ?_⟩)⟩
   refine dec2 (fun h => ?_) (fun h => ⟨_, _, rfl, e⟩)
   have hcz := hc z hzm (V.str.inj h)
   refine ⟨_, rfl, l, rfl, ⟨_, SqL.of hl1⟩, ?_⟩
   refine lc_listIf (xs := rf5 M) (fun j ys H5 => ys = rf5 ((M.take j).filter (fun y : Ln => decide (y.2.1 = z.2.1) && !decide (y.2.2.1.2 = t))) ∧ H5 = H1) ⟨rfl, rfl⟩ (by rw [rf5_len]; omega) ?_ ?_ ?_
   · rintro j ys H5 hj ⟨rfl, rfl⟩
     refine ⟨SqL.of hl1, ?_⟩
     rw [rf5_len]
     have h1 := List.length_filter_le (fun y : Ln => decide (y.2.1 = z.2.1) && !decide (y.2.2.1.2 = t)) (M.take j)
     rw [List.length_take] at h1
     omega
   · rintro j x ys H5 hx ⟨rfl, rfl⟩
     obtain ⟨y, hy, rfl⟩ := rf5_at hx
     have hTy := SqT.of (K := K) (hM1 y (List.mem_of_getElem? hy))
     refine ⟨_, rfl, .inr (.inl ⟨y.1, _, 0, _, rfl, rfl, hTy, rfl, _, rfl, .inr (.inl ⟨z.1, _, 0, _, rfl, rfl, hTz, rfl, rfl, _, rfl, ?_⟩)⟩)⟩
     refine dec2 (fun h1 => ?_) (fun h1 => ?_)
     · refine ⟨_, rfl, .inr (.inl ⟨y.1, _, 2, _, rfl, rfl, hTy, rfl, _, rfl, rfl, _, rfl, ?_⟩)⟩
       refine ndec2 (fun h2 => ?_) (fun h2 => ?_)
       · refine ⟨_, rfl, ?_, rfl⟩
         have n2 : ¬ y.2.2.1.2 = t := fun w => h2 (congrArg V.str w)
         rw [take_nx hy, List.filter_append, List.filter_cons_of_pos (by simp [V.str.inj h1, n2]), rf5_app]
         rfl
       · refine ⟨?_, rfl⟩
         rw [take_nx hy, List.filter_append, List.filter_cons_of_neg (by simp [V.str.inj h2])]
         simp
     · refine iteF ⟨?_, rfl⟩
       have n1 : ¬ y.2.1 = z.2.1 := fun w => h1 (congrArg V.str w)
       rw [take_nx hy, List.filter_append, List.filter_cons_of_neg (by simp [n1])]
       simp
   rintro ys HX ⟨rfl, rfl⟩ k1 hk1
   rw [rf5_len, List.take_length]
   have f1 := squ (o := .lst (rf5 (M.filter (fun y : Ln => decide (y.2.1 = z.2.1) && !decide (y.2.2.1.2 = t))))) hk1
   refine ⟨k1, _, rfl, .inl (SqL.of uqs), ?_⟩
   rw [rf5_len]
   refine ⟨_, rfl, .inr (.inl ⟨z.1, _, 4, _, rfl, rfl, SqT.of (f1 _ _ (hM1 z hzm)), rfl, z.2.2.2.2, rfl, _, _, rfl, rfl, .of_left (intBits_le_64 (by decide) (by decide)), _, rfl, _, _, rfl, rfl, _, rfl, decF ?_ ⟨_, _, rfl, e.trans f1⟩⟩)⟩
   have : (cnt z.2.1 t M : Int) = ((M.filter (fun y : Ln => decide (y.2.1 = z.2.1) && !decide (y.2.2.1.2 = t))).length : Int) := rfl
   omega
 rintro σ H1 ⟨o2, o3, rfl, e⟩
 exact q _ e
theorem join2 {α β : Type} {G : Prop} (F P : α → β → Prop) (hm : (∀ x y, F x y → P x y) → G) (hr : ∀ x y, F x y → P x y) : G := hm hr
theorem pl_lk {g : Str → Bool} {dy : Int} {L : List Sd} : ∀ xs, ((lackC g L).map fun c => nrT c dy) = some xs → ∀ z ∈ xs, eqPl z = true := fun xs h => by
 cases hl : lackC g L with
 | none => rw [hl] at h; cases h
 | some c => rw [hl] at h; cases h; exact pl_nr
theorem pl_rf {b : Bool} {g : Str → Bool} {dy : Int} {L : List Sd} : ∀ xs, refd b g dy L = some xs → ∀ z ∈ xs, eqPl z = true := fun xs h => by
 unfold refd at h
 split at h
 · cases h; exact pl_ot
 · exact pl_lk xs h
structure Sds (H : Hp) (l : Addr) (L : List Sd) : Prop where
 h : H l = some (.lst (rfs L))
 r : RT H L
 n : L.length ≤ 60
 f : ∀ z ∈ L, Let z.2.1
 a : ∀ z ∈ L, z.2.2.2.2.natAbs ≤ 2 ^ 145
theorem Sds.same {H H' : Hp} {l : Addr} {L : List Sd} (S : Sds H l L) (e : Same H H') : Sds H' l L := ⟨e _ _ S.h, S.r.same e, S.n, S.f, S.a⟩
def spFirst (K : PySem.W.Frag) (C : Addr) : Sp := fun vs H Q _ => ∃ (sl bl rp d kl : Addr) (dy : Int) (t : Str) (kvs : List (List Key × V)) (g : Str → Bool) (X Y : Str → Int) (lk : List Str) (L B : List Sd), vs = [.ref sl, .ref bl, .int dy, .ref rp, .ref kl] ∧ Sds H sl L ∧ Sds H bl B ∧ bad B = none ∧ H kl = some (.lst (lk.map V.str)) ∧ (∀ z ∈ L, g z.2.2.2.1 = !decide (z.2.2.2.1 ∈ lk)) ∧ (∀ z ∈ B, g z.2.2.2.1 = !decide (z.2.2.2.1 ∈ lk)) ∧ RtG K C H rp d t kvs dy g X Y ∧ ∀ H', Same H H' → Q (.bl true) H'
theorem sc__law_first : FnScope ["_law_sides_here", "_law_balanced", "_law_day", "_law_rates_here", "_law_lacks_here", "_law_handed", "_law_due"] ["_law_sides_here", "_law_balanced", "_law_day", "_law_rates_here", "_law_lacks_here"] (defScope s__law_first) := ⟨rfl, rfl, rfl, by decide +kernel, rfl, by decide +kernel, by decide +kernel⟩
theorem ok__law_first (D : Def K mg "_law_first" s__law_first .none) {C_Rates : Addr} (c__law_lacking : Cal P w K mg base CX0 true 1 "_law_lacking" ["_law_sides_here", "_law_lacks_here", "_law_day"] [] spLk) (c__law_refused : Cal P w K mg base CX0 true 7 "_law_refused" ["_law_sides_here", "_law_day", "_law_rates_here", "_law_dues_here"] [] (spRf K C_Rates)) (c__law_open : Cal P w K mg base CX0 true 1 "_law_open" ["_law_sides_here"] [] spOp) (z_list : mg "list" = none) : Cal P w K mg base CX0 true 8 "_law_first" ["_law_sides_here", "_law_balanced", "_law_day", "_law_rates_here", "_law_lacks_here"] [] (spFirst K C_Rates) := by
 obtain ⟨f, fd, F, hm⟩ := D
 obtain ⟨f__law_lacking, fd__law_lacking, d__law_lacking, G__law_lacking, m__law_lacking, k__law_lacking, b__law_lacking, v__law_lacking, b__law_lacking1⟩ := c__law_lacking
 obtain ⟨f__law_refused, fd__law_refused, d__law_refused, G__law_refused, m__law_refused, k__law_refused, b__law_refused, v__law_refused, b__law_refused1⟩ := c__law_refused
 obtain ⟨f__law_open, fd__law_open, d__law_open, G__law_open, m__law_open, k__law_open, b__law_open, v__law_open, b__law_open1⟩ := c__law_open
 refine ⟨f, fd, _, F.ok sc__law_first (fun vs H Q E h => ?_) (fun cdv A outer s H vs Q E hr h => ?_), hm, F.kp, (F.binds fun _ _ _ _ _ _ us hl => match us, hl with | [_, _, _, _, _], _ => rfl), .nil, F.binds fun _ _ _ _ _ _ us hl => match us, hl with | [_, _, _, _, _], _ => rfl⟩
 · obtain ⟨sl, bl, rp, d, kl, dy, t, kvs, g, X, Y, lk, L, B, rfl, SL, SB, hbb, hkl, hgL, hgB, R, q⟩ := h
   rfl
 obtain ⟨sl, bl, rp, d, kl, dy, t, kvs, g, X, Y, lk, L, B, rfl, SL, SB, hbb, hkl, hgL, hgB, R, q⟩ := h
 have nd := sc__law_first.nd
 refine ⟨_, (pqc (ps_set (i := 5) nd rfl (Or.inl rfl) (pe_callTy call_list_of rfl z_list bt_list (pcx (pv 0) pnx)))
   (pqc (ps_set (i := 6) nd rfl (Or.inl rfl) (pe_call G__law_lacking (hr.mono (by decide)) rfl m__law_lacking k__law_lacking b__law_lacking Paired.nil pass0 (pcx (pv 0) (pcx (pv 4) (pcx (pv 2) pnx)))))
   (pqc (ps_if (pt_cmpR (op_neO hr) (pe_call G__law_refused (hr.mono (by decide)) rfl m__law_refused k__law_refused b__law_refused Paired.nil pass0 (pcx (pv 5) (pcx (pv 2) (pcx (pv 3) (pcx pe_bl pnx))))) (pv 6) (nomark _)) (pqo (ps_ret pe_bl)) pss_nil)
   (pqc (ps_if (pt_val (pe_call G__law_open (hr.mono (by decide)) rfl m__law_open k__law_open b__law_open Paired.nil pass0 (pcx (pv 0) pnx))) (pqo (ps_set (i := 6) nd rfl (Or.inl rfl) (pe_tup (pcx pe_str (pcx pe_bl pnx))))) pss_nil)
   (pqc (ps_if (pt_cmpR (op_neO hr) (pe_call G__law_refused (hr.mono (by decide)) rfl m__law_refused k__law_refused b__law_refused Paired.nil pass0 (pcx (pv 5) (pcx (pv 2) (pcx (pv 3) (pcx pe_bl pnx))))) (pv 6) (nomark _)) (pqo (ps_ret pe_bl)) pss_nil)
   (pqc (ps_if (pt_cmpR (op_neD hr) (pv 5) (pv 0) (nomark _)) (pqo (ps_ret pe_bl)) pss_nil)
   (pqo (ps_ret (pe_cmpR (op_eqO hr) (pe_call G__law_refused (hr.mono (by decide)) rfl m__law_refused k__law_refused b__law_refused Paired.nil pass0 (pcx (pe_callTy call_list_of rfl z_list bt_list (pcx (pv 1) pnx)) (pcx (pv 2) (pcx (pv 3) (pcx pe_bl pnx))))) (pe_call G__law_lacking (hr.mono (by decide)) rfl m__law_lacking k__law_lacking b__law_lacking Paired.nil pass0 (pcx (pv 1) (pcx (pv 4) (pcx (pv 2) pnx)))) (nomark _)))))))))), ?_⟩
 refine ⟨_, rfl, sl, _, rfl, .inl (SqL.of SL.h), fun hd hhd => ?_⟩
 have g1 := squ (o := .lst (rfs L)) hhd
 have hd1 : upd H hd (.lst (rfs L)) hd = some (.lst (rfs L)) := uqs
 generalize upd H hd (.lst (rfs L)) = H1 at g1 hd1 ⊢
 have S1 : Sds H1 hd L := ⟨hd1, SL.r.same g1, SL.n, SL.f, SL.a⟩
 refine ⟨_, rfl, _, rfl, _, rfl, sl, kl, dy, lk, g, L, rfl, g1 _ _ SL.h, SL.r.same g1, g1 _ _ hkl, hgL, fun v1 H2 e2 d1 => ?_⟩
 have S2 := S1.same e2
 have R2 := R.same (g1.trans e2)
 refine ⟨_, rfl, _, rfl, _, rfl, hd, rp, d, false, dy, t, kvs, g, X, Y, L, rfl, S2.h, S2.r, S2.n, S2.f, R2, S2.a, fun v2 H3 e3 d2 => ?_⟩
 rw [refd_n (.inl rfl)] at d2
 refine ⟨_, rfl, d2.eqO (d1.same e3) pl_lk, _, rfl, iteF ?_⟩
 have g3 := (g1.trans e2).trans e3
 apply join2 (fun (v : V) (H4 : Hp) => Same H3 H4 ∧ Due H4 v (refd true g dy L))
 · intro k
   refine ⟨_, rfl, sl, L, rfl, g3 _ _ SL.h, SL.r.same g3, SL.n, (fun hb H4 e4 => ⟨false, rfl, iteF ?a⟩), fun hb H4 e4 => ⟨true, rfl, iteT ?b⟩⟩
   case a =>
     obtain ⟨v, e⟩ : ∃ v, v = v1 := ⟨_, rfl⟩
     rw [← e]
     exact k v H4 ⟨e4, by rw [refd_n (.inr hb), e]; exact (d1.same e3).same e4⟩
   case b =>
     refine ⟨(by show 2 ≤ sizeLine; decide), fun t1 ht1 => ?_⟩
     refine k (.ref t1) _ ⟨e4.trans (squ ht1), .inr ⟨otT, t1, ?_, rfl, uqs⟩⟩
     cases hbd : bad L with
     | none => exact absurd hbd hb
     | some cr => exact refd_u (c := cr.1) (r := cr.2) hbd
 rintro v4 H4 ⟨e4, d4⟩
 have g4 := g3.trans e4
 have S4 := (S2.same e3).same e4
 refine ⟨_, rfl, _, rfl, _, rfl, hd, rp, d, true, dy, t, kvs, g, X, Y, L, rfl, S4.h, S4.r, S4.n, S4.f, R.same g4, S4.a, fun v5 H5 e5 d5 => ?_⟩
 refine ⟨_, rfl, d5.eqO (d4.same e5) pl_rf, _, rfl, iteF ?_⟩
 have g5 := g4.trans e5
 refine ⟨_, rfl, _, rfl, hd, sl, _, _, rfl, rfl, SqL.of (S4.same e5).h, SqL.of (g5 _ _ SL.h), EqLs.refl (rfs_pl _), _, rfl, iteF ?_⟩
 have SB5 := SB.same g5
 refine ⟨_, rfl, bl, _, rfl, .inl (SqL.of SB5.h), fun cb hcb => ?_⟩
 have g6 := squ (o := .lst (rfs B)) hcb
 have S6 : Sds (upd H5 cb (.lst (rfs B))) cb B := ⟨uqs, SB5.r.same g6, SB.n, SB.f, SB.a⟩
 refine ⟨_, rfl, _, rfl, cb, rp, d, true, dy, t, kvs, g, X, Y, B, rfl, S6.h, S6.r, S6.n, S6.f, R.same (g5.trans g6), S6.a, fun v7 H7 e7 d7 => ?_⟩
 have g7 := (g5.trans g6).trans e7
 rw [refd_n (.inr hbb)] at d7
 refine ⟨_, rfl, _, rfl, _, rfl, bl, kl, dy, lk, g, B, rfl, (SB.same g7).h, (SB.same g7).r, g7 _ _ hkl, hgB, fun v8 H8 e8 d8 => ?_⟩
 exact ⟨(d7.same e8).eqO d8 pl_lk, q _ (g7.trans e8)⟩
def spLks : Sp := fun vs H Q _ => ∃ (c : Int) (cl : Addr) (t : Str) (cs : List Str), vs = [.int c, .ref cl, .str t] ∧ H cl = some (.lst (cs.map V.str)) ∧ 3 ≤ cs.length ∧ cs.Nodup ∧ ∀ (l : Addr) (lk : List Str) H', Same H H' → H' l = some (.lst (lk.map V.str)) → lk.Nodup → (∀ x ∈ lk, x ∈ cs ∧ x ≠ t) → lk.length ≤ 3 → Q (.ref l) H'
theorem sc__law_lacks : FnScope ["_law_cell", "_law_coins_here", "_law_told_here", "_law_lacks_here", "_law_k", "_law_bit"] ["_law_cell", "_law_coins_here", "_law_told_here"] (defScope s__law_lacks) := ⟨rfl, rfl, rfl, by decide +kernel, rfl, by decide +kernel, by decide +kernel⟩
theorem ok__law_lacks (D : Def K mg "_law_lacks" s__law_lacks .none) (z_range : mg "range" = none) : Cal P w K mg base CX0 true 1 "_law_lacks" ["_law_cell", "_law_coins_here", "_law_told_here"] [] spLks := by
 obtain ⟨f, fd, F, hm⟩ := D
 refine ⟨f, fd, _, F.ok sc__law_lacks (fun vs H Q E h => ?_) (fun cdv A outer s H vs Q E hr h => ?_), hm, F.kp, (F.binds fun _ _ _ _ _ _ us hl => match us, hl with | [_, _, _], _ => rfl), .nil, F.binds fun _ _ _ _ _ _ us hl => match us, hl with | [_, _, _], _ => rfl⟩
 · obtain ⟨c, cl, t, cs, rfl, hcl, h3, hnd, q⟩ := h
   rfl
 obtain ⟨c, cl, t, cs, rfl, hcl, h3, hnd, q⟩ := h
 have nd := sc__law_lacks.nd
 refine ⟨_, (pqc (ps_set (i := 3) nd rfl (Or.inl rfl) (pe_lst pnx))
   (pqc (ps_for PassesOwn.never rfl (pi_range1 rfl z_range (pcx pqi pnx)) (pg_name (i := 4) nd rfl (Or.inl rfl)) (pqc (ps_set (i := 5) nd rfl (Or.inl rfl) (pe_op op_mod (pe_op op_fdivB (pv 0) (pe_ix ix_seq (pe_lst (pcx pqi (pcx pqi (pcx pqi pnx)))) (pv 4) (fun _ _ => rfl))) pqi))
   (pqo (ps_if (PW.pt (pw_and (pt_cmpR op_eq (pe_op op_mod (pv 0) pqi) pqi (nomark _)) (pw_and (pt_cmpR op_eq (pv 5) pqi (nomark _)) (pw_and1 (pt_cmpR op_ne (pe_ix ix_seq (pv 1) (pv 4) (fun _ _ => rfl)) (pv 2) (nomark _)))))) (pqo (ps_expr (pe_bm PySem.F.plainAttrs_list PySem.F.slot_list_append PySem.F.type_list_append mt_append (pv 3) (pcx (pe_ix ix_seq (pv 1) (pv 4) (fun _ _ => rfl)) pnx)))) pss_nil))))
   (pqo (ps_ret (pv 3))))), ?_⟩
 have hline : 600 ≤ sizeLine := by decide
 refine ⟨(by show 0 ≤ sizeLine; decide), fun p hp => ?_⟩
 have e1 := squ (o := .lst []) hp
 refine ⟨_, rfl, by decide, by decide, ?_⟩
 refine for_range (fun i σ H' => ∃ (o4 o5 : Option V) (lk : List Str), σ = [some (.int c), some (.ref cl), some (.str t), some (.ref p), o4, o5] ∧ Same H H' ∧ H' p = some (.lst (lk.map V.str)) ∧ lk.Nodup ∧ lk.length ≤ i ∧ ∀ x ∈ lk, x ∈ cs.take i ∧ x ≠ t) ⟨_, _, [], rfl, e1, uqs, List.nodup_nil, Nat.le_refl _, fun x hx => nomatch hx⟩ ?_ ?_
 · rintro i σ H1 hi ⟨o4, o5, lk, rfl, e, hpp, hn, hll, hx⟩
   have hi3 : i < 3 := hi
   have hil : i < cs.length := by omega
   obtain ⟨v, hv, w⟩ := three3 2 4 8 hi3
   have hck : atI (cs.map V.str) (0 + (i : Int)) = some (.str (cs.getD i "")) := by
     rw [show (0 + (i : Int)) = ((i : Nat) : Int) by omega]
     exact str_at hil
   have hcz : cs[i]? = some (cs.getD i "") := by rw [List.getD, List.getElem?_eq_getElem hil]; rfl
   refine ⟨_, rfl, (by show 3 ≤ sizeLine; decide), fun q1 hq1 => ⟨_, rfl, .inl ⟨q1, _, _, _, rfl, rfl, SqL.of uqs, hv, _, _, rfl, rfl, log_of (by omega) (by omega) (by omega), _, _, rfl, rfl, (by show (0 : Int) < 2; decide), ?_⟩⟩⟩
   have f1 := squ (o := .lst [.int 2, .int 4, .int 8]) hq1
   have hp1 := f1 _ _ hpp
   have keep : ∀ x ∈ lk, x ∈ cs.take (i + 1) ∧ x ≠ t := fun x m => ⟨by rw [take_nx hcz]; exact List.mem_append_left _ (hx x m).1, (hx x m).2⟩
   refine ⟨_, rfl, _, _, rfl, rfl, (by show (0 : Int) < 2; decide), rfl, _, rfl, ?_⟩
   refine dec2 (fun h1 => ?_) (fun h1 => iteF ⟨_, _, lk, rfl, e.trans f1, hp1, hn, by omega, keep⟩)
   refine ⟨_, rfl, rfl, _, rfl, ?_⟩
   refine dec2 (fun h2 => ?_) (fun h2 => iteF ⟨_, _, lk, rfl, e.trans f1, hp1, hn, by omega, keep⟩)
   refine ⟨_, rfl, _, rfl, .inl ⟨cl, _, _, _, rfl, rfl, SqL.of (f1 _ _ (e _ _ hcl)), hck, _, rfl, rfl, _, rfl, ?_⟩⟩
   refine ndec2 (fun h4 => ?_) (fun h4 => ⟨_, _, lk, rfl, e.trans f1, hp1, hn, by omega, keep⟩)
   refine ⟨_, rfl, .inl ⟨rfl, _, SqL.of hp1⟩, _, rfl, _, rfl, .inl ⟨cl, _, _, _, rfl, rfl, SqL.of (f1 _ _ (e _ _ hcl)), hck, p, _, _, rfl, rfl, hp1, (by rw [List.length_map]; omega), ?_⟩⟩
   refine ⟨_, _, lk ++ [cs.getD i ""], rfl, same_set (e.trans f1) hp, (by rw [uqs, List.map_append]; rfl), ?_, (by rw [List.length_append]; show lk.length + 1 ≤ _; omega), fun x m => ?_⟩
   · refine List.nodup_append.mpr ⟨hn, by simp, fun a ha b hb z => ?_⟩
     rw [List.mem_singleton.mp hb] at z
     exact nd_takeS hnd hcz (by rw [← z]; exact (hx a ha).1)
   · rcases List.mem_append.mp m with w2 | w2
     · exact keep x w2
     · rw [List.mem_singleton.mp w2]
       exact ⟨by rw [take_nx hcz]; exact List.mem_append_right _ (List.mem_singleton.mpr rfl), fun z => h4 (congrArg V.str z)⟩
 rintro σ H1 ⟨o4, o5, lk, rfl, e, hpp, hn, hll, hx⟩
 exact ⟨_, rfl, q p lk _ e hpp hn (fun x m => ⟨List.mem_of_mem_take (hx x m).1, (hx x m).2⟩) hll⟩
def Kd2 (H H' : Hp) : Prop := ∀ b o, H b = some o → (∀ v, o ≠ .dT v) → H' b = some o
theorem Kd2.of {H H' : Hp} (e : Same H H') : Kd2 H H' := fun b o h _ => e b o h
theorem Kd2.trans {H H1 H2 : Hp} (e : Kd2 H H1) (f : Kd2 H1 H2) : Kd2 H H2 := fun b o h x => f b o (e b o h x) x
theorem Kd2.lst {H H' : Hp} (e : Kd2 H H') {b : Addr} {xs : List V} (h : H b = some (.lst xs)) : H' b = some (.lst xs) := e _ _ h fun v z => by cases z
theorem Kd2.tup {H H' : Hp} (e : Kd2 H H') {b : Addr} {xs : List V} (h : H b = some (.tup xs)) : H' b = some (.tup xs) := e _ _ h fun v z => by cases z
theorem Kd2.dk {H H' : Hp} (e : Kd2 H H') {b : Addr} {xs : List (Key × V)} (h : H b = some (.dK xs)) : H' b = some (.dK xs) := e _ _ h fun v z => by cases z
theorem Kd2.seq {K : PySem.W.Frag} {H H' : Hp} (e : Kd2 H H') {a : Addr} {xs : List V} (h : SqL K H a xs) : SqL K H' a xs := by
 rcases h with (h | ⟨o, h⟩) | h
 · exact .inl (.inl (e.lst h))
 · exact .inl (.inr ⟨o, e _ _ h fun v z => by cases z⟩)
 · exact .inr h
theorem val_app (A : List (List Key × V)) (k k' : List Key) (v : V) : valV (A ++ [(k, v)]) k' = (valV A k').or (if k = k' then some v else none) := by
 unfold valV
 rw [List.find?_append]
 cases A.find? (fun kv => decide (kv.1 = k')) with
 | some a => rfl
 | none =>
   by_cases h : k = k'
   · rw [if_pos h]
     simp [List.find?_cons, h]
   · rw [if_neg h]
     simp [List.find?_cons, h]
theorem days_app2 (c c' : Str) (dy m : Int) (kvs : List (List Key × V)) (v : V) : daysOf c dy (kvs ++ [([Sum.inr c', Sum.inl m], v)]) = daysOf c dy kvs ++ (if c' = c ∧ m ≤ dy then [m] else []) := by
 unfold daysOf
 rw [List.map_append, List.filter_append, List.map_append]
 congr 1
 show List.map gI (List.filter (fK c dy) [[Sum.inr c', Sum.inl m]]) = _
 have e : fK c dy [Sum.inr c', Sum.inl m] = (decide (c' = c) && decide (m ≤ dy)) := by
   show (decide (V.str c' = V.str c) && _) = _
   congr 1
   by_cases h : c' = c
   · rw [decide_eq_true h, decide_eq_true (congrArg V.str h)]
   · rw [decide_eq_false h, decide_eq_false (fun e => h (V.str.inj e))]
 rw [List.filter_cons, e, List.filter_nil]
 by_cases h : c' = c ∧ m ≤ dy
 · rw [if_pos h, decide_eq_true h.1, decide_eq_true h.2]
   rfl
 · rw [if_neg h, if_neg]
   · rfl
   · intro e
     rw [Bool.and_eq_true, decide_eq_true_eq, decide_eq_true_eq] at e
     exact h e
theorem val_days {c : Str} {dy m : Int} {kvs : List (List Key × V)} (h : daysOf c dy kvs = []) (hm : m ≤ dy) : valV kvs [Sum.inr c, Sum.inl m] = none := by
 cases hv : valV kvs [Sum.inr c, Sum.inl m] with
 | none => rfl
 | some v =>
   exfalso
   unfold valV at hv
   cases hf : kvs.find? (fun kv => decide (kv.1 = [Sum.inr c, Sum.inl m])) with
   | none => rw [hf] at hv; cases hv
   | some kv =>
     have h1 : kv.1 = [Sum.inr c, Sum.inl m] := by simpa using List.find?_some hf
     have h2 := List.mem_of_find?_eq_some hf
     have : m ∈ daysOf c dy kvs := by
       unfold daysOf
       refine List.mem_map.mpr ⟨kv.1, List.mem_filter.mpr ⟨List.mem_map.mpr ⟨kv, h2, rfl⟩, ?_⟩, by rw [h1]; rfl⟩
       rw [h1]
       show (decide (V.str c = V.str c) && decide (m ≤ dy)) = true
       rw [decide_eq_true rfl, decide_eq_true hm]
       rfl
     rw [h] at this
     cases this
structure Rp (K : PySem.W.Frag) (C : Addr) (H : Hp) (rp d : Addr) (t : Str) (kvs : List (List Key × V)) (dy : Int) (S U : List Str) (A : Str → Addr) (X Y x y : Str → Int) : Prop where
 ra : RatesAt K C H rp d t kvs
 yes : ∀ c ∈ S, c ≠ t ∧ ∃ F, daysOf c dy kvs = [F] ∧ valV kvs [Sum.inr c, Sum.inl F] = some (.ref (A c)) ∧ H (A c) = some (.tup [.int (X c), .int (Y c)])
 no : ∀ c, c ∉ S → daysOf c dy kvs = []
 un : ∀ c, c ∉ U → ∀ m, valV kvs [Sum.inr c, Sum.inl m] = none
 rt : ∀ c ∈ S, X c * y c = x c * Y c
 bx : ∀ c, (X c).natAbs ≤ 2 ^ 200
 b1 : ∀ c, 1 ≤ Y c
 b2 : ∀ c, Y c ≤ 2 ^ 200
 tx : X t = 1
 ty : Y t = 1
theorem Rp.far {K : PySem.W.Frag} {C : Addr} {H H' : Hp} {rp d r : Addr} {t c : Str} {kvs : List (List Key × V)} {dy : Int} {S U : List Str} {A : Str → Addr} {X Y x y : Str → Int} (R : Rp K C H rp d t kvs dy S U A X Y x y) (hc : c ∉ U)
   (ra : RatesAt K C H' rp d t (kvs ++ [([Sum.inr c, Sum.inl (dy + 1)], .ref r)])) (k : Kd2 H H') : Rp K C H' rp d t (kvs ++ [([Sum.inr c, Sum.inl (dy + 1)], .ref r)]) dy S (c :: U) A X Y x y := by
 have dd : ∀ e, daysOf e dy (kvs ++ [([Sum.inr c, Sum.inl (dy + 1)], V.ref r)]) = daysOf e dy kvs := fun e => by
   rw [days_app2, if_neg (fun z => by omega), List.append_nil]
 refine ⟨ra, fun e he => ?_, fun e he => by rw [dd]; exact R.no e he, fun e he m => ?_, R.rt, R.bx, R.b1, R.b2, R.tx, R.ty⟩
 · obtain ⟨h1, F, h2, h3, h4⟩ := R.yes e he
   exact ⟨h1, F, by rw [dd]; exact h2, by rw [val_app, h3]; rfl, k.tup h4⟩
 · have h1 : e ≠ c := fun z => he (by rw [z]; exact List.mem_cons_self)
   rw [val_app, R.un e (fun z => he (List.mem_cons_of_mem _ z)) m]
   show (if _ then _ else _) = none
   rw [if_neg (by intro z; simp at z; exact h1 z.1.symm)]
theorem Rp.near {K : PySem.W.Frag} {C : Addr} {H H' : Hp} {rp d r : Addr} {t c : Str} {kvs : List (List Key × V)} {dy m u v : Int} {S U : List Str} {A : Str → Addr} {X Y x y : Str → Int} (R : Rp K C H rp d t kvs dy S U A X Y x y) (hc : c ∉ S) (hu : c ∈ U) (hct : c ≠ t) (hm : m ≤ dy)
   (ra : RatesAt K C H' rp d t (kvs ++ [([Sum.inr c, Sum.inl m], .ref r)])) (k : Kd2 H H') (hr : H' r = some (.tup [.int u, .int v])) (hx : u * y c = x c * v) (h1 : u.natAbs ≤ 2 ^ 200) (h2 : 1 ≤ v) (h3 : v ≤ 2 ^ 200) :
   Rp K C H' rp d t (kvs ++ [([Sum.inr c, Sum.inl m], .ref r)]) dy (c :: S) U (fun e => if e = c then r else A e) (fun e => if e = c then u else X e) (fun e => if e = c then v else Y e) x y := by
 refine ⟨ra, fun e he => ?_, fun e he => ?_, fun e he m' => ?_, fun e he => ?_, fun e => ?_, fun e => ?_, fun e => ?_, ?_, ?_⟩
 · by_cases z : e = c
   · subst z
     refine ⟨hct, m, ?_, ?_, ?_⟩
     · rw [days_app2, R.no e hc, if_pos ⟨rfl, hm⟩]
       rfl
     · rw [val_app, val_days (R.no e hc) hm]
       show (if _ then _ else _) = _
       rw [if_pos rfl]
       simp
     · simp only [if_pos]
       exact hr
   · have hs : e ∈ S := (List.mem_cons.mp he).elim (fun w => absurd w z) id
     obtain ⟨g1, F, g2, g3, g4⟩ := R.yes e hs
     refine ⟨g1, F, ?_, ?_, ?_⟩
     · rw [days_app2, if_neg (fun w => z w.1.symm), List.append_nil]
       exact g2
     · rw [val_app, g3]
       simp [z]
     · simp only [if_neg z]
       exact k.tup g4
 · have z : e ≠ c := fun w => he (by rw [w]; exact List.mem_cons_self)
   rw [days_app2, R.no e (fun w => he (List.mem_cons_of_mem _ w)), if_neg (fun w => z w.1.symm)]
   rfl
 · have z : e ≠ c := fun w => he (by rw [w]; exact hu)
   rw [val_app, R.un e he m']
   show (if _ then _ else _) = none
   rw [if_neg (by intro w; simp at w; exact z w.1.symm)]
 · by_cases z : e = c
   · subst z
     simp only [if_pos]
     exact hx
   · simp only [if_neg z]
     exact R.rt e ((List.mem_cons.mp he).elim (fun w => absurd w z) id)
 · by_cases z : e = c
   · simp only [if_pos z]
     exact h1
   · simp only [if_neg z]
     exact R.bx e
 · by_cases z : e = c
   · simp only [if_pos z]
     exact h2
   · simp only [if_neg z]
     exact R.b1 e
 · by_cases z : e = c
   · simp only [if_pos z]
     exact h3
   · simp only [if_neg z]
     exact R.b2 e
 · simp only [if_neg (Ne.symm hct)]
   exact R.tx
 · simp only [if_neg (Ne.symm hct)]
   exact R.ty
def gS (t : Str) (S : List Str) (c : Str) : Bool := decide (c = t ∨ c ∈ S)
theorem Rp.rtg {K : PySem.W.Frag} {C : Addr} {H : Hp} {rp d : Addr} {t : Str} {kvs : List (List Key × V)} {dy : Int} {S U : List Str} {A : Str → Addr} {X Y x y : Str → Int} (R : Rp K C H rp d t kvs dy S U A X Y x y) : RtG K C H rp d t kvs dy (gS t S) X Y := by
 refine ⟨R.ra, fun c hc ht => ?_, fun c hc => ?_, R.bx, R.b1, R.b2, R.tx, R.ty⟩
 · have hs : c ∈ S := (of_decide_eq_true hc).elim (fun w => absurd w ht) id
   obtain ⟨_, F, g2, g3, g4⟩ := R.yes c hs
   rw [g2]
   refine ⟨by simp, fun m hm => ?_⟩
   rw [List.mem_singleton.mp hm]
   exact ⟨A c, g3, g4⟩
 · have h := of_decide_eq_false hc
   exact ⟨fun w => h (.inl w), R.no c fun w => h (.inr w)⟩
theorem Rp.same {K : PySem.W.Frag} {C : Addr} {H H' : Hp} {rp d : Addr} {t : Str} {kvs : List (List Key × V)} {dy : Int} {S U : List Str} {A : Str → Addr} {X Y x y : Str → Int} (R : Rp K C H rp d t kvs dy S U A X Y x y) (e : Same H H') : Rp K C H' rp d t kvs dy S U A X Y x y := by
 obtain ⟨⟨⟨dx, gs, a, b⟩, c, ln, ks⟩, r2, r3, r4, r5, r6, r7, r8, r9, r10⟩ := R
 refine ⟨⟨⟨dx, gs, e _ _ a, b⟩, e _ _ c, ln, ks⟩, fun c hc => ?_, r3, r4, r5, r6, r7, r8, r9, r10⟩
 obtain ⟨g1, F, g2, g3, g4⟩ := r2 c hc
 exact ⟨g1, F, g2, g3, e _ _ g4⟩
theorem Tb.kd {H H' : Hp} {d : Addr} {cs : List Str} {x y : Str → Int} (h : Tb H d cs x y) (e : Kd2 H H') : Tb H' d cs x y := by
 obtain ⟨kvs, A, h1, h2⟩ := h
 exact ⟨kvs, A, e.dk h1, fun c hc => ⟨(h2 c hc).1, e.tup (h2 c hc).2.1, (h2 c hc).2.2⟩⟩
def spTl (K : PySem.W.Frag) (C : Addr) : Sp := fun vs H Q _ => ∃ (rp d cl td kl : Addr) (t : Str) (dy bk : Int) (cs lk : List Str) (x y : Str → Int), vs = [.ref rp, .ref cl, .str t, .ref td, .ref kl, .int dy, .int bk] ∧ RatesAt K C H rp d t [] ∧ H cl = some (.lst (cs.map V.str)) ∧ cs.length ≤ 4 ∧ cs.Nodup ∧ Tb H td cs x y ∧ H kl = some (.lst (lk.map V.str)) ∧ 0 ≤ dy ∧ 0 ≤ bk ∧
 ∀ (kvs : List (List Key × V)) (S U : List Str) (A : Str → Addr) (X Y : Str → Int) H', Kd2 H H' → Rp K C H' rp d t kvs dy S U A X Y x y → (∀ c, c ∈ S ↔ c ∈ cs ∧ c ≠ t ∧ c ∉ lk) → (∀ c ∈ cs, c ≠ t → c ∈ U) → kvs.length ≤ 8 → Q .non H'
theorem kd_tell {K : PySem.W.Frag} {C : Addr} {H H' : Hp} {rp d : Addr} {t : Str} {kvs : List (List Key × V)} (R : RatesAt K C H rp d t kvs) (k7 : ∀ b o, H b = some o → b ≠ d → H' b = some o) : Kd2 H H' := fun b o hb hn => k7 b o hb fun z => hn _ (by rw [z, R.dc] at hb; exact (Option.some.inj hb).symm)
theorem max0 (i : Int) : (if i > 0 then i else 0) = i ∨ (if i > 0 then i else 0) = 0 := by split <;> simp
theorem sc__law_tell : FnScope ["_law_rates_here", "_law_coins_here", "_law_told_here", "_law_table_here", "_law_lacks_here", "_law_day", "_law_back", "_law_coin"] ["_law_rates_here", "_law_coins_here", "_law_told_here", "_law_table_here", "_law_lacks_here", "_law_day", "_law_back"] (defScope s__law_tell) := ⟨rfl, rfl, rfl, by decide +kernel, rfl, by decide +kernel, by decide +kernel⟩
theorem ok__law_tell (D : Def K mg "_law_tell" s__law_tell .none) {C_Rates : Addr} (c_Rates_tell : CalM P w K mg base CX0 true 3 C_Rates "tell" ["self", "coin", "day", "top", "bottom"] [.int 1] (spTell K C_Rates)) (z_max : mg "max" = none) (cl_Rates : Cls K C_Rates) : Cal P w K mg base CX0 true 4 "_law_tell" ["_law_rates_here", "_law_coins_here", "_law_told_here", "_law_table_here", "_law_lacks_here", "_law_day", "_law_back"] [] (spTl K C_Rates) := by
 obtain ⟨f, fd, F, hm⟩ := D
 obtain ⟨f_Rates_tell, fd_Rates_tell, d_Rates_tell, G_Rates_tell, m_Rates_tell, b_Rates_tell, v_Rates_tell, b_Rates_tell1⟩ := c_Rates_tell
 refine ⟨f, fd, _, F.ok sc__law_tell (fun vs H Q E h => ?_) (fun cdv A outer s H vs Q E hr h => ?_), hm, F.kp, (F.binds fun _ _ _ _ _ _ us hl => match us, hl with | [_, _, _, _, _, _, _], _ => rfl), .nil, F.binds fun _ _ _ _ _ _ us hl => match us, hl with | [_, _, _, _, _, _, _], _ => rfl⟩
 · obtain ⟨rp, d, cl, td, kl, t, dy, bk, cs, lk, x, y, rfl, R0, hcl, hc4, hnd, hTb, hkl, hdy, hbk, q⟩ := h
   rfl
 obtain ⟨rp, d, cl, td, kl, t, dy, bk, cs, lk, x, y, rfl, R0, hcl, hc4, hnd, hTb, hkl, hdy, hbk, q⟩ := h
 have nd := sc__law_tell.nd
 refine ⟨_, (pqo (ps_for PassesOwn.never rfl (pi_list (pv 1)) (pg_name (i := 7) nd rfl (Or.inl rfl)) (pqo (ps_if (pt_cmpR op_ne (pv 7) (pv 2) (nomark _)) (pqc (ps_expr (pe_meth (pv 0) cl_Rates m_Rates_tell G_Rates_tell (hr.mono (by decide)) b_Rates_tell Paired.nil pass0 (pcx (pv 7) (pcx (pe_op op_add (pv 5) pqi) (pcx pqi (pcx pqi pnx))))))
   (pqo (ps_if (pt_cmpR op_notIn_seq (pv 7) (pv 4) (by with_unfolding_all rfl)) (pqo (ps_expr (pe_meth (pv 0) cl_Rates m_Rates_tell G_Rates_tell (hr.mono (by decide)) b_Rates_tell Paired.nil pass0 (pcx (pv 7) (pcx (pe_callB (call_max2 rfl) rfl z_max bt_max (pcx pqi (pcx (pe_op op_sub (pv 5) (pv 6)) pnx))) (pcx (pe_ix ix_seq (pe_dget (hu_of hr) (pv 3) (pv 7) (fun _ _ => rfl)) pqi (fun _ _ => rfl)) (pcx (pe_ix ix_seq (pe_dget (hu_of hr) (pv 3) (pv 7) (fun _ _ => rfl)) pqi (fun _ _ => rfl)) pnx))))))) pss_nil))) pss_nil)))), ?_⟩
 refine ⟨_, rfl, cl, rfl, ⟨_, SqL.of hcl⟩, ?_⟩
 refine for_list (xs := cs.map V.str) (fun i σ H' => ∃ (o7 : Option V) (kvs : List (List Key × V)) (S U : List Str) (A : Str → Addr) (X Y : Str → Int), σ = [some (.ref rp), some (.ref cl), some (.str t), some (.ref td), some (.ref kl), some (.int dy), some (.int bk), o7] ∧ Kd2 H H' ∧ Rp K C_Rates H' rp d t kvs dy S U A X Y x y ∧ (∀ c, c ∈ S ↔ c ∈ cs.take i ∧ c ≠ t ∧ c ∉ lk) ∧ (∀ c, c ∈ U ↔ c ∈ cs.take i ∧ c ≠ t) ∧ kvs.length ≤ 2 * i) ⟨_, [], [], [], fun _ => rp, fun _ => 1, fun _ => 1, rfl, Kd2.of (Same.refl _), ⟨R0, (fun c hc => nomatch hc), (fun c _ => rfl), (fun c _ m => rfl), (fun c hc => nomatch hc), (fun _ => by show (1 : Int).natAbs ≤ 2 ^ 200; decide), (fun _ => by show (1 : Int) ≤ 1; decide), (fun _ => by show (1 : Int) ≤ 2 ^ 200; decide), rfl, rfl⟩, (fun c => by simp), (fun c => by simp), Nat.le_refl _⟩ ?_ ?_ ?_
 · rintro i σ H1 hi ⟨o7, kvs, S, U, A, X, Y, rfl, k, _⟩
   exact SqL.of (k.lst hcl)
 · rintro i x' σ H1 hx ⟨o7, kvs, S, U, A, X, Y, rfl, k, R, hS, hU, hlk⟩
   obtain ⟨c, hci, rfl⟩ := strs_at hx
   have hil : i < cs.length := (List.getElem?_eq_some_iff.mp hci).1
   have hcm := List.mem_of_getElem? hci
   have hnt := nd_takeS hnd hci
   have tk := take_nx hci
   refine ⟨_, rfl, _, rfl, rfl, _, rfl, ?_⟩
   refine ndec2 (fun h => ?_) (fun h => ?_)
   · have hct : c ≠ t := fun z => h (congrArg V.str z)
     have hcU : c ∉ U := fun z => hnt ((hU c).mp z).1
     have hcS : c ∉ S := fun z => hnt ((hS c).mp z).1
     obtain ⟨dx, gs, hpr, htl, hkn, hno⟩ := R.ra.ob
     refine ⟨_, rfl, rp, dx, gs, rfl, hpr, hno "tell" (by decide +kernel), _, rfl, _, rfl, _, _, rfl, rfl, ?_⟩
     refine ⟨rp, d, t, c, dy + 1, 7, 3, kvs, rfl, R.ra, by decide, by decide, by decide, hct, R.un c hcU _, by omega, fun r5 H2 hr2 R2 k2 => ?_⟩
     have kd2 := kd_tell R.ra k2
     have R2' := R.far hcU R2 kd2
     have k02 := k.trans kd2
     have hkl2 := k02.lst hkl
     refine ⟨_, rfl, _, rfl, kl, _, rfl, .inl (SqL.of hkl2), rfl, flat_strs _, _, rfl, ?_⟩
     rw [inV_strs]
     show if (!decide (c ∈ lk)) = true then _ else _
     have hU2 : ∀ e, e ∈ c :: U ↔ e ∈ cs.take (i + 1) ∧ e ≠ t := fun e => by
       rw [List.mem_cons, tk, List.mem_append, List.mem_singleton, hU e]
       constructor
       · rintro (rfl | w)
         · exact ⟨.inr rfl, hct⟩
         · exact ⟨.inl w.1, w.2⟩
       · rintro ⟨w | w, w2⟩
         · exact .inr ⟨w, w2⟩
         · exact .inl w
     have ln2 : (kvs ++ [([Sum.inr c, Sum.inl (dy + 1)], V.ref r5)]).length ≤ 2 * i + 1 := by
       rw [List.length_append]
       show kvs.length + 1 ≤ _
       omega
     generalize kvs ++ [([Sum.inr c, Sum.inl (dy + 1)], V.ref r5)] = kv2 at R2' ln2
     refine ndec2 (fun hlc => ?_) (fun hlc => ?_)
     · obtain ⟨tkv, TA, htd, hTc⟩ := hTb.kd k02
       obtain ⟨v1, v2, x1, x2, y1, y2⟩ := hTc c hcm
       have g := DGet.k (k := Sum.inr c) htd
       rw [v1] at g
       have hTr := SqT.of (K := K) v2
       obtain ⟨dx2, gs2, hpr2, htl2, hkn2, hno2⟩ := R2'.ra.ob
       have hmx := max0 (dy - bk)
       refine ⟨_, rfl, rp, dx2, gs2, rfl, hpr2, hno2 "tell" (by decide +kernel), _, rfl, _, rfl, _, rfl, _, _, rfl, rfl, 0, dy - bk, rfl, _, rfl, _, rfl, td, _, rfl, g, .inr (.inl ⟨TA c, _, 0, _, rfl, rfl, hTr, rfl, _, rfl, _, rfl, td, _, rfl, g, .inr (.inl ⟨TA c, _, 1, _, rfl, rfl, hTr, rfl, ?_⟩)⟩)⟩
       refine ⟨rp, d, t, c, _, x c, y c, kv2, rfl, R2'.ra, x1, y1, by omega, hct, val_days (R2'.no c hcS) (by omega), by omega, fun r6 H3 hr3 R3 k3 => ?_⟩
       have kd3 := kd_tell R2'.ra k3
       have lw := N11.lowD (t := x c) (b := y c) (by omega)
       refine ⟨_, _, c :: S, c :: U, _, _, _, rfl, k02.trans kd3, R2'.near hcS List.mem_cons_self hct (by omega) R3 kd3 hr3 lw.2.2.2.2 (by have := lw.2.2.1; omega) lw.1 (by have := lw.2.1; omega), fun e => ?_, hU2, ?_⟩
       · rw [List.mem_cons, tk, List.mem_append, List.mem_singleton, hS e]
         constructor
         · rintro (rfl | w)
           · exact ⟨.inr rfl, hct, hlc⟩
           · exact ⟨.inl w.1, w.2⟩
         · rintro ⟨w | w, w2⟩
           · exact .inr ⟨w, w2⟩
           · exact .inl w
       · rw [List.length_append]
         show kv2.length + 1 ≤ _
         omega
     · refine ⟨_, kv2, S, c :: U, A, X, Y, rfl, k02, R2', fun e => ?_, hU2, by omega⟩
       rw [tk, List.mem_append, List.mem_singleton, hS e]
       constructor
       · exact fun w => ⟨.inl w.1, w.2⟩
       · rintro ⟨w | w, w2⟩
         · exact ⟨w, w2⟩
         · exact absurd (by rw [w]; exact hlc) w2.2
   · have hct : c = t := V.str.inj h
     refine ⟨_, kvs, S, U, A, X, Y, rfl, k, R, (fun e => ?_), (fun e => ?_), by omega⟩
     · rw [tk, List.mem_append, List.mem_singleton, hS e]
       constructor
       · exact fun w => ⟨.inl w.1, w.2⟩
       · rintro ⟨w | w, w2⟩
         · exact ⟨w, w2⟩
         · exact absurd (w.trans hct) w2.1
     · rw [tk, List.mem_append, List.mem_singleton, hU e]
       constructor
       · exact fun w => ⟨.inl w.1, w.2⟩
       · rintro ⟨w | w, w2⟩
         · exact ⟨w, w2⟩
         · exact absurd (w.trans hct) w2
 rintro σ H1 ⟨o7, kvs, S, U, A, X, Y, rfl, k, R, hS, hU, hlk⟩
 rw [List.length_map, List.take_length] at hS hU
 rw [List.length_map] at hlk
 exact q kvs S U A X Y H1 k R hS (fun c hc ht => (hU c).mpr ⟨hc, ht⟩) (by omega)
theorem Tb.of {H : Hp} {d : Addr} {cs : List Str} {kvs : List (Key × V)} {t : Str} (hd : H d = some (.dK kvs)) (hT : ∀ c ∈ cs, T2 H kvs c) (ht : ∃ r, valV kvs (Sum.inr t) = some (.ref r) ∧ H r = some (.tup [.int 1, .int 1])) : ∃ x y : Str → Int, Tb H d cs x y ∧ (t ∈ cs → x t = 1 ∧ y t = 1) := by
 have ch : ∀ c, ∃ p : Addr × Int × Int, c ∈ cs → valV kvs (Sum.inr c) = some (.ref p.1) ∧ H p.1 = some (.tup [.int p.2.1, .int p.2.2]) ∧ 1 ≤ p.2.1 ∧ p.2.1 ≤ 2 ^ 40 ∧ 1 ≤ p.2.2 ∧ p.2.2 ≤ 2 ^ 40 := fun c => by
   by_cases h : c ∈ cs
   · obtain ⟨r, x, y, h1⟩ := hT c h
     exact ⟨(r, x, y), fun _ => h1⟩
   · exact ⟨(0, 0, 0), fun w => absurd w h⟩
 obtain ⟨f, hf⟩ : ∃ f : Str → Addr × Int × Int, ∀ c, c ∈ cs → valV kvs (Sum.inr c) = some (.ref (f c).1) ∧ H (f c).1 = some (.tup [.int (f c).2.1, .int (f c).2.2]) ∧ 1 ≤ (f c).2.1 ∧ (f c).2.1 ≤ 2 ^ 40 ∧ 1 ≤ (f c).2.2 ∧ (f c).2.2 ≤ 2 ^ 40 := ⟨fun c => Classical.choose (ch c), fun c => Classical.choose_spec (ch c)⟩
 refine ⟨fun c => (f c).2.1, fun c => (f c).2.2, ⟨kvs, fun c => (f c).1, hd, hf⟩, fun htc => ?_⟩
 obtain ⟨r, h1, h2⟩ := ht
 obtain ⟨g1, g2, _⟩ := hf t htc
 rw [h1] at g1
 have e : r = (f t).1 := V.ref.inj (Option.some.inj g1)
 rw [← e, h2] at g2
 have g3 := Option.some.inj g2
 injection g3 with g4
 injection g4 with g5 g6
 injection g6 with g7 _
 exact ⟨(V.int.inj g5).symm, (V.int.inj g7).symm⟩
theorem gS_eq {t : Str} {cs lk S : List Str} (hS : ∀ c, c ∈ S ↔ c ∈ cs ∧ c ≠ t ∧ c ∉ lk) (hlk : ∀ x ∈ lk, x ∈ cs ∧ x ≠ t) {c : Str} (hc : c ∈ cs) : gS t S c = !decide (c ∈ lk) := by
 unfold gS
 by_cases h : c ∈ lk
 · rw [decide_eq_true h, decide_eq_false]
   · rfl
   · rintro (z | z)
     · exact (hlk c h).2 z
     · exact ((hS c).mp z).2.2 h
 · rw [decide_eq_false h, decide_eq_true]
   · rfl
   · by_cases z : c = t
     · exact .inl z
     · exact .inr ((hS c).mpr ⟨hc, z, h⟩)
theorem lines_congr {W W' : Str → Int → Int} {ro t : Str} {V : List (N22.Rv Str)} (h : ∀ v ∈ V, W v.2.2.1 v.2.2.2 = W' v.2.2.1 v.2.2.2) : N25.lines W ro t V = N25.lines W' ro t V := by
 have e1 : V.map (N25.lnv W) = V.map (N25.lnv W') := List.map_congr_left fun v hv => by
   unfold N25.lnv
   rw [h v hv]
 have e2 : N25.fw W V = N25.fw W' V := List.map_congr_left fun v hv => by rw [h v hv]
 unfold N25.lines
 rw [e1, e2]
theorem Rp.wS {K : PySem.W.Frag} {C : Addr} {H : Hp} {rp d : Addr} {t : Str} {kvs : List (List Key × V)} {dy : Int} {S U : List Str} {A : Str → Addr} {X Y x y : Str → Int} (R : Rp K C H rp d t kvs dy S U A X Y x y) {cs : List Str} (hx : ∀ c ∈ cs, 1 ≤ x c ∧ 1 ≤ y c) (ht : t ∈ cs → x t = 1 ∧ y t = 1) (hS : ∀ c ∈ cs, c ≠ t → c ∈ S) {c : Str} (hc : c ∈ cs) (a : Int) : K24.wS X Y c a = K24.wS x y c a := by
 unfold K24.wS
 by_cases z : c = t
 · subst z
   rw [R.tx, R.ty, (ht hc).1, (ht hc).2]
 · exact N24.near_ratio (hx c hc).1 (hx c hc).2 (R.b1 c) (R.rt c (hS c hc z))
theorem Tb.pos {H : Hp} {d : Addr} {cs : List Str} {x y : Str → Int} (h : Tb H d cs x y) : ∀ c ∈ cs, 1 ≤ x c ∧ 1 ≤ y c := fun c hc => by
 obtain ⟨kvs, A, _, h2⟩ := h
 exact ⟨(h2 c hc).2.2.1, (h2 c hc).2.2.2.2.1⟩
theorem ro_let {x : Str} (h : Let x) : x ≠ "*rounding" := fun e => by
 obtain ⟨⟨c, h1, h2⟩, _⟩ := h
 rw [e] at h1
 have h3 : ("*rounding" : Str).cps.toList.head? = some 42 := by decide +kernel
 rw [h3] at h1
 cases h1
 omega
theorem ro_due (x : Str) : due x ≠ "*rounding" := fun e => by
 have h := due_head x
 rw [e] at h
 have h3 : ("*rounding" : Str).cps.toList.head? = some 42 := by decide +kernel
 rw [h3] at h
 cases h
theorem few_ok {X Y : Str → Int} {t : Str} {V : List (N22.Rv Str)} {M : List Ln} (hY : ∀ c, 1 ≤ Y c) (tx : X t = 1) (ty : Y t = 1) (hM : M.map (·.2) = N25.lines (wS X Y) "*rounding" t V) (ha : ∀ v ∈ V, v.2.1 ≠ "*rounding") (h0 : ∀ f c, N22.sumIf (N22.pFC f c) V = 0) : ∀ y ∈ M, y.2.2.1.1 = "*rounding" → 2 * ((y.2.2.2.2.natAbs : Nat) : Int) ≤ (cnt y.2.1 t M : Int) := by
 intro y hy hro
 have hy2 : y.2 ∈ N25.lines (wS X Y) "*rounding" t V := by rw [← hM]; exact List.mem_map.mpr ⟨y, hy, rfl⟩
 have hw : y.2.2.2.2 = -N21.tot y.2.1 (N25.fw (wS X Y) V) := by
   unfold N25.lines at hy2
   rcases List.mem_append.mp hy2 with w | w
   · obtain ⟨v, hv, e⟩ := List.mem_map.mp w
     rw [← e] at hro
     exact absurd hro (ha v hv)
   · unfold N25.rnd N21.rs at w
     obtain ⟨p, hp, hz⟩ := List.mem_flatMap.mp w
     obtain ⟨f, _, rfl⟩ := List.mem_map.mp hp
     unfold N25.rone at hz
     split at hz
     · rw [List.mem_singleton.mp hz]
     · cases hz
 have hs : N21.tot y.2.1 (N25.fw (wS X Y) V) = N25.sg (fun v => wS X Y v.2.2.1 v.2.2.2) (V.filter fun v => decide (v.1 = y.2.1)) := by
   rw [N25.tot_sg, N25.sg_filter]
   unfold N25.fw
   rw [N25.sg_map]
   refine N25.sg_congr fun v _ => ?_
   show (if v.1 = y.2.1 then wS X Y v.2.2.1 v.2.2.2 else 0) = _
   by_cases h : v.1 = y.2.1 <;> simp [h]
 have hc : (cnt y.2.1 t M : Int) = N25.sg (fun v => if v.2.2.1 = t then 0 else 1) (V.filter fun v => decide (v.1 = y.2.1)) := by
   unfold cnt
   rw [← N24.sg_len, N25.sg_filter, N25.sg_filter]
   have e1 : N25.sg (fun z : Ln => if (decide (z.2.1 = y.2.1) && !decide (z.2.2.1.2 = t)) = true then (1 : Int) else 0) M = N25.sg (fun z : N25.Lv Str => if (decide (z.1 = y.2.1) && !decide (z.2.1.2 = t)) = true then (1 : Int) else 0) (M.map (·.2)) := by rw [N25.sg_map]
   rw [e1, hM]
   unfold N25.lines
   rw [N25.sg_app, N25.sg_map]
   have e2 : N25.sg (fun z : N25.Lv Str => if (decide (z.1 = y.2.1) && !decide (z.2.1.2 = t)) = true then (1 : Int) else 0) (N25.rnd (κ := Str) "*rounding" t (N25.fw (wS X Y) V)) = 0 := N25.sg_zero fun z hz => by
     rw [(N25.rnd_mem hz).1]
     simp
   rw [e2, Int.add_zero]
   refine N25.sg_congr fun v _ => ?_
   show (if (decide (v.1 = y.2.1) && !decide (v.2.2.1 = t)) = true then (1 : Int) else 0) = _
   by_cases h1 : v.1 = y.2.1 <;> by_cases h2 : v.2.2.1 = t <;> simp [h1, h2]
 rw [hw, Int.natAbs_neg, hs, hc]
 refine N24.few (wS X Y) X Y t hY (fun c a => N18.near2 (hY c)) (fun a => ?_) _ fun c => ?_
 · unfold wS
   rw [tx, ty, Int.mul_one, N13.nearOne]
 · have h := h0 y.2.1 c
   rw [N25.sumIf_sg] at h
   refine Eq.trans ?_ h
   rw [N25.sg_filter]
   refine N25.sg_congr fun v _ => ?_
   unfold N22.pFC
   by_cases h1 : v.1 = y.2.1 <;> by_cases h2 : v.2.2.1 = c <;> simp [h1, h2]
theorem sc_law : FnScope ["_law_script", "_law_firms_here", "_law_accounts", "_law_coins_here", "_law_told_here", "_law_table_here", "_law_day", "_law_lacks_here", "_law_rates_here", "_law_sides_here", "_law_balanced", "_law_coin", "_law_found", "_law_kept", "_law_again", "_law_due"] ["_law_script"] (defScope s_law) := ⟨rfl, rfl, rfl, by decide +kernel, rfl, by decide +kernel, by decide +kernel⟩
theorem ok_law {f : Addr} {fd : FuncData} (F : FunD K "law" "law" s_law f fd .none) {C_Rates : Addr} (c__law_firms : Cal P w K mg base CX0 true 3 "_law_firms" ["_law_script"] [] (spFirms K)) (c__law_names : Cal P w K mg base CX0 true 2 "_law_names" ["_law_cell", "_law_many"] [] spNames) (c__law_mix : Cal P w K mg base CX0 true 1 "_law_mix" ["_law_cell", "_law_by"] [] spMix) (c__law_cell_at : Cal P w K mg base CX0 true 1 "_law_cell_at" ["_law_script", "_law_k"] [] (spCell K)) (c__law_coins : Cal P w K mg base CX0 true 3 "_law_coins" ["_law_cell"] [] spCoins) (c__law_told_coin : Cal P w K mg base CX0 true 1 "_law_told_coin" ["_law_cell", "_law_coins_here"] [] spTc) (c__law_table : Cal P w K mg base CX0 true 2 "_law_table" ["_law_script", "_law_coins_here", "_law_told_here"] [] (spTab K)) (c__law_lacks : Cal P w K mg base CX0 true 1 "_law_lacks" ["_law_cell", "_law_coins_here", "_law_told_here"] [] spLks) (c__law_rates : Cal P w K mg base CX0 true 3 "_law_rates" ["_law_told_here"] [] (spRts K C_Rates)) (c__law_tell : Cal P w K mg base CX0 true 4 "_law_tell" ["_law_rates_here", "_law_coins_here", "_law_told_here", "_law_table_here", "_law_lacks_here", "_law_day", "_law_back"] [] (spTl K C_Rates)) (c__law_sides : Cal P w K mg base CX0 true 3 "_law_sides" ["_law_script", "_law_firms_here", "_law_accounts", "_law_coins_here"] [] (spSides K)) (c__law_closed : Cal P w K mg base CX0 true 3 "_law_closed" ["_law_sides_here", "_law_firms_here", "_law_accounts", "_law_coins_here", "_law_cell"] [] spClosed) (c__law_first : Cal P w K mg base CX0 true 8 "_law_first" ["_law_sides_here", "_law_balanced", "_law_day", "_law_rates_here", "_law_lacks_here"] [] (spFirst K C_Rates)) (c_Rates_tell : CalM P w K mg base CX0 true 3 C_Rates "tell" ["self", "coin", "day", "top", "bottom"] [.int 1] (spTell K C_Rates)) (c_lined_by : Cal P w K mg base (CX1 P w) true 5 "lined_by" ["sides", "day", "rates"] [] (spLinedE K C_Rates C_NoRate)) (c__law_lines : Cal P w K mg base CX0 true 2 "_law_lines" ["_law_sides_here", "_law_table_here", "_law_told_here"] [] spLn) (c__law_told : Cal P w K mg base CX0 true 2 "_law_told" ["_law_found", "_law_due"] [] spTd) (c_entry_lines : Cal P w K mg base (CX1 P w) true 6 "entry_lines" ["sides", "day", "rates"] [] (spEntryE K C_Rates C_NoRate C_Unbalanced)) (c__law_dues : Cal P w K mg base CX0 true 2 "_law_dues" ["_law_sides_here"] [] spDuesL) (c__law_few : Cal P w K mg base CX0 true 1 "_law_few" ["_law_lines_here", "_law_told_here"] [] spFew) (z_list : mg "list" = none) (cl_Rates : Cls K C_Rates) : FnOk P w K mg base CX0 true 9 f fd ["_law_script"] (spLaw K) := by
 obtain ⟨f__law_firms, fd__law_firms, d__law_firms, G__law_firms, m__law_firms, k__law_firms, b__law_firms, v__law_firms, b__law_firms1⟩ := c__law_firms
 obtain ⟨f__law_names, fd__law_names, d__law_names, G__law_names, m__law_names, k__law_names, b__law_names, v__law_names, b__law_names1⟩ := c__law_names
 obtain ⟨f__law_mix, fd__law_mix, d__law_mix, G__law_mix, m__law_mix, k__law_mix, b__law_mix, v__law_mix, b__law_mix1⟩ := c__law_mix
 obtain ⟨f__law_cell_at, fd__law_cell_at, d__law_cell_at, G__law_cell_at, m__law_cell_at, k__law_cell_at, b__law_cell_at, v__law_cell_at, b__law_cell_at1⟩ := c__law_cell_at
 obtain ⟨f__law_coins, fd__law_coins, d__law_coins, G__law_coins, m__law_coins, k__law_coins, b__law_coins, v__law_coins, b__law_coins1⟩ := c__law_coins
 obtain ⟨f__law_told_coin, fd__law_told_coin, d__law_told_coin, G__law_told_coin, m__law_told_coin, k__law_told_coin, b__law_told_coin, v__law_told_coin, b__law_told_coin1⟩ := c__law_told_coin
 obtain ⟨f__law_table, fd__law_table, d__law_table, G__law_table, m__law_table, k__law_table, b__law_table, v__law_table, b__law_table1⟩ := c__law_table
 obtain ⟨f__law_lacks, fd__law_lacks, d__law_lacks, G__law_lacks, m__law_lacks, k__law_lacks, b__law_lacks, v__law_lacks, b__law_lacks1⟩ := c__law_lacks
 obtain ⟨f__law_rates, fd__law_rates, d__law_rates, G__law_rates, m__law_rates, k__law_rates, b__law_rates, v__law_rates, b__law_rates1⟩ := c__law_rates
 obtain ⟨f__law_tell, fd__law_tell, d__law_tell, G__law_tell, m__law_tell, k__law_tell, b__law_tell, v__law_tell, b__law_tell1⟩ := c__law_tell
 obtain ⟨f__law_sides, fd__law_sides, d__law_sides, G__law_sides, m__law_sides, k__law_sides, b__law_sides, v__law_sides, b__law_sides1⟩ := c__law_sides
 obtain ⟨f__law_closed, fd__law_closed, d__law_closed, G__law_closed, m__law_closed, k__law_closed, b__law_closed, v__law_closed, b__law_closed1⟩ := c__law_closed
 obtain ⟨f__law_first, fd__law_first, d__law_first, G__law_first, m__law_first, k__law_first, b__law_first, v__law_first, b__law_first1⟩ := c__law_first
 obtain ⟨f_Rates_tell, fd_Rates_tell, d_Rates_tell, G_Rates_tell, m_Rates_tell, b_Rates_tell, v_Rates_tell, b_Rates_tell1⟩ := c_Rates_tell
 obtain ⟨f_lined_by, fd_lined_by, d_lined_by, G_lined_by, m_lined_by, k_lined_by, b_lined_by, v_lined_by, b_lined_by1⟩ := c_lined_by
 obtain ⟨f__law_lines, fd__law_lines, d__law_lines, G__law_lines, m__law_lines, k__law_lines, b__law_lines, v__law_lines, b__law_lines1⟩ := c__law_lines
 obtain ⟨f__law_told, fd__law_told, d__law_told, G__law_told, m__law_told, k__law_told, b__law_told, v__law_told, b__law_told1⟩ := c__law_told
 obtain ⟨f_entry_lines, fd_entry_lines, d_entry_lines, G_entry_lines, m_entry_lines, k_entry_lines, b_entry_lines, v_entry_lines, b_entry_lines1⟩ := c_entry_lines
 obtain ⟨f__law_dues, fd__law_dues, d__law_dues, G__law_dues, m__law_dues, k__law_dues, b__law_dues, v__law_dues, b__law_dues1⟩ := c__law_dues
 obtain ⟨f__law_few, fd__law_few, d__law_few, G__law_few, m__law_few, k__law_few, b__law_few, v__law_few, b__law_few1⟩ := c__law_few
 refine F.ok sc_law (fun vs H Q E h => ?_) (fun cdv A outer s H vs Q E hr h => ?_)
 · obtain ⟨a, ns, rfl, hS, hlen, hb, q⟩ := h
   rfl
 obtain ⟨a, ns, rfl, hS, hlen, hb, q⟩ := h
 have nd := sc_law.nd
 refine ⟨_, (pqc (ps_set (i := 1) nd rfl (Or.inl rfl) (pe_call G__law_firms (hr.mono (by decide)) rfl m__law_firms k__law_firms b__law_firms Paired.nil pass0 (pcx (pv 0) pnx)))
   (pqc (ps_set (i := 2) nd rfl (Or.inl rfl) (pe_call G__law_names (hr.mono (by decide)) rfl m__law_names k__law_names b__law_names Paired.nil pass0 (pcx (pe_call G__law_mix (hr.mono (by decide)) rfl m__law_mix k__law_mix b__law_mix Paired.nil pass0 (pcx (pe_call G__law_cell_at (hr.mono (by decide)) rfl m__law_cell_at k__law_cell_at b__law_cell_at Paired.nil pass0 (pcx (pv 0) (pcx pqi pnx))) (pcx pqi pnx))) (pcx pqi pnx))))
   (pqc (ps_set (i := 3) nd rfl (Or.inl rfl) (pe_call G__law_coins (hr.mono (by decide)) rfl m__law_coins k__law_coins b__law_coins Paired.nil pass0 (pcx (pe_call G__law_cell_at (hr.mono (by decide)) rfl m__law_cell_at k__law_cell_at b__law_cell_at Paired.nil pass0 (pcx (pv 0) (pcx pqi pnx))) pnx)))
   (pqc (ps_set (i := 4) nd rfl (Or.inl rfl) (pe_call G__law_told_coin (hr.mono (by decide)) rfl m__law_told_coin k__law_told_coin b__law_told_coin Paired.nil pass0 (pcx (pe_call G__law_cell_at (hr.mono (by decide)) rfl m__law_cell_at k__law_cell_at b__law_cell_at Paired.nil pass0 (pcx (pv 0) (pcx pqi pnx))) (pcx (pv 3) pnx))))
   (pqc (ps_set (i := 5) nd rfl (Or.inl rfl) (pe_call G__law_table (hr.mono (by decide)) rfl m__law_table k__law_table b__law_table Paired.nil pass0 (pcx (pv 0) (pcx (pv 3) (pcx (pv 4) pnx)))))
   (pqc (ps_set (i := 6) nd rfl (Or.inl rfl) (pe_op op_mod (pe_call G__law_cell_at (hr.mono (by decide)) rfl m__law_cell_at k__law_cell_at b__law_cell_at Paired.nil pass0 (pcx (pv 0) (pcx pqi pnx))) pqi))
   (pqc (ps_set (i := 7) nd rfl (Or.inl rfl) (pe_call G__law_lacks (hr.mono (by decide)) rfl m__law_lacks k__law_lacks b__law_lacks Paired.nil pass0 (pcx (pe_call G__law_cell_at (hr.mono (by decide)) rfl m__law_cell_at k__law_cell_at b__law_cell_at Paired.nil pass0 (pcx (pv 0) (pcx pqi pnx))) (pcx (pv 3) (pcx (pv 4) pnx)))))
   (pqc (ps_set (i := 8) nd rfl (Or.inl rfl) (pe_call G__law_rates (hr.mono (by decide)) rfl m__law_rates k__law_rates b__law_rates Paired.nil pass0 (pcx (pv 4) pnx)))
   (pqc (ps_expr (pe_call G__law_tell (hr.mono (by decide)) rfl m__law_tell k__law_tell b__law_tell Paired.nil pass0 (pcx (pv 8) (pcx (pv 3) (pcx (pv 4) (pcx (pv 5) (pcx (pv 7) (pcx (pv 6) (pcx (pe_op op_mod (pe_call G__law_cell_at (hr.mono (by decide)) rfl m__law_cell_at k__law_cell_at b__law_cell_at Paired.nil pass0 (pcx (pv 0) (pcx pqi pnx))) pqi) pnx)))))))))
   (pqc (ps_set (i := 9) nd rfl (Or.inl rfl) (pe_call G__law_sides (hr.mono (by decide)) rfl m__law_sides k__law_sides b__law_sides Paired.nil pass0 (pcx (pv 0) (pcx (pv 1) (pcx (pv 2) (pcx (pv 3) pnx))))))
   (pqc (ps_set (i := 10) nd rfl (Or.inl rfl) (pe_call G__law_closed (hr.mono (by decide)) rfl m__law_closed k__law_closed b__law_closed Paired.nil pass0 (pcx (pv 9) (pcx (pv 1) (pcx (pv 2) (pcx (pv 3) (pcx (pe_call G__law_cell_at (hr.mono (by decide)) rfl m__law_cell_at k__law_cell_at b__law_cell_at Paired.nil pass0 (pcx (pv 0) (pcx pqi pnx))) pnx)))))))
   (pqc (ps_if (pt_not (pt_val (pe_call G__law_first (hr.mono (by decide)) rfl m__law_first k__law_first b__law_first Paired.nil pass0 (pcx (pv 9) (pcx (pv 10) (pcx (pv 6) (pcx (pv 8) (pcx (pv 7) pnx)))))))) (pqo (ps_ret pe_bl)) pss_nil)
   (pqc (ps_for PassesOwn.never rfl (pi_list (pv 7)) (pg_name (i := 11) nd rfl (Or.inl rfl)) (pqo (ps_expr (pe_meth (pv 8) cl_Rates m_Rates_tell G_Rates_tell (hr.mono (by decide)) b_Rates_tell Paired.nil pass0 (pcx (pv 11) (pcx pqi (pcx (pe_ix ix_seq (pe_dget (hu_of hr) (pv 5) (pv 11) (fun _ _ => rfl)) pqi (fun _ _ => rfl)) (pcx (pe_ix ix_seq (pe_dget (hu_of hr) (pv 5) (pv 11) (fun _ _ => rfl)) pqi (fun _ _ => rfl)) pnx))))))))
   (pqc (ps_set (i := 12) nd rfl (Or.inl rfl) (pe_callR G_lined_by (hr.mono (by decide)) rfl m_lined_by k_lined_by b_lined_by Paired.nil xe_off (pcx (pe_callTy call_list_of rfl z_list bt_list (pcx (pv 9) pnx)) (pcx (pv 6) (pcx (pv 8) pnx)))))
   (pqc (ps_set (i := 13) nd rfl (Or.inl rfl) (pe_call G__law_lines (hr.mono (by decide)) rfl m__law_lines k__law_lines b__law_lines Paired.nil pass0 (pcx (pv 9) (pcx (pv 5) (pcx (pv 4) pnx)))))
   (pqc (ps_if (pt_not (pt_val (pe_call G__law_told (hr.mono (by decide)) rfl m__law_told k__law_told b__law_told Paired.nil pass0 (pcx (pv 12) (pcx (pv 13) pnx))))) (pqo (ps_ret pe_bl)) pss_nil)
   (pqc (ps_set (i := 14) nd rfl (Or.inl rfl) (pe_callR G_entry_lines (hr.mono (by decide)) rfl m_entry_lines k_entry_lines b_entry_lines Paired.nil xe_off (pcx (pe_callTy call_list_of rfl z_list bt_list (pcx (pv 10) pnx)) (pcx (pv 6) (pcx (pv 8) pnx)))))
   (pqc (ps_set (i := 15) nd rfl (Or.inl rfl) (pe_call G__law_lines (hr.mono (by decide)) rfl m__law_lines k__law_lines b__law_lines Paired.nil pass0 (pcx (pe_op op_cat (pv 10) (pe_call G__law_dues (hr.mono (by decide)) rfl m__law_dues k__law_dues b__law_dues Paired.nil pass0 (pcx (pv 10) pnx))) (pcx (pv 5) (pcx (pv 4) pnx)))))
   (pqo (ps_ret (pe_and (pe_call G__law_told (hr.mono (by decide)) rfl m__law_told k__law_told b__law_told Paired.nil pass0 (pcx (pv 14) (pcx (pv 15) pnx))) (pe_and (pe_call G__law_few (hr.mono (by decide)) rfl m__law_few k__law_few b__law_few Paired.nil pass0 (pcx (pv 14) (pcx (pv 4) pnx))) (pe_one (pe_cmpR (op_eqD hr) (pv 12) (pv 13) (nomark _))))))))))))))))))))))))), ?_⟩
 have hline : 10 ^ 6 ≤ sizeLine := by decide
 refine ⟨_, rfl, a, ns, rfl, hS, fun fl fs H1 e1 hfl lf lf6 hfL => ?_⟩
 refine ⟨_, rfl, a, ns, 0, rfl, e1.seq hS, _, 30269, rfl, by decide, fun m m0 m1 => ⟨m, 3, rfl, by decide, by decide, fun al as H2 e2 hal la haL _ => ?_⟩⟩
 have e12 := e1.trans e2
 refine ⟨_, rfl, a, ns, 1, rfl, e12.seq hS, _, rfl, fun cl cs H3 e3 hcl lcs cnd => ?_⟩
 have e13 := e12.trans e3
 refine ⟨_, rfl, a, ns, 1, rfl, e13.seq hS, _, rfl, _, cl, cs, rfl, hcl, lcs, fun t => ?_⟩
 refine ⟨_, rfl, _, rfl, _, rfl, a, cl, ns, cs, t, rfl, e13.seq hS, hcl, lcs, fun td kvt H4 e4 htd hT htt => ?_⟩
 have e14 := e13.trans e4
 obtain ⟨x, y, hTb, hx1⟩ := Tb.of htd hT htt
 clear hT htt htd
 refine ⟨_, rfl, a, ns, 4, rfl, e14.seq hS, _, _, rfl, rfl, (by show (0 : Int) < 9998; decide), ?_⟩
 have hdy : 0 ≤ (ns.getD 4 0 % 9998) := Int.emod_nonneg _ (by decide)
 refine ⟨_, rfl, a, ns, 5, rfl, e14.seq hS, _, rfl, _, rfl, _, cl, t, cs, rfl, e4 _ _ hcl, by omega, cnd, fun kl lk H5 e5 hkl lknd hlk lkl => ?_⟩
 have e15 := e14.trans e5
 refine ⟨_, rfl, t, rfl, fun rp d H6 e6 R0 => ?_⟩
 have e16 := e15.trans e6
 have e46 := e5.trans e6
 refine ⟨_, rfl, _, rfl, _, rfl, _, rfl, _, rfl, _, rfl, _, rfl, a, ns, 2, rfl, e16.seq hS, _, _, rfl, rfl, (by show (0 : Int) < 51; decide), rp, d, cl, td, kl, t, _, _, cs, lk, x, y, rfl, R0, e46 _ _ (e4 _ _ hcl), by omega, cnd, hTb.same e46, e6 _ _ hkl, hdy, Int.emod_nonneg _ (by decide), fun kvs S U A X Y H7 k7 R7 hS7 hU7 hln7 => ?_⟩
 have kk := (Kd2.of e16).trans k7
 have hSx := kk.seq hS
 have e36 := e4.trans e46
 have LS : Ls H7 fl al cl fs as cs := ⟨k7.lst (e36 _ _ (e3 _ _ (e2 _ _ hfl))), k7.lst (e36 _ _ (e3 _ _ hal)), k7.lst (e36 _ _ hcl), lf, la, by omega, hfL, haL⟩
 have hTb7 := (hTb.same e46).kd k7
 have hkl7 := k7.lst (e6 _ _ hkl)
 refine ⟨_, rfl, _, rfl, _, rfl, _, rfl, a, fl, al, cl, ns, fs, as, cs, rfl, hSx, hlen, hb, LS, fun sl L H8 e8 hs00 hsl hL hlL => ?_⟩
 refine ⟨_, rfl, _, rfl, _, rfl, _, rfl, _, rfl, a, ns, 5, rfl, e8.seq hSx, sl, fl, al, cl, _, L, fs, as, cs, rfl, hsl, hL, hlL, LS.same e8, fun bl B H9 e9 hb0 hbl hB hlB hz3 => ?_⟩
 have e79 := e8.trans e9
 have h0 : ∀ z ∈ B, N21.tot z.2.2.2.1 (prs B) = 0 := fun z hz => by
   obtain ⟨j, hj, ej⟩ := List.mem_take_iff_getElem.mp (hB z hz).2.2.2.1
   have := hz3 j (by omega)
   rw [List.getD, List.getElem?_eq_getElem (by omega)] at this
   rw [← ej]
   exact this
 have hbad : bad B = none := by
   rw [bad_eq, List.find?_eq_none.mpr (fun y hy => by simp [h0 y hy])]
   rfl
 have SL : Sds H9 sl L := ⟨e9 _ _ hsl, hL.rt.same e9, by omega, fun z hz => (hL z hz).2.1, fun z hz => Nat.le_trans (hL z hz).2.2.2.2 (by decide)⟩
 have SB : Sds H9 bl B := ⟨hbl, hB.rt, by omega, fun z hz => (hB z hz).2.1, fun z hz => (hB z hz).2.2.2.2⟩
 have cL : ∀ z ∈ L, z.2.2.2.1 ∈ cs := fun z hz => List.mem_of_mem_take (hL z hz).2.2.2.1
 have cB : ∀ z ∈ B, z.2.2.2.1 ∈ cs := fun z hz => List.mem_of_mem_take (hB z hz).2.2.2.1
 have aB : ∀ z ∈ B, Let z.2.2.1 := fun z hz => (hB z hz).2.2.1
 have R9 := R7.same e79
 have hkl9 := e79 _ _ hkl7
 have hTb9 := hTb7.same e79
 clear hL hB
 refine ⟨_, rfl, _, rfl, _, rfl, _, rfl, _, rfl, sl, bl, rp, d, kl, _, t, kvs, gS t S, X, Y, lk, L, B, rfl, SL, SB, hbad, hkl9, (fun z hz => gS_eq hS7 hlk (cL z hz)), (fun z hz => gS_eq hS7 hlk (cB z hz)), R9.rtg, fun HA eA => ⟨true, rfl, iteF ?_⟩⟩
 have hklA := eA _ _ hkl9
 have RA := R9.same eA
 have hTbA := hTb9.same eA
 refine ⟨_, rfl, kl, rfl, ⟨_, SqL.of hklA⟩, ?_⟩
 refine for_list (xs := lk.map V.str) (fun i σ H' => ∃ (o11 : Option V) (kvs : List (List Key × V)) (S2 : List Str) (A : Str → Addr) (X Y : Str → Int), σ = [some (.ref a), some (.ref fl), some (.ref al), some (.ref cl), some (.str t), some (.ref td), some (.int (ns.getD 4 0 % 9998)), some (.ref kl), some (.ref rp), some (.ref sl), some (.ref bl), o11, none, none, none, none] ∧ Kd2 HA H' ∧ Rp K C_Rates H' rp d t kvs (ns.getD 4 0 % 9998) S2 U A X Y x y ∧ (∀ c, c ∈ S2 ↔ c ∈ S ∨ c ∈ lk.take i) ∧ kvs.length ≤ 8 + i) ⟨_, kvs, S, A, X, Y, rfl, Kd2.of (Same.refl _), RA, (fun c => by simp), by omega⟩ ?_ ?_ ?_
 · rintro i σ H' hi ⟨o11, kvs, S2, A, X, Y, rfl, k, _⟩
   exact SqL.of (k.lst hklA)
 · rintro i x' σ H' hx ⟨o11, kvs, S2, A, X, Y, rfl, k, R, hS2, hln⟩
   obtain ⟨c, hci, rfl⟩ := strs_at hx
   have hil : i < lk.length := (List.getElem?_eq_some_iff.mp hci).1
   have hcm := List.mem_of_getElem? hci
   have hct := (hlk c hcm).2
   have hcS : c ∉ S2 := fun z => ((hS2 c).mp z).elim (fun w => ((hS7 c).mp w).2.2 hcm) (fun w => nd_takeS lknd hci w)
   obtain ⟨tkv, TA, htd, hTc⟩ := hTbA.kd k
   obtain ⟨v1, v2, x1, x2, y1, y2⟩ := hTc c (hlk c hcm).1
   have g := DGet.k (k := Sum.inr c) htd
   rw [v1] at g
   have hTr := SqT.of (K := K) v2
   obtain ⟨dx2, gs2, hpr2, htl2, hkn2, hno2⟩ := R.ra.ob
   refine ⟨_, rfl, rp, dx2, gs2, rfl, hpr2, hno2 "tell" (by decide +kernel), _, rfl, _, rfl, _, rfl, td, _, rfl, g, .inr (.inl ⟨TA c, _, 0, _, rfl, rfl, hTr, rfl, _, rfl, _, rfl, td, _, rfl, g, .inr (.inl ⟨TA c, _, 1, _, rfl, rfl, hTr, rfl, ?_⟩)⟩)⟩
   refine ⟨rp, d, t, c, 0, x c, y c, kvs, rfl, R.ra, x1, y1, by omega, hct, val_days (R.no c hcS) hdy, by omega, fun r6 H3 hr3 R3 k3 => ?_⟩
   have kd3 := kd_tell R.ra k3
   have lw := N11.lowD (t := x c) (b := y c) (by omega)
   refine ⟨_, _, c :: S2, _, _, _, rfl, k.trans kd3, R.near hcS (hU7 c (hlk c hcm).1 hct) hct hdy R3 kd3 hr3 lw.2.2.2.2 (by have := lw.2.2.1; omega) lw.1 (by have := lw.2.1; omega), fun e => ?_, ?_⟩
   · rw [List.mem_cons, take_nx hci, List.mem_append, List.mem_singleton, hS2 e]
     constructor
     · rintro (w | w | w)
       · exact .inr (.inr w)
       · exact .inl w
       · exact .inr (.inl w)
     · rintro (w | w | w)
       · exact .inr (.inl w)
       · exact .inr (.inr w)
       · exact .inl w
   · rw [List.length_append]
     show kvs.length + 1 ≤ _
     omega
 rintro σ HB ⟨o11, kvs2, S2, A2, X2, Y2, rfl, kB, R2, hS2, hln2⟩
 rw [List.length_map, List.take_length] at hS2
 have hall : ∀ c ∈ cs, c ≠ t → c ∈ S2 := fun c hc hct => (hS2 c).mpr (by
   by_cases w : c ∈ lk
   · exact .inr w
   · exact .inl ((hS7 c).mpr ⟨hc, hct, w⟩))
 have gall : ∀ c ∈ cs, gS t S2 c = true := fun c hc => by
   unfold gS
   refine decide_eq_true ?_
   by_cases w : c = t
   · exact .inl w
   · exact .inr (hall c hc w)
 have hTbB := hTbA.kd kB
 have wEq : ∀ c ∈ cs, ∀ a, wS X2 Y2 c a = wS x y c a := fun c hc a => R2.wS hTbB.pos hx1 hall hc a
 have SLA := SL.same eA
 have SBA := SB.same eA
 have SLB : Sds HB sl L := ⟨kB.lst SLA.h, fun z hz => kB.tup (SLA.r z hz), SL.n, SL.f, SL.a⟩
 have SBB : Sds HB bl B := ⟨kB.lst SBA.h, fun z hz => kB.tup (SBA.r z hz), SB.n, SB.f, SB.a⟩
 have G2 := R2.rtg
 have lkL : lackC (gS t S2) L = none := lack_none fun z hz => gall _ (cL z hz)
 have lkB : lackC (gS t S2) B = none := lack_none fun z hz => gall _ (cB z hz)
 refine ⟨_, rfl, sl, _, rfl, .inl (SqL.of SLB.h), fun cp hcp => ?_⟩
 have f1 := squ (o := .lst (rfs L)) hcp
 refine ⟨_, rfl, _, rfl, True.intro, cp, rp, d, _, t, kvs2, gS t S2, X2, Y2, L, rfl, uqs, SLB.r.same f1, by omega, G2.same f1, (fun z hz => Nat.le_trans (SL.a z hz) (by decide)), (fun c hc => absurd (hc.symm.trans lkL) (by intro z; cases z)), fun _ fp M HC eC hfp0 hfp hM hMv hMl => ?_⟩
 have g1 := f1.trans eC
 refine ⟨_, rfl, _, rfl, _, rfl, sl, td, t, cs, x, y, L, rfl, g1 _ _ SLB.h, SLB.r.same g1, by omega, hTbB.same g1, (fun z hz => ⟨cL z hz, Nat.le_trans (SL.a z hz) (by decide)⟩), fun kp Nn HD eD hkp0 hkp hN hNv hNl => ?_⟩
 have g2 := g1.trans eD
 have hMN : M.map (·.2) = Nn.map (·.2) := by
   rw [hMv, hNv]
   refine lines_congr fun v hv => ?_
   obtain ⟨z, hz, rfl⟩ := List.mem_map.mp hv
   exact wEq _ (cL z hz) _
 refine ⟨_, rfl, _, rfl, fp, kp, M, Nn, rfl, eD _ _ hfp, hkp, hM.same eD, hN, hMN, true, rfl, iteF ?_⟩
 refine ⟨_, rfl, bl, _, rfl, .inl (SqL.of (SBB.same g2).h), fun cq hcq => ?_⟩
 have f3 := squ (o := .lst (rfs B)) hcq
 have g3 := g2.trans f3
 refine ⟨_, rfl, _, rfl, True.intro, cq, rp, d, _, t, kvs2, gS t S2, X2, Y2, B, rfl, uqs, SBB.r.same g3, SB.n, SB.f, G2.same g3, SB.a, (fun c r hc => absurd (hc.symm.trans hbad) (by intro z; cases z)), (fun c _ hc => absurd (hc.symm.trans lkB) (by intro z; cases z)), fun _ _ ap MA HE eE hap0 hap hMA hMAv hMAl => ?_⟩
 have g4 := g3.trans eE
 refine ⟨_, rfl, _, rfl, bl, B, rfl, (SBB.same g4).h, (SBB.same g4).r, SB.n, SB.f, fun dp D HF eF hdp0 hdp hD hDv hDl => ?_⟩
 have g5 := g4.trans eF
 refine ⟨bl, dp, _, _, rfl, rfl, (SBB.same g5).h, hdp, (by rw [rfs_len, rfs_len]; have := SB.n; omega), fun xp hxp => ?_⟩
 have f6 := squ (o := .lst (rfs B ++ rfs D)) hxp
 have g6 := g5.trans f6
 have cD : ∀ z ∈ B ++ D, z.2.2.2.1 ∈ cs ∧ z.2.2.2.2.natAbs ≤ 2 ^ 200 := fun z hz => by
   rcases List.mem_append.mp hz with w | w
   · exact ⟨cB z w, Nat.le_trans (SB.a z w) (by decide)⟩
   · have hz2 : z.2 ∈ dvs B (cns B) := by
       rw [← hDv]
       exact List.mem_map.mpr ⟨z, w, rfl⟩
     obtain ⟨⟨z', hz', ez⟩, _, hbd⟩ := dvs_coin hz2
     exact ⟨by rw [← ez]; exact cB z' hz', Nat.le_trans (hbd (2 ^ 145) SB.a) (Nat.le_trans (Nat.mul_le_mul_right _ SB.n) (by decide))⟩
 refine ⟨_, rfl, _, rfl, xp, td, t, cs, x, y, B ++ D, rfl, (by rw [uqs, rfs_app]), ((SBB.same g6).r).app (hD.same f6), (by rw [List.length_append]; have := SB.n; omega), hTbB.same g6, cD, fun ep ND HG eG hep0 hep hND hNDv hNDl => ?_⟩
 have h56 := (eF.trans f6).trans eG
 have hAN : MA.map (·.2) = ND.map (·.2) := by
   rw [hMAv, hNDv, vls_app, hDv]
   refine lines_congr fun v hv => ?_
   rw [← hDv, ← vls_app] at hv
   obtain ⟨z, hz, rfl⟩ := List.mem_map.mp hv
   exact wEq _ (cD z hz).1 _
 refine ⟨_, rfl, _, rfl, ap, ep, MA, ND, rfl, h56 _ _ hap, hep, hMA.same h56, hND, hAN, true, rfl, iteT ?_⟩
 have hac : ∀ v ∈ vls B ++ dvs B (cns B), v.2.1 ≠ "*rounding" := fun v hv => by
   rcases List.mem_append.mp hv with w | w
   · obtain ⟨z, hz, rfl⟩ := List.mem_map.mp w
     exact ro_let (aB z hz)
   · obtain ⟨_, ⟨u, e, _⟩, _⟩ := dvs_coin w
     rw [e]
     exact ro_due u
 refine ⟨_, rfl, _, rfl, ap, t, MA, rfl, h56 _ _ hap, hMA.same h56, by omega, few_ok R2.b1 R2.tx R2.ty hMAv hac (fc_zero h0), fun HH eH => ⟨true, rfl, iteT ?_⟩⟩
 have gD := ((f3.trans eE).trans h56).trans eH
 exact ⟨_, rfl, _, rfl, fp, kp, _, _, rfl, rfl, SqL.of (gD _ _ (eD _ _ hfp)), SqL.of (gD _ _ hkp), eq5 ((hM.same eD).same gD) (hN.same gD) hMN, q _⟩
end
theorem all_mk {l : PySem.W.OpenLaw} {w : World} {K : PySem.W.Frag} {h : Heap} {mg : Str → Option Value} {fa : Addr} {C_BooksError C_NoNumber C_NoRate C_Rates C_Unbalanced : Addr} {f_divisor : Addr} {oc_divisor kV_divisor dc_divisor pm_divisor cd_divisor ct_divisor : Value} {od_divisor an_divisor : Option Addr} {sl_divisor : Array (Option Value)} {f_fraction : Addr} {oc_fraction kV_fraction dc_fraction pm_fraction cd_fraction ct_fraction : Value} {od_fraction an_fraction : Option Addr} {sl_fraction : Array (Option Value)} {T_fraction : Addr} {odT_fraction : Option Addr} {nT_fraction : Nat} {slT_fraction : Array (Option Value)} {tkT_fraction : Tok} {f_nearest : Addr} {oc_nearest kV_nearest dc_nearest pm_nearest cd_nearest ct_nearest : Value} {od_nearest an_nearest : Option Addr} {sl_nearest : Array (Option Value)} {T_nearest : Addr} {odT_nearest : Option Addr} {nT_nearest : Nat} {slT_nearest : Array (Option Value)} {tkT_nearest : Tok} {f_NoRate__init__ : Addr} {oc_NoRate__init__ kV_NoRate__init__ dc_NoRate__init__ pm_NoRate__init__ cd_NoRate__init__ ct_NoRate__init__ : Value} {od_NoRate__init__ an_NoRate__init__ : Option Addr} {sl_NoRate__init__ : Array (Option Value)} {f_Unbalanced__init__ : Addr} {oc_Unbalanced__init__ kV_Unbalanced__init__ dc_Unbalanced__init__ pm_Unbalanced__init__ cd_Unbalanced__init__ ct_Unbalanced__init__ : Value} {od_Unbalanced__init__ an_Unbalanced__init__ : Option Addr} {sl_Unbalanced__init__ : Array (Option Value)} {f_Rates_rate : Addr} {oc_Rates_rate kV_Rates_rate dc_Rates_rate pm_Rates_rate cd_Rates_rate ct_Rates_rate : Value} {od_Rates_rate an_Rates_rate : Option Addr} {sl_Rates_rate : Array (Option Value)} {f_Rates___init__ : Addr} {oc_Rates___init__ kV_Rates___init__ dc_Rates___init__ pm_Rates___init__ cd_Rates___init__ ct_Rates___init__ : Value} {od_Rates___init__ an_Rates___init__ : Option Addr} {sl_Rates___init__ : Array (Option Value)} {T_Rates___init__ : Addr} {odT_Rates___init__ : Option Addr} {nT_Rates___init__ : Nat} {slT_Rates___init__ : Array (Option Value)} {tkT_Rates___init__ : Tok} {f_Rates_tell : Addr} {oc_Rates_tell kV_Rates_tell dc_Rates_tell pm_Rates_tell cd_Rates_tell ct_Rates_tell : Value} {od_Rates_tell an_Rates_tell : Option Addr} {sl_Rates_tell : Array (Option Value)} {T_Rates_tell : Addr} {odT_Rates_tell : Option Addr} {nT_Rates_tell : Nat} {slT_Rates_tell : Array (Option Value)} {tkT_Rates_tell : Tok} {f_Rates_worth : Addr} {oc_Rates_worth kV_Rates_worth dc_Rates_worth pm_Rates_worth cd_Rates_worth ct_Rates_worth : Value} {od_Rates_worth an_Rates_worth : Option Addr} {sl_Rates_worth : Array (Option Value)} {f_rests_of : Addr} {oc_rests_of kV_rests_of dc_rests_of pm_rests_of cd_rests_of ct_rests_of : Value} {od_rests_of an_rests_of : Option Addr} {sl_rests_of : Array (Option Value)} {f_half_rests : Addr} {oc_half_rests kV_half_rests dc_half_rests pm_half_rests cd_half_rests ct_half_rests : Value} {od_half_rests an_half_rests : Option Addr} {sl_half_rests : Array (Option Value)} {f_firms_in : Addr} {oc_firms_in kV_firms_in dc_firms_in pm_firms_in cd_firms_in ct_firms_in : Value} {od_firms_in an_firms_in : Option Addr} {sl_firms_in : Array (Option Value)} {f_dues_added : Addr} {oc_dues_added kV_dues_added dc_dues_added pm_dues_added cd_dues_added ct_dues_added : Value} {od_dues_added an_dues_added : Option Addr} {sl_dues_added : Array (Option Value)} {f_with_dues : Addr} {oc_with_dues kV_with_dues dc_with_dues pm_with_dues cd_with_dues ct_with_dues : Value} {od_with_dues an_with_dues : Option Addr} {sl_with_dues : Array (Option Value)} {f_lined_by : Addr} {oc_lined_by kV_lined_by dc_lined_by pm_lined_by cd_lined_by ct_lined_by : Value} {od_lined_by an_lined_by : Option Addr} {sl_lined_by : Array (Option Value)} {f_entry_lines : Addr} {oc_entry_lines kV_entry_lines dc_entry_lines pm_entry_lines cd_entry_lines ct_entry_lines : Value} {od_entry_lines an_entry_lines : Option Addr} {sl_entry_lines : Array (Option Value)} {f__law_cell_at : Addr} {oc__law_cell_at kV__law_cell_at dc__law_cell_at pm__law_cell_at cd__law_cell_at ct__law_cell_at : Value} {od__law_cell_at an__law_cell_at : Option Addr} {sl__law_cell_at : Array (Option Value)} {f__law_whole : Addr} {oc__law_whole kV__law_whole dc__law_whole pm__law_whole cd__law_whole ct__law_whole : Value} {od__law_whole an__law_whole : Option Addr} {sl__law_whole : Array (Option Value)} {f__law_mix : Addr} {oc__law_mix kV__law_mix dc__law_mix pm__law_mix cd__law_mix ct__law_mix : Value} {od__law_mix an__law_mix : Option Addr} {sl__law_mix : Array (Option Value)} {f__law_names : Addr} {oc__law_names kV__law_names dc__law_names pm__law_names cd__law_names ct__law_names : Value} {od__law_names an__law_names : Option Addr} {sl__law_names : Array (Option Value)} {f__law_coins : Addr} {oc__law_coins kV__law_coins dc__law_coins pm__law_coins cd__law_coins ct__law_coins : Value} {od__law_coins an__law_coins : Option Addr} {sl__law_coins : Array (Option Value)} {f__law_amount : Addr} {oc__law_amount kV__law_amount dc__law_amount pm__law_amount cd__law_amount ct__law_amount : Value} {od__law_amount an__law_amount : Option Addr} {sl__law_amount : Array (Option Value)} {f__law_side : Addr} {oc__law_side kV__law_side dc__law_side pm__law_side cd__law_side ct__law_side : Value} {od__law_side an__law_side : Option Addr} {sl__law_side : Array (Option Value)} {f__law_sides : Addr} {oc__law_sides kV__law_sides dc__law_sides pm__law_sides cd__law_sides ct__law_sides : Value} {od__law_sides an__law_sides : Option Addr} {sl__law_sides : Array (Option Value)} {f__law_closed : Addr} {oc__law_closed kV__law_closed dc__law_closed pm__law_closed cd__law_closed ct__law_closed : Value} {od__law_closed an__law_closed : Option Addr} {sl__law_closed : Array (Option Value)} {f__law_firms : Addr} {oc__law_firms kV__law_firms dc__law_firms pm__law_firms cd__law_firms ct__law_firms : Value} {od__law_firms an__law_firms : Option Addr} {sl__law_firms : Array (Option Value)} {f__law_rate : Addr} {oc__law_rate kV__law_rate dc__law_rate pm__law_rate cd__law_rate ct__law_rate : Value} {od__law_rate an__law_rate : Option Addr} {sl__law_rate : Array (Option Value)} {f__law_table : Addr} {oc__law_table kV__law_table dc__law_table pm__law_table cd__law_table ct__law_table : Value} {od__law_table an__law_table : Option Addr} {sl__law_table : Array (Option Value)} {f__law_told_coin : Addr} {oc__law_told_coin kV__law_told_coin dc__law_told_coin pm__law_told_coin cd__law_told_coin ct__law_told_coin : Value} {od__law_told_coin an__law_told_coin : Option Addr} {sl__law_told_coin : Array (Option Value)} {f__law_rates : Addr} {oc__law_rates kV__law_rates dc__law_rates pm__law_rates cd__law_rates ct__law_rates : Value} {od__law_rates an__law_rates : Option Addr} {sl__law_rates : Array (Option Value)} {f__law_worth : Addr} {oc__law_worth kV__law_worth dc__law_worth pm__law_worth cd__law_worth ct__law_worth : Value} {od__law_worth an__law_worth : Option Addr} {sl__law_worth : Array (Option Value)} {f__law_dues : Addr} {oc__law_dues kV__law_dues dc__law_dues pm__law_dues cd__law_dues ct__law_dues : Value} {od__law_dues an__law_dues : Option Addr} {sl__law_dues : Array (Option Value)} {f__law_lines : Addr} {oc__law_lines kV__law_lines dc__law_lines pm__law_lines cd__law_lines ct__law_lines : Value} {od__law_lines an__law_lines : Option Addr} {sl__law_lines : Array (Option Value)} {f__law_told : Addr} {oc__law_told kV__law_told dc__law_told pm__law_told cd__law_told ct__law_told : Value} {od__law_told an__law_told : Option Addr} {sl__law_told : Array (Option Value)} {f__law_lacking : Addr} {oc__law_lacking kV__law_lacking dc__law_lacking pm__law_lacking cd__law_lacking ct__law_lacking : Value} {od__law_lacking an__law_lacking : Option Addr} {sl__law_lacking : Array (Option Value)} {f__law_open : Addr} {oc__law_open kV__law_open dc__law_open pm__law_open cd__law_open ct__law_open : Value} {od__law_open an__law_open : Option Addr} {sl__law_open : Array (Option Value)} {f__law_refused : Addr} {oc__law_refused kV__law_refused dc__law_refused pm__law_refused cd__law_refused ct__law_refused : Value} {od__law_refused an__law_refused : Option Addr} {sl__law_refused : Array (Option Value)} {f__law_few : Addr} {oc__law_few kV__law_few dc__law_few pm__law_few cd__law_few ct__law_few : Value} {od__law_few an__law_few : Option Addr} {sl__law_few : Array (Option Value)} {f__law_first : Addr} {oc__law_first kV__law_first dc__law_first pm__law_first cd__law_first ct__law_first : Value} {od__law_first an__law_first : Option Addr} {sl__law_first : Array (Option Value)} {f__law_lacks : Addr} {oc__law_lacks kV__law_lacks dc__law_lacks pm__law_lacks cd__law_lacks ct__law_lacks : Value} {od__law_lacks an__law_lacks : Option Addr} {sl__law_lacks : Array (Option Value)} {f__law_tell : Addr} {oc__law_tell kV__law_tell dc__law_tell pm__law_tell cd__law_tell ct__law_tell : Value} {od__law_tell an__law_tell : Option Addr} {sl__law_tell : Array (Option Value)} {f_law : Addr} {oc_law kV_law dc_law pm_law cd_law ct_law : Value} {od_law an_law : Option Addr} {sl_law : Array (Option Value)} (X : K.In h) (G : h.Ns mainGlobals mg) (hfa : mg "law" = some (.ref fa))
   (a_BooksError : PySem.W.nsIn K mainGlobals "BooksError" = some (some (.ref C_BooksError))) (a_NoNumber : PySem.W.nsIn K mainGlobals "NoNumber" = some (some (.ref C_NoNumber))) (a_NoRate : PySem.W.nsIn K mainGlobals "NoRate" = some (some (.ref C_NoRate))) (a_Rates : PySem.W.nsIn K mainGlobals "Rates" = some (some (.ref C_Rates))) (a_Unbalanced : PySem.W.nsIn K mainGlobals "Unbalanced" = some (some (.ref C_Unbalanced))) (xs_NoNumber : xclsIn K C_NoNumber = true) (xga_NoNumber : PySem.W.findIn K (.ref C_NoNumber) "__getattribute__" = some (some (.builtin "BaseException.__getattribute__"))) (xgh_NoNumber : PySem.W.findIn K (.ref C_NoNumber) "__getattr__" = some (none)) (xsa_NoNumber : PySem.W.findIn K (.ref C_NoNumber) "__setattr__" = some (some (.builtin "object.__setattr__"))) (xcl_NoNumber : PySem.W.findIn K (.ref C_NoNumber) "__class__" = some (some (.builtin "object.__class__"))) (xs_NoRate : xclsIn K C_NoRate = true) (xga_NoRate : PySem.W.findIn K (.ref C_NoRate) "__getattribute__" = some (some (.builtin "BaseException.__getattribute__"))) (xgh_NoRate : PySem.W.findIn K (.ref C_NoRate) "__getattr__" = some (none)) (xsa_NoRate : PySem.W.findIn K (.ref C_NoRate) "__setattr__" = some (some (.builtin "object.__setattr__"))) (xcl_NoRate : PySem.W.findIn K (.ref C_NoRate) "__class__" = some (some (.builtin "object.__class__"))) (xs_Unbalanced : xclsIn K C_Unbalanced = true) (xga_Unbalanced : PySem.W.findIn K (.ref C_Unbalanced) "__getattribute__" = some (some (.builtin "BaseException.__getattribute__"))) (xgh_Unbalanced : PySem.W.findIn K (.ref C_Unbalanced) "__getattr__" = some (none)) (xsa_Unbalanced : PySem.W.findIn K (.ref C_Unbalanced) "__setattr__" = some (some (.builtin "object.__setattr__"))) (xcl_Unbalanced : PySem.W.findIn K (.ref C_Unbalanced) "__class__" = some (some (.builtin "object.__class__"))) (i_NoNumber : PySem.W.findIn K (.ref C_NoNumber) "__init__" = some (some (.builtin "ValueError.__init__"))) (nz_abs : PySem.W.nsIn K mainGlobals "abs" = some none) (nz_len : PySem.W.nsIn K mainGlobals "len" = some none) (nz_max : PySem.W.nsIn K mainGlobals "max" = some none) (nz_list : PySem.W.nsIn K mainGlobals "list" = some none) (nz_dict : PySem.W.nsIn K mainGlobals "dict" = some none) (nz_isinstance : PySem.W.nsIn K mainGlobals "isinstance" = some none) (nz_int : PySem.W.nsIn K mainGlobals "int" = some none) (nz_bool : PySem.W.nsIn K mainGlobals "bool" = some none) (nz_range : PySem.W.nsIn K mainGlobals "range" = some none) (nz_sum : PySem.W.nsIn K mainGlobals "sum" = some none) (nz_tuple : PySem.W.nsIn K mainGlobals "tuple" = some none) (nz_str : PySem.W.nsIn K mainGlobals "str" = some none) (q_ib : PySem.W.kitOne K (.type "int") (.type "bool") = some false) (q_nn : PySem.W.exmOne K (.ref C_NoRate) (.ref C_NoRate) = some true) (q_un : PySem.W.exmOne K (.ref C_Unbalanced) (.ref C_NoRate) = some false) (q_ub : PySem.W.exmOne K (.ref C_Unbalanced) (.ref C_BooksError) = some true) (q_uu : PySem.W.kitOne K (.ref C_Unbalanced) (.ref C_Unbalanced) = some true) (pg_Rates : PySem.W.plainGet K C_Rates Str.empty = true) (hd_Rates : PySem.W.hasDictIn K C_Rates = true) (po_Rates : PySem.W.plainOver K C_Rates = true) (sa_Rates : PySem.W.findIn K (.ref C_Rates) "__setattr__" = some (some (.builtin "object.__setattr__"))) (mk_Rates : PySem.W.makesIn K C_Rates = true) (kc_Rates : PySem.W.keepIn K (.ref C_Rates) = true) (n_rcoin : PySem.W.findIn K (.ref C_NoRate) "coin" = some none) (n_rday : PySem.W.findIn K (.ref C_NoRate) "day" = some none) (n_book : PySem.W.findIn K (.ref C_Unbalanced) "book" = some none) (n_coin : PySem.W.findIn K (.ref C_Unbalanced) "coin" = some none) (n_rest : PySem.W.findIn K (.ref C_Unbalanced) "rest" = some none) (n_told : PySem.W.findIn K (.ref C_Rates) "told" = some none) (n_known : PySem.W.findIn K (.ref C_Rates) "known" = some none) (a_divisor : PySem.W.nsIn K mainGlobals "divisor" = some (some (.ref f_divisor))) (l_divisor : K.lookup f_divisor = some ⟨oc_divisor, od_divisor, .func (PySem.W.fnOf "divisor" "divisor" (defArgs s_divisor) (defBody s_divisor) (defScope s_divisor) .none kV_divisor dc_divisor pm_divisor an_divisor cd_divisor ct_divisor), sl_divisor⟩) (c_divisor : PySem.W.codeIn K cd_divisor "divisor" = true) (k_divisor : PySem.W.keepIn K (.ref f_divisor) = true) (a_fraction : PySem.W.nsIn K mainGlobals "fraction" = some (some (.ref f_fraction))) (l_fraction : K.lookup f_fraction = some ⟨oc_fraction, od_fraction, .func (PySem.W.fnOf "fraction" "fraction" (defArgs s_fraction) (defBody s_fraction) (defScope s_fraction) (.ref T_fraction) kV_fraction dc_fraction pm_fraction an_fraction cd_fraction ct_fraction), sl_fraction⟩) (c_fraction : PySem.W.codeIn K cd_fraction "fraction" = true) (k_fraction : PySem.W.keepIn K (.ref f_fraction) = true) (lT_fraction : K.lookup T_fraction = some ⟨.type "tuple", odT_fraction, .seq #[.int 1 tkT_fraction] nT_fraction, slT_fraction⟩) (a_nearest : PySem.W.nsIn K mainGlobals "nearest" = some (some (.ref f_nearest))) (l_nearest : K.lookup f_nearest = some ⟨oc_nearest, od_nearest, .func (PySem.W.fnOf "nearest" "nearest" (defArgs s_nearest) (defBody s_nearest) (defScope s_nearest) (.ref T_nearest) kV_nearest dc_nearest pm_nearest an_nearest cd_nearest ct_nearest), sl_nearest⟩) (c_nearest : PySem.W.codeIn K cd_nearest "nearest" = true) (k_nearest : PySem.W.keepIn K (.ref f_nearest) = true) (lT_nearest : K.lookup T_nearest = some ⟨.type "tuple", odT_nearest, .seq #[.int 1 tkT_nearest] nT_nearest, slT_nearest⟩) (at_NoRate__init__ : PySem.W.findIn K (.ref C_NoRate) "__init__" = some (some (.ref f_NoRate__init__))) (fn_NoRate__init__ : PySem.W.isFn K (.ref f_NoRate__init__) = true) (l_NoRate__init__ : K.lookup f_NoRate__init__ = some ⟨oc_NoRate__init__, od_NoRate__init__, .func (PySem.W.fnOf "__init__" "NoRate.__init__" (defArgs s_NoRate__init__) (defBody s_NoRate__init__) (defScope s_NoRate__init__) .none kV_NoRate__init__ dc_NoRate__init__ pm_NoRate__init__ an_NoRate__init__ cd_NoRate__init__ ct_NoRate__init__), sl_NoRate__init__⟩) (c_NoRate__init__ : PySem.W.codeIn K cd_NoRate__init__ "NoRate.__init__" = true) (k_NoRate__init__ : PySem.W.keepIn K (.ref f_NoRate__init__) = true) (at_Unbalanced__init__ : PySem.W.findIn K (.ref C_Unbalanced) "__init__" = some (some (.ref f_Unbalanced__init__))) (fn_Unbalanced__init__ : PySem.W.isFn K (.ref f_Unbalanced__init__) = true) (l_Unbalanced__init__ : K.lookup f_Unbalanced__init__ = some ⟨oc_Unbalanced__init__, od_Unbalanced__init__, .func (PySem.W.fnOf "__init__" "Unbalanced.__init__" (defArgs s_Unbalanced__init__) (defBody s_Unbalanced__init__) (defScope s_Unbalanced__init__) .none kV_Unbalanced__init__ dc_Unbalanced__init__ pm_Unbalanced__init__ an_Unbalanced__init__ cd_Unbalanced__init__ ct_Unbalanced__init__), sl_Unbalanced__init__⟩) (c_Unbalanced__init__ : PySem.W.codeIn K cd_Unbalanced__init__ "Unbalanced.__init__" = true) (k_Unbalanced__init__ : PySem.W.keepIn K (.ref f_Unbalanced__init__) = true) (at_Rates_rate : PySem.W.findIn K (.ref C_Rates) "rate" = some (some (.ref f_Rates_rate))) (fn_Rates_rate : PySem.W.isFn K (.ref f_Rates_rate) = true) (l_Rates_rate : K.lookup f_Rates_rate = some ⟨oc_Rates_rate, od_Rates_rate, .func (PySem.W.fnOf "rate" "Rates.rate" (defArgs s_Rates_rate) (defBody s_Rates_rate) (defScope s_Rates_rate) .none kV_Rates_rate dc_Rates_rate pm_Rates_rate an_Rates_rate cd_Rates_rate ct_Rates_rate), sl_Rates_rate⟩) (c_Rates_rate : PySem.W.codeIn K cd_Rates_rate "Rates.rate" = true) (k_Rates_rate : PySem.W.keepIn K (.ref f_Rates_rate) = true) (at_Rates___init__ : PySem.W.findIn K (.ref C_Rates) "__init__" = some (some (.ref f_Rates___init__))) (fn_Rates___init__ : PySem.W.isFn K (.ref f_Rates___init__) = true) (l_Rates___init__ : K.lookup f_Rates___init__ = some ⟨oc_Rates___init__, od_Rates___init__, .func (PySem.W.fnOf "__init__" "Rates.__init__" (defArgs s_Rates___init__) (defBody s_Rates___init__) (defScope s_Rates___init__) (.ref T_Rates___init__) kV_Rates___init__ dc_Rates___init__ pm_Rates___init__ an_Rates___init__ cd_Rates___init__ ct_Rates___init__), sl_Rates___init__⟩) (c_Rates___init__ : PySem.W.codeIn K cd_Rates___init__ "Rates.__init__" = true) (k_Rates___init__ : PySem.W.keepIn K (.ref f_Rates___init__) = true) (lT_Rates___init__ : K.lookup T_Rates___init__ = some ⟨.type "tuple", odT_Rates___init__, .seq #[.str "one" tkT_Rates___init__] nT_Rates___init__, slT_Rates___init__⟩) (at_Rates_tell : PySem.W.findIn K (.ref C_Rates) "tell" = some (some (.ref f_Rates_tell))) (fn_Rates_tell : PySem.W.isFn K (.ref f_Rates_tell) = true) (l_Rates_tell : K.lookup f_Rates_tell = some ⟨oc_Rates_tell, od_Rates_tell, .func (PySem.W.fnOf "tell" "Rates.tell" (defArgs s_Rates_tell) (defBody s_Rates_tell) (defScope s_Rates_tell) (.ref T_Rates_tell) kV_Rates_tell dc_Rates_tell pm_Rates_tell an_Rates_tell cd_Rates_tell ct_Rates_tell), sl_Rates_tell⟩) (c_Rates_tell : PySem.W.codeIn K cd_Rates_tell "Rates.tell" = true) (k_Rates_tell : PySem.W.keepIn K (.ref f_Rates_tell) = true) (lT_Rates_tell : K.lookup T_Rates_tell = some ⟨.type "tuple", odT_Rates_tell, .seq #[.int 1 tkT_Rates_tell] nT_Rates_tell, slT_Rates_tell⟩) (at_Rates_worth : PySem.W.findIn K (.ref C_Rates) "worth" = some (some (.ref f_Rates_worth))) (fn_Rates_worth : PySem.W.isFn K (.ref f_Rates_worth) = true) (l_Rates_worth : K.lookup f_Rates_worth = some ⟨oc_Rates_worth, od_Rates_worth, .func (PySem.W.fnOf "worth" "Rates.worth" (defArgs s_Rates_worth) (defBody s_Rates_worth) (defScope s_Rates_worth) .none kV_Rates_worth dc_Rates_worth pm_Rates_worth an_Rates_worth cd_Rates_worth ct_Rates_worth), sl_Rates_worth⟩) (c_Rates_worth : PySem.W.codeIn K cd_Rates_worth "Rates.worth" = true) (k_Rates_worth : PySem.W.keepIn K (.ref f_Rates_worth) = true) (a_rests_of : PySem.W.nsIn K mainGlobals "rests_of" = some (some (.ref f_rests_of))) (l_rests_of : K.lookup f_rests_of = some ⟨oc_rests_of, od_rests_of, .func (PySem.W.fnOf "rests_of" "rests_of" (defArgs s_rests_of) (defBody s_rests_of) (defScope s_rests_of) .none kV_rests_of dc_rests_of pm_rests_of an_rests_of cd_rests_of ct_rests_of), sl_rests_of⟩) (c_rests_of : PySem.W.codeIn K cd_rests_of "rests_of" = true) (k_rests_of : PySem.W.keepIn K (.ref f_rests_of) = true) (a_half_rests : PySem.W.nsIn K mainGlobals "half_rests" = some (some (.ref f_half_rests))) (l_half_rests : K.lookup f_half_rests = some ⟨oc_half_rests, od_half_rests, .func (PySem.W.fnOf "half_rests" "half_rests" (defArgs s_half_rests) (defBody s_half_rests) (defScope s_half_rests) .none kV_half_rests dc_half_rests pm_half_rests an_half_rests cd_half_rests ct_half_rests), sl_half_rests⟩) (c_half_rests : PySem.W.codeIn K cd_half_rests "half_rests" = true) (k_half_rests : PySem.W.keepIn K (.ref f_half_rests) = true) (a_firms_in : PySem.W.nsIn K mainGlobals "firms_in" = some (some (.ref f_firms_in))) (l_firms_in : K.lookup f_firms_in = some ⟨oc_firms_in, od_firms_in, .func (PySem.W.fnOf "firms_in" "firms_in" (defArgs s_firms_in) (defBody s_firms_in) (defScope s_firms_in) .none kV_firms_in dc_firms_in pm_firms_in an_firms_in cd_firms_in ct_firms_in), sl_firms_in⟩) (c_firms_in : PySem.W.codeIn K cd_firms_in "firms_in" = true) (k_firms_in : PySem.W.keepIn K (.ref f_firms_in) = true) (a_dues_added : PySem.W.nsIn K mainGlobals "dues_added" = some (some (.ref f_dues_added))) (l_dues_added : K.lookup f_dues_added = some ⟨oc_dues_added, od_dues_added, .func (PySem.W.fnOf "dues_added" "dues_added" (defArgs s_dues_added) (defBody s_dues_added) (defScope s_dues_added) .none kV_dues_added dc_dues_added pm_dues_added an_dues_added cd_dues_added ct_dues_added), sl_dues_added⟩) (c_dues_added : PySem.W.codeIn K cd_dues_added "dues_added" = true) (k_dues_added : PySem.W.keepIn K (.ref f_dues_added) = true) (a_with_dues : PySem.W.nsIn K mainGlobals "with_dues" = some (some (.ref f_with_dues))) (l_with_dues : K.lookup f_with_dues = some ⟨oc_with_dues, od_with_dues, .func (PySem.W.fnOf "with_dues" "with_dues" (defArgs s_with_dues) (defBody s_with_dues) (defScope s_with_dues) .none kV_with_dues dc_with_dues pm_with_dues an_with_dues cd_with_dues ct_with_dues), sl_with_dues⟩) (c_with_dues : PySem.W.codeIn K cd_with_dues "with_dues" = true) (k_with_dues : PySem.W.keepIn K (.ref f_with_dues) = true) (a_lined_by : PySem.W.nsIn K mainGlobals "lined_by" = some (some (.ref f_lined_by))) (l_lined_by : K.lookup f_lined_by = some ⟨oc_lined_by, od_lined_by, .func (PySem.W.fnOf "lined_by" "lined_by" (defArgs s_lined_by) (defBody s_lined_by) (defScope s_lined_by) .none kV_lined_by dc_lined_by pm_lined_by an_lined_by cd_lined_by ct_lined_by), sl_lined_by⟩) (c_lined_by : PySem.W.codeIn K cd_lined_by "lined_by" = true) (k_lined_by : PySem.W.keepIn K (.ref f_lined_by) = true) (a_entry_lines : PySem.W.nsIn K mainGlobals "entry_lines" = some (some (.ref f_entry_lines))) (l_entry_lines : K.lookup f_entry_lines = some ⟨oc_entry_lines, od_entry_lines, .func (PySem.W.fnOf "entry_lines" "entry_lines" (defArgs s_entry_lines) (defBody s_entry_lines) (defScope s_entry_lines) .none kV_entry_lines dc_entry_lines pm_entry_lines an_entry_lines cd_entry_lines ct_entry_lines), sl_entry_lines⟩) (c_entry_lines : PySem.W.codeIn K cd_entry_lines "entry_lines" = true) (k_entry_lines : PySem.W.keepIn K (.ref f_entry_lines) = true) (a__law_cell_at : PySem.W.nsIn K mainGlobals "_law_cell_at" = some (some (.ref f__law_cell_at))) (l__law_cell_at : K.lookup f__law_cell_at = some ⟨oc__law_cell_at, od__law_cell_at, .func (PySem.W.fnOf "_law_cell_at" "_law_cell_at" (defArgs s__law_cell_at) (defBody s__law_cell_at) (defScope s__law_cell_at) .none kV__law_cell_at dc__law_cell_at pm__law_cell_at an__law_cell_at cd__law_cell_at ct__law_cell_at), sl__law_cell_at⟩) (c__law_cell_at : PySem.W.codeIn K cd__law_cell_at "_law_cell_at" = true) (k__law_cell_at : PySem.W.keepIn K (.ref f__law_cell_at) = true) (a__law_whole : PySem.W.nsIn K mainGlobals "_law_whole" = some (some (.ref f__law_whole))) (l__law_whole : K.lookup f__law_whole = some ⟨oc__law_whole, od__law_whole, .func (PySem.W.fnOf "_law_whole" "_law_whole" (defArgs s__law_whole) (defBody s__law_whole) (defScope s__law_whole) .none kV__law_whole dc__law_whole pm__law_whole an__law_whole cd__law_whole ct__law_whole), sl__law_whole⟩) (c__law_whole : PySem.W.codeIn K cd__law_whole "_law_whole" = true) (k__law_whole : PySem.W.keepIn K (.ref f__law_whole) = true) (a__law_mix : PySem.W.nsIn K mainGlobals "_law_mix" = some (some (.ref f__law_mix))) (l__law_mix : K.lookup f__law_mix = some ⟨oc__law_mix, od__law_mix, .func (PySem.W.fnOf "_law_mix" "_law_mix" (defArgs s__law_mix) (defBody s__law_mix) (defScope s__law_mix) .none kV__law_mix dc__law_mix pm__law_mix an__law_mix cd__law_mix ct__law_mix), sl__law_mix⟩) (c__law_mix : PySem.W.codeIn K cd__law_mix "_law_mix" = true) (k__law_mix : PySem.W.keepIn K (.ref f__law_mix) = true) (a__law_names : PySem.W.nsIn K mainGlobals "_law_names" = some (some (.ref f__law_names))) (l__law_names : K.lookup f__law_names = some ⟨oc__law_names, od__law_names, .func (PySem.W.fnOf "_law_names" "_law_names" (defArgs s__law_names) (defBody s__law_names) (defScope s__law_names) .none kV__law_names dc__law_names pm__law_names an__law_names cd__law_names ct__law_names), sl__law_names⟩) (c__law_names : PySem.W.codeIn K cd__law_names "_law_names" = true) (k__law_names : PySem.W.keepIn K (.ref f__law_names) = true) (a__law_coins : PySem.W.nsIn K mainGlobals "_law_coins" = some (some (.ref f__law_coins))) (l__law_coins : K.lookup f__law_coins = some ⟨oc__law_coins, od__law_coins, .func (PySem.W.fnOf "_law_coins" "_law_coins" (defArgs s__law_coins) (defBody s__law_coins) (defScope s__law_coins) .none kV__law_coins dc__law_coins pm__law_coins an__law_coins cd__law_coins ct__law_coins), sl__law_coins⟩) (c__law_coins : PySem.W.codeIn K cd__law_coins "_law_coins" = true) (k__law_coins : PySem.W.keepIn K (.ref f__law_coins) = true) (a__law_amount : PySem.W.nsIn K mainGlobals "_law_amount" = some (some (.ref f__law_amount))) (l__law_amount : K.lookup f__law_amount = some ⟨oc__law_amount, od__law_amount, .func (PySem.W.fnOf "_law_amount" "_law_amount" (defArgs s__law_amount) (defBody s__law_amount) (defScope s__law_amount) .none kV__law_amount dc__law_amount pm__law_amount an__law_amount cd__law_amount ct__law_amount), sl__law_amount⟩) (c__law_amount : PySem.W.codeIn K cd__law_amount "_law_amount" = true) (k__law_amount : PySem.W.keepIn K (.ref f__law_amount) = true) (a__law_side : PySem.W.nsIn K mainGlobals "_law_side" = some (some (.ref f__law_side))) (l__law_side : K.lookup f__law_side = some ⟨oc__law_side, od__law_side, .func (PySem.W.fnOf "_law_side" "_law_side" (defArgs s__law_side) (defBody s__law_side) (defScope s__law_side) .none kV__law_side dc__law_side pm__law_side an__law_side cd__law_side ct__law_side), sl__law_side⟩) (c__law_side : PySem.W.codeIn K cd__law_side "_law_side" = true) (k__law_side : PySem.W.keepIn K (.ref f__law_side) = true) (a__law_sides : PySem.W.nsIn K mainGlobals "_law_sides" = some (some (.ref f__law_sides))) (l__law_sides : K.lookup f__law_sides = some ⟨oc__law_sides, od__law_sides, .func (PySem.W.fnOf "_law_sides" "_law_sides" (defArgs s__law_sides) (defBody s__law_sides) (defScope s__law_sides) .none kV__law_sides dc__law_sides pm__law_sides an__law_sides cd__law_sides ct__law_sides), sl__law_sides⟩) (c__law_sides : PySem.W.codeIn K cd__law_sides "_law_sides" = true) (k__law_sides : PySem.W.keepIn K (.ref f__law_sides) = true) (a__law_closed : PySem.W.nsIn K mainGlobals "_law_closed" = some (some (.ref f__law_closed))) (l__law_closed : K.lookup f__law_closed = some ⟨oc__law_closed, od__law_closed, .func (PySem.W.fnOf "_law_closed" "_law_closed" (defArgs s__law_closed) (defBody s__law_closed) (defScope s__law_closed) .none kV__law_closed dc__law_closed pm__law_closed an__law_closed cd__law_closed ct__law_closed), sl__law_closed⟩) (c__law_closed : PySem.W.codeIn K cd__law_closed "_law_closed" = true) (k__law_closed : PySem.W.keepIn K (.ref f__law_closed) = true) (a__law_firms : PySem.W.nsIn K mainGlobals "_law_firms" = some (some (.ref f__law_firms))) (l__law_firms : K.lookup f__law_firms = some ⟨oc__law_firms, od__law_firms, .func (PySem.W.fnOf "_law_firms" "_law_firms" (defArgs s__law_firms) (defBody s__law_firms) (defScope s__law_firms) .none kV__law_firms dc__law_firms pm__law_firms an__law_firms cd__law_firms ct__law_firms), sl__law_firms⟩) (c__law_firms : PySem.W.codeIn K cd__law_firms "_law_firms" = true) (k__law_firms : PySem.W.keepIn K (.ref f__law_firms) = true) (a__law_rate : PySem.W.nsIn K mainGlobals "_law_rate" = some (some (.ref f__law_rate))) (l__law_rate : K.lookup f__law_rate = some ⟨oc__law_rate, od__law_rate, .func (PySem.W.fnOf "_law_rate" "_law_rate" (defArgs s__law_rate) (defBody s__law_rate) (defScope s__law_rate) .none kV__law_rate dc__law_rate pm__law_rate an__law_rate cd__law_rate ct__law_rate), sl__law_rate⟩) (c__law_rate : PySem.W.codeIn K cd__law_rate "_law_rate" = true) (k__law_rate : PySem.W.keepIn K (.ref f__law_rate) = true) (a__law_table : PySem.W.nsIn K mainGlobals "_law_table" = some (some (.ref f__law_table))) (l__law_table : K.lookup f__law_table = some ⟨oc__law_table, od__law_table, .func (PySem.W.fnOf "_law_table" "_law_table" (defArgs s__law_table) (defBody s__law_table) (defScope s__law_table) .none kV__law_table dc__law_table pm__law_table an__law_table cd__law_table ct__law_table), sl__law_table⟩) (c__law_table : PySem.W.codeIn K cd__law_table "_law_table" = true) (k__law_table : PySem.W.keepIn K (.ref f__law_table) = true) (a__law_told_coin : PySem.W.nsIn K mainGlobals "_law_told_coin" = some (some (.ref f__law_told_coin))) (l__law_told_coin : K.lookup f__law_told_coin = some ⟨oc__law_told_coin, od__law_told_coin, .func (PySem.W.fnOf "_law_told_coin" "_law_told_coin" (defArgs s__law_told_coin) (defBody s__law_told_coin) (defScope s__law_told_coin) .none kV__law_told_coin dc__law_told_coin pm__law_told_coin an__law_told_coin cd__law_told_coin ct__law_told_coin), sl__law_told_coin⟩) (c__law_told_coin : PySem.W.codeIn K cd__law_told_coin "_law_told_coin" = true) (k__law_told_coin : PySem.W.keepIn K (.ref f__law_told_coin) = true) (a__law_rates : PySem.W.nsIn K mainGlobals "_law_rates" = some (some (.ref f__law_rates))) (l__law_rates : K.lookup f__law_rates = some ⟨oc__law_rates, od__law_rates, .func (PySem.W.fnOf "_law_rates" "_law_rates" (defArgs s__law_rates) (defBody s__law_rates) (defScope s__law_rates) .none kV__law_rates dc__law_rates pm__law_rates an__law_rates cd__law_rates ct__law_rates), sl__law_rates⟩) (c__law_rates : PySem.W.codeIn K cd__law_rates "_law_rates" = true) (k__law_rates : PySem.W.keepIn K (.ref f__law_rates) = true) (a__law_worth : PySem.W.nsIn K mainGlobals "_law_worth" = some (some (.ref f__law_worth))) (l__law_worth : K.lookup f__law_worth = some ⟨oc__law_worth, od__law_worth, .func (PySem.W.fnOf "_law_worth" "_law_worth" (defArgs s__law_worth) (defBody s__law_worth) (defScope s__law_worth) .none kV__law_worth dc__law_worth pm__law_worth an__law_worth cd__law_worth ct__law_worth), sl__law_worth⟩) (c__law_worth : PySem.W.codeIn K cd__law_worth "_law_worth" = true) (k__law_worth : PySem.W.keepIn K (.ref f__law_worth) = true) (a__law_dues : PySem.W.nsIn K mainGlobals "_law_dues" = some (some (.ref f__law_dues))) (l__law_dues : K.lookup f__law_dues = some ⟨oc__law_dues, od__law_dues, .func (PySem.W.fnOf "_law_dues" "_law_dues" (defArgs s__law_dues) (defBody s__law_dues) (defScope s__law_dues) .none kV__law_dues dc__law_dues pm__law_dues an__law_dues cd__law_dues ct__law_dues), sl__law_dues⟩) (c__law_dues : PySem.W.codeIn K cd__law_dues "_law_dues" = true) (k__law_dues : PySem.W.keepIn K (.ref f__law_dues) = true) (a__law_lines : PySem.W.nsIn K mainGlobals "_law_lines" = some (some (.ref f__law_lines))) (l__law_lines : K.lookup f__law_lines = some ⟨oc__law_lines, od__law_lines, .func (PySem.W.fnOf "_law_lines" "_law_lines" (defArgs s__law_lines) (defBody s__law_lines) (defScope s__law_lines) .none kV__law_lines dc__law_lines pm__law_lines an__law_lines cd__law_lines ct__law_lines), sl__law_lines⟩) (c__law_lines : PySem.W.codeIn K cd__law_lines "_law_lines" = true) (k__law_lines : PySem.W.keepIn K (.ref f__law_lines) = true) (a__law_told : PySem.W.nsIn K mainGlobals "_law_told" = some (some (.ref f__law_told))) (l__law_told : K.lookup f__law_told = some ⟨oc__law_told, od__law_told, .func (PySem.W.fnOf "_law_told" "_law_told" (defArgs s__law_told) (defBody s__law_told) (defScope s__law_told) .none kV__law_told dc__law_told pm__law_told an__law_told cd__law_told ct__law_told), sl__law_told⟩) (c__law_told : PySem.W.codeIn K cd__law_told "_law_told" = true) (k__law_told : PySem.W.keepIn K (.ref f__law_told) = true) (a__law_lacking : PySem.W.nsIn K mainGlobals "_law_lacking" = some (some (.ref f__law_lacking))) (l__law_lacking : K.lookup f__law_lacking = some ⟨oc__law_lacking, od__law_lacking, .func (PySem.W.fnOf "_law_lacking" "_law_lacking" (defArgs s__law_lacking) (defBody s__law_lacking) (defScope s__law_lacking) .none kV__law_lacking dc__law_lacking pm__law_lacking an__law_lacking cd__law_lacking ct__law_lacking), sl__law_lacking⟩) (c__law_lacking : PySem.W.codeIn K cd__law_lacking "_law_lacking" = true) (k__law_lacking : PySem.W.keepIn K (.ref f__law_lacking) = true) (a__law_open : PySem.W.nsIn K mainGlobals "_law_open" = some (some (.ref f__law_open))) (l__law_open : K.lookup f__law_open = some ⟨oc__law_open, od__law_open, .func (PySem.W.fnOf "_law_open" "_law_open" (defArgs s__law_open) (defBody s__law_open) (defScope s__law_open) .none kV__law_open dc__law_open pm__law_open an__law_open cd__law_open ct__law_open), sl__law_open⟩) (c__law_open : PySem.W.codeIn K cd__law_open "_law_open" = true) (k__law_open : PySem.W.keepIn K (.ref f__law_open) = true) (a__law_refused : PySem.W.nsIn K mainGlobals "_law_refused" = some (some (.ref f__law_refused))) (l__law_refused : K.lookup f__law_refused = some ⟨oc__law_refused, od__law_refused, .func (PySem.W.fnOf "_law_refused" "_law_refused" (defArgs s__law_refused) (defBody s__law_refused) (defScope s__law_refused) .none kV__law_refused dc__law_refused pm__law_refused an__law_refused cd__law_refused ct__law_refused), sl__law_refused⟩) (c__law_refused : PySem.W.codeIn K cd__law_refused "_law_refused" = true) (k__law_refused : PySem.W.keepIn K (.ref f__law_refused) = true) (a__law_few : PySem.W.nsIn K mainGlobals "_law_few" = some (some (.ref f__law_few))) (l__law_few : K.lookup f__law_few = some ⟨oc__law_few, od__law_few, .func (PySem.W.fnOf "_law_few" "_law_few" (defArgs s__law_few) (defBody s__law_few) (defScope s__law_few) .none kV__law_few dc__law_few pm__law_few an__law_few cd__law_few ct__law_few), sl__law_few⟩) (c__law_few : PySem.W.codeIn K cd__law_few "_law_few" = true) (k__law_few : PySem.W.keepIn K (.ref f__law_few) = true) (a__law_first : PySem.W.nsIn K mainGlobals "_law_first" = some (some (.ref f__law_first))) (l__law_first : K.lookup f__law_first = some ⟨oc__law_first, od__law_first, .func (PySem.W.fnOf "_law_first" "_law_first" (defArgs s__law_first) (defBody s__law_first) (defScope s__law_first) .none kV__law_first dc__law_first pm__law_first an__law_first cd__law_first ct__law_first), sl__law_first⟩) (c__law_first : PySem.W.codeIn K cd__law_first "_law_first" = true) (k__law_first : PySem.W.keepIn K (.ref f__law_first) = true) (a__law_lacks : PySem.W.nsIn K mainGlobals "_law_lacks" = some (some (.ref f__law_lacks))) (l__law_lacks : K.lookup f__law_lacks = some ⟨oc__law_lacks, od__law_lacks, .func (PySem.W.fnOf "_law_lacks" "_law_lacks" (defArgs s__law_lacks) (defBody s__law_lacks) (defScope s__law_lacks) .none kV__law_lacks dc__law_lacks pm__law_lacks an__law_lacks cd__law_lacks ct__law_lacks), sl__law_lacks⟩) (c__law_lacks : PySem.W.codeIn K cd__law_lacks "_law_lacks" = true) (k__law_lacks : PySem.W.keepIn K (.ref f__law_lacks) = true) (a__law_tell : PySem.W.nsIn K mainGlobals "_law_tell" = some (some (.ref f__law_tell))) (l__law_tell : K.lookup f__law_tell = some ⟨oc__law_tell, od__law_tell, .func (PySem.W.fnOf "_law_tell" "_law_tell" (defArgs s__law_tell) (defBody s__law_tell) (defScope s__law_tell) .none kV__law_tell dc__law_tell pm__law_tell an__law_tell cd__law_tell ct__law_tell), sl__law_tell⟩) (c__law_tell : PySem.W.codeIn K cd__law_tell "_law_tell" = true) (k__law_tell : PySem.W.keepIn K (.ref f__law_tell) = true) (a_law : PySem.W.nsIn K mainGlobals "law" = some (some (.ref f_law))) (l_law : K.lookup f_law = some ⟨oc_law, od_law, .func (PySem.W.fnOf "law" "law" (defArgs s_law) (defBody s_law) (defScope s_law) .none kV_law dc_law pm_law an_law cd_law ct_law), sl_law⟩) (c_law : PySem.W.codeIn K cd_law "law" = true) (k_law : PySem.W.keepIn K (.ref f_law) = true) :
   ∃ fd : FuncData, (∀ (s : Shared) (v : Value), BindsTo s fd ⟨[v], []⟩ [("_law_script", v)]) ∧ ∀ base : Heap, K.In base → base.Ns mainGlobals mg → FnOk l.prog w K mg base CX0 true 9 fa fd ["_law_script"] (spLaw K) := by
 have e := hfa.symm.trans (PySem.W.mg_of X G a_law)
 cases e
 have m_BooksError := PySem.W.mg_of X G a_BooksError
 have m_NoNumber := PySem.W.mg_of X G a_NoNumber
 have m_NoRate := PySem.W.mg_of X G a_NoRate
 have m_Rates := PySem.W.mg_of X G a_Rates
 have m_Unbalanced := PySem.W.mg_of X G a_Unbalanced
 have X_NoNumber : XCls K C_NoNumber := ⟨xs_NoNumber, xga_NoNumber, xgh_NoNumber, xsa_NoNumber, xcl_NoNumber⟩
 have X_NoRate : XCls K C_NoRate := ⟨xs_NoRate, xga_NoRate, xgh_NoRate, xsa_NoRate, xcl_NoRate⟩
 have X_Unbalanced : XCls K C_Unbalanced := ⟨xs_Unbalanced, xga_Unbalanced, xgh_Unbalanced, xsa_Unbalanced, xcl_Unbalanced⟩
 have z_abs := PySem.W.mg_none_of X G nz_abs
 have z_len := PySem.W.mg_none_of X G nz_len
 have z_max := PySem.W.mg_none_of X G nz_max
 have z_list := PySem.W.mg_none_of X G nz_list
 have z_dict := PySem.W.mg_none_of X G nz_dict
 have z_isinstance := PySem.W.mg_none_of X G nz_isinstance
 have z_int := PySem.W.mg_none_of X G nz_int
 have z_bool := PySem.W.mg_none_of X G nz_bool
 have z_range := PySem.W.mg_none_of X G nz_range
 have z_sum := PySem.W.mg_none_of X G nz_sum
 have z_tuple := PySem.W.mg_none_of X G nz_tuple
 have z_str := PySem.W.mg_none_of X G nz_str
 have cl_Rates : Cls K C_Rates := ⟨pg_Rates, hd_Rates, po_Rates, sa_Rates⟩
 refine ⟨PySem.W.fnOf "law" "law" (defArgs s_law) (defBody s_law) (defScope s_law) .none kV_law dc_law pm_law an_law cd_law ct_law, fun s v => .of_eq rfl, fun base _ _ => ?_⟩
 have q_divisor := ok_divisor (P := l.prog) (w := w) (base := base) (cm := true) ⟨f_divisor, _, funD_mk (st := s_divisor) l_divisor c_divisor k_divisor, PySem.W.mg_of X G a_divisor⟩ z_abs
 have q_fraction := ok_fraction (P := l.prog) (w := w) (base := base) ⟨f_fraction, _, funD_mk (st := s_fraction) l_fraction c_fraction k_fraction, PySem.W.mg_of X G a_fraction⟩ lT_fraction q_divisor m_NoNumber X_NoNumber i_NoNumber
 have q_nearest := ok_nearest (P := l.prog) (w := w) (base := base) ⟨f_nearest, _, funD_mk (st := s_nearest) l_nearest c_nearest k_nearest, PySem.W.mg_of X G a_nearest⟩ lT_nearest z_abs m_NoNumber X_NoNumber i_NoNumber
 have q_NoRate__init__ := ok_NoRate__init__ (P := l.prog) (w := w) (mg := mg) (base := base) X_NoRate n_rcoin n_rday ⟨f_NoRate__init__, _, funD_mk (st := s_NoRate__init__) l_NoRate__init__ c_NoRate__init__ k_NoRate__init__, at_NoRate__init__, fn_NoRate__init__⟩
 have q_Unbalanced__init__ := ok_Unbalanced__init__ (P := l.prog) (w := w) (mg := mg) (base := base) X_Unbalanced n_book n_coin n_rest ⟨f_Unbalanced__init__, _, funD_mk (st := s_Unbalanced__init__) l_Unbalanced__init__ c_Unbalanced__init__ k_Unbalanced__init__, at_Unbalanced__init__, fn_Unbalanced__init__⟩
 have q_Rates_rate := ok_Rates_rate (P := l.prog) (w := w) (mg := mg) (base := base) ⟨f_Rates_rate, _, funD_mk (st := s_Rates_rate) l_Rates_rate c_Rates_rate k_Rates_rate, ⟨at_Rates_rate, fn_Rates_rate, k_Rates_rate⟩⟩ q_fraction q_NoRate__init__ z_len z_max m_NoRate X_NoRate cl_Rates n_told n_known
 have q_Rates___init__ := ok_Rates___init__ (P := l.prog) (w := w) (mg := mg) (base := base) (cm := true) ⟨f_Rates___init__, _, funD_mk (st := s_Rates___init__) l_Rates___init__ c_Rates___init__ k_Rates___init__, ⟨mk_Rates, at_Rates___init__, fn_Rates___init__, kc_Rates⟩⟩ lT_Rates___init__ cl_Rates n_told n_known
 have q_Rates_tell := ok_Rates_tell (P := l.prog) (w := w) (mg := mg) (base := base) ⟨f_Rates_tell, _, funD_mk (st := s_Rates_tell) l_Rates_tell c_Rates_tell k_Rates_tell, ⟨at_Rates_tell, fn_Rates_tell, k_Rates_tell⟩⟩ lT_Rates_tell q_fraction cl_Rates n_told n_known
 have q_Rates_worth := ok_Rates_worth (P := l.prog) (w := w) (mg := mg) (base := base) ⟨f_Rates_worth, _, funD_mk (st := s_Rates_worth) l_Rates_worth c_Rates_worth k_Rates_worth, ⟨at_Rates_worth, fn_Rates_worth, k_Rates_worth⟩⟩ q_Rates_rate q_nearest cl_Rates n_told n_known
 have q_rests_of := ok_rests_of (P := l.prog) (w := w) (base := base) ⟨f_rests_of, _, funD_mk (st := s_rests_of) l_rests_of c_rests_of k_rests_of, PySem.W.mg_of X G a_rests_of⟩ z_list
 have q_half_rests := ok_half_rests (P := l.prog) (w := w) (base := base) ⟨f_half_rests, _, funD_mk (st := s_half_rests) l_half_rests c_half_rests k_half_rests, PySem.W.mg_of X G a_half_rests⟩
 have q_firms_in := ok_firms_in (P := l.prog) (w := w) (base := base) ⟨f_firms_in, _, funD_mk (st := s_firms_in) l_firms_in c_firms_in k_firms_in, PySem.W.mg_of X G a_firms_in⟩ z_list z_dict
 have q_dues_added := ok_dues_added (P := l.prog) (w := w) (base := base) ⟨f_dues_added, _, funD_mk (st := s_dues_added) l_dues_added c_dues_added k_dues_added, PySem.W.mg_of X G a_dues_added⟩ q_firms_in q_half_rests
 have q_with_dues := ok_with_dues (P := l.prog) (w := w) (base := base) ⟨f_with_dues, _, funD_mk (st := s_with_dues) l_with_dues c_with_dues k_with_dues, PySem.W.mg_of X G a_with_dues⟩ q_rests_of q_Unbalanced__init__ q_dues_added z_list m_Unbalanced X_Unbalanced
 have q_lined_by := ok_lined_by (P := l.prog) (w := w) (base := base) ⟨f_lined_by, _, funD_mk (st := s_lined_by) l_lined_by c_lined_by k_lined_by, PySem.W.mg_of X G a_lined_by⟩ q_Rates_worth cl_Rates n_told
 have q_entry_lines := ok_entry_lines (P := l.prog) (w := w) (base := base) ⟨f_entry_lines, _, funD_mk (st := s_entry_lines) l_entry_lines c_entry_lines k_entry_lines, PySem.W.mg_of X G a_entry_lines⟩ q_lined_by q_with_dues
 have q__law_cell_at := ok__law_cell_at (P := l.prog) (w := w) (base := base) (cm := true) ⟨f__law_cell_at, _, funD_mk (st := s__law_cell_at) l__law_cell_at c__law_cell_at k__law_cell_at, PySem.W.mg_of X G a__law_cell_at⟩ z_len
 have q__law_whole := ok__law_whole (P := l.prog) (w := w) (base := base) (cm := true) ⟨f__law_whole, _, funD_mk (st := s__law_whole) l__law_whole c__law_whole k__law_whole, PySem.W.mg_of X G a__law_whole⟩ z_isinstance z_int z_bool q_ib
 have q__law_mix := ok__law_mix (P := l.prog) (w := w) (base := base) (cm := true) ⟨f__law_mix, _, funD_mk (st := s__law_mix) l__law_mix c__law_mix k__law_mix, PySem.W.mg_of X G a__law_mix⟩
 have q__law_names := ok__law_names (P := l.prog) (w := w) (base := base) ⟨f__law_names, _, funD_mk (st := s__law_names) l__law_names c__law_names k__law_names, PySem.W.mg_of X G a__law_names⟩ z_range z_int
 have q__law_coins := ok__law_coins (P := l.prog) (w := w) (base := base) ⟨f__law_coins, _, funD_mk (st := s__law_coins) l__law_coins c__law_coins k__law_coins, PySem.W.mg_of X G a__law_coins⟩ q__law_names
 have q__law_amount := ok__law_amount (P := l.prog) (w := w) (base := base) (cm := true) ⟨f__law_amount, _, funD_mk (st := s__law_amount) l__law_amount c__law_amount k__law_amount, PySem.W.mg_of X G a__law_amount⟩
 have q__law_side := ok__law_side (P := l.prog) (w := w) (base := base) (cm := true) ⟨f__law_side, _, funD_mk (st := s__law_side) l__law_side c__law_side k__law_side, PySem.W.mg_of X G a__law_side⟩ q__law_mix z_len
 have q__law_sides := ok__law_sides (P := l.prog) (w := w) (base := base) ⟨f__law_sides, _, funD_mk (st := s__law_sides) l__law_sides c__law_sides k__law_sides, PySem.W.mg_of X G a__law_sides⟩ q__law_side q__law_amount q__law_cell_at q__law_mix z_range z_len z_int
 have q__law_closed := ok__law_closed (P := l.prog) (w := w) (base := base) ⟨f__law_closed, _, funD_mk (st := s__law_closed) l__law_closed c__law_closed k__law_closed, PySem.W.mg_of X G a__law_closed⟩ q__law_mix z_list z_range z_sum z_len
 have q__law_firms := ok__law_firms (P := l.prog) (w := w) (base := base) ⟨f__law_firms, _, funD_mk (st := s__law_firms) l__law_firms c__law_firms k__law_firms, PySem.W.mg_of X G a__law_firms⟩ q__law_cell_at q__law_names q__law_mix
 have q__law_rate := ok__law_rate (P := l.prog) (w := w) (base := base) (cm := true) ⟨f__law_rate, _, funD_mk (st := s__law_rate) l__law_rate c__law_rate k__law_rate, PySem.W.mg_of X G a__law_rate⟩
 have q__law_table := ok__law_table (P := l.prog) (w := w) (base := base) ⟨f__law_table, _, funD_mk (st := s__law_table) l__law_table c__law_table k__law_table, PySem.W.mg_of X G a__law_table⟩ q__law_cell_at q__law_rate z_range z_len
 have q__law_told_coin := ok__law_told_coin (P := l.prog) (w := w) (base := base) (cm := true) ⟨f__law_told_coin, _, funD_mk (st := s__law_told_coin) l__law_told_coin c__law_told_coin k__law_told_coin, PySem.W.mg_of X G a__law_told_coin⟩
 have q__law_rates := ok__law_rates (P := l.prog) (w := w) (base := base) ⟨f__law_rates, _, funD_mk (st := s__law_rates) l__law_rates c__law_rates k__law_rates, PySem.W.mg_of X G a__law_rates⟩ q_Rates___init__ m_Rates
 have q__law_worth := ok__law_worth (P := l.prog) (w := w) (base := base) (cm := true) ⟨f__law_worth, _, funD_mk (st := s__law_worth) l__law_worth c__law_worth k__law_worth, PySem.W.mg_of X G a__law_worth⟩ z_abs
 have q__law_dues := ok__law_dues (P := l.prog) (w := w) (base := base) ⟨f__law_dues, _, funD_mk (st := s__law_dues) l__law_dues c__law_dues k__law_dues, PySem.W.mg_of X G a__law_dues⟩ z_sum
 have q__law_lines := ok__law_lines (P := l.prog) (w := w) (base := base) ⟨f__law_lines, _, funD_mk (st := s__law_lines) l__law_lines c__law_lines k__law_lines, PySem.W.mg_of X G a__law_lines⟩ q__law_worth z_sum
 have q__law_told := ok__law_told (P := l.prog) (w := w) (base := base) ⟨f__law_told, _, funD_mk (st := s__law_told) l__law_told c__law_told k__law_told, PySem.W.mg_of X G a__law_told⟩ q__law_whole z_isinstance z_list z_len z_tuple z_str
 have q__law_lacking := ok__law_lacking (P := l.prog) (w := w) (base := base) ⟨f__law_lacking, _, funD_mk (st := s__law_lacking) l__law_lacking c__law_lacking k__law_lacking, PySem.W.mg_of X G a__law_lacking⟩
 have q__law_open := ok__law_open (P := l.prog) (w := w) (base := base) ⟨f__law_open, _, funD_mk (st := s__law_open) l__law_open c__law_open k__law_open, PySem.W.mg_of X G a__law_open⟩ z_sum
 have q__law_refused := ok__law_refused (P := l.prog) (w := w) (base := base) ⟨f__law_refused, _, funD_mk (st := s__law_refused) l__law_refused c__law_refused k__law_refused, PySem.W.mg_of X G a__law_refused⟩ q_entry_lines q_lined_by z_isinstance m_NoRate m_BooksError m_Unbalanced X_NoRate X_Unbalanced n_rcoin n_rday q_nn q_un q_ub q_uu
 have q__law_few := ok__law_few (P := l.prog) (w := w) (base := base) ⟨f__law_few, _, funD_mk (st := s__law_few) l__law_few c__law_few k__law_few, PySem.W.mg_of X G a__law_few⟩ z_len z_abs
 have q__law_first := ok__law_first (P := l.prog) (w := w) (base := base) ⟨f__law_first, _, funD_mk (st := s__law_first) l__law_first c__law_first k__law_first, PySem.W.mg_of X G a__law_first⟩ q__law_lacking q__law_refused q__law_open z_list
 have q__law_lacks := ok__law_lacks (P := l.prog) (w := w) (base := base) ⟨f__law_lacks, _, funD_mk (st := s__law_lacks) l__law_lacks c__law_lacks k__law_lacks, PySem.W.mg_of X G a__law_lacks⟩ z_range
 have q__law_tell := ok__law_tell (P := l.prog) (w := w) (base := base) ⟨f__law_tell, _, funD_mk (st := s__law_tell) l__law_tell c__law_tell k__law_tell, PySem.W.mg_of X G a__law_tell⟩ q_Rates_tell z_max cl_Rates
 exact ok_law (P := l.prog) (w := w) (base := base) (funD_mk (st := s_law) l_law c_law k_law) q__law_firms q__law_names q__law_mix q__law_cell_at q__law_coins q__law_told_coin q__law_table q__law_lacks q__law_rates q__law_tell q__law_sides q__law_closed q__law_first q_Rates_tell q_lined_by q__law_lines q__law_told q_entry_lines q__law_dues q__law_few z_list cl_Rates
theorem walk {l : PySem.W.OpenLaw} {q : Program} {loose : List Str} {XP : (Str → Option Value) → Heap → Prop} {YP : World → Heap → Prop} {d : DefRec} {K : Params → PySem.W.Frag} (hn : l.most = some 63) (hdf : d.params.defaults = [])
   (hY : ∀ (w : World) (h : Heap), YP w h → (K w.params).In h)
   (F : ∀ (w : World) (mg : Str → Option Value) (fa : Addr) (h : Heap), (K w.params).In h → h.Ns mainGlobals mg → mg d.name = some (.ref fa) →
     ∃ fd : FuncData, (∀ (s : Shared) (u : Value), BindsTo s fd ⟨[u], []⟩ [("_law_script", u)]) ∧ ∀ base : Heap, (K w.params).In base → base.Ns mainGlobals mg → FnOk l.prog w (K w.params) mg base CX0 true 9 fa fd ["_law_script"] (spLaw (K w.params))) :
   PySem.W.WalkO q loose XP YP l.row.toRowW d [] (fun f vs => PySem.call f vs) :=
 L2.walk_ofB (n := 63) (k := 9) (x := "_law_script") (CX := fun _ => CX0) (sp := fun w => spLaw (K w.params)) hn (by decide) hdf ⟨fun _ => rfl, by decide, by decide⟩ hY F (fun _ _ a ns hl hb _ hS => ⟨a, ns, rfl, hS, hl, hb, fun _ => rfl⟩) fun _ _ _ _ _ z => z
end K24
open PySem PySem.W PyProof.Rows
set_option maxRecDepth 100000 in
set_option maxHeartbeats 0 in
theorem PySem.Challenge.cw_groupbooks_k24_lines_holds : PySem.Challenge.rw_groupbooks_k24_lines.Holds := by
 refine K24.headTop ?_
 k_fill
 refine K24.walk (l := PySem.Challenge.rw_groupbooks_k24_lines) rfl rfl (fun w h Y => PySem.W.kIn_of Y) ?F
 case F =>
   intro w mg fa h KX G hmg
   refine' K24.all_mk KX G hmg ?a_BooksError ?a_NoNumber ?a_NoRate ?a_Rates ?a_Unbalanced ?xs_NoNumber ?xga_NoNumber ?xgh_NoNumber ?xsa_NoNumber ?xcl_NoNumber ?xs_NoRate ?xga_NoRate ?xgh_NoRate ?xsa_NoRate ?xcl_NoRate ?xs_Unbalanced ?xga_Unbalanced ?xgh_Unbalanced ?xsa_Unbalanced ?xcl_Unbalanced ?i_NoNumber ?nz_abs ?nz_len ?nz_max ?nz_list ?nz_dict ?nz_isinstance ?nz_int ?nz_bool ?nz_range ?nz_sum ?nz_tuple ?nz_str ?q_ib ?q_nn ?q_un ?q_ub ?q_uu ?pg_Rates ?hd_Rates ?po_Rates ?sa_Rates ?mk_Rates ?kc_Rates ?n_rcoin ?n_rday ?n_book ?n_coin ?n_rest ?n_told ?n_known ?a_divisor ?l_divisor ?c_divisor ?k_divisor ?a_fraction ?l_fraction ?c_fraction ?k_fraction ?lT_fraction ?a_nearest ?l_nearest ?c_nearest ?k_nearest ?lT_nearest ?at_NoRate__init__ ?fn_NoRate__init__ ?l_NoRate__init__ ?c_NoRate__init__ ?k_NoRate__init__ ?at_Unbalanced__init__ ?fn_Unbalanced__init__ ?l_Unbalanced__init__ ?c_Unbalanced__init__ ?k_Unbalanced__init__ ?at_Rates_rate ?fn_Rates_rate ?l_Rates_rate ?c_Rates_rate ?k_Rates_rate ?at_Rates___init__ ?fn_Rates___init__ ?l_Rates___init__ ?c_Rates___init__ ?k_Rates___init__ ?lT_Rates___init__ ?at_Rates_tell ?fn_Rates_tell ?l_Rates_tell ?c_Rates_tell ?k_Rates_tell ?lT_Rates_tell ?at_Rates_worth ?fn_Rates_worth ?l_Rates_worth ?c_Rates_worth ?k_Rates_worth ?a_rests_of ?l_rests_of ?c_rests_of ?k_rests_of ?a_half_rests ?l_half_rests ?c_half_rests ?k_half_rests ?a_firms_in ?l_firms_in ?c_firms_in ?k_firms_in ?a_dues_added ?l_dues_added ?c_dues_added ?k_dues_added ?a_with_dues ?l_with_dues ?c_with_dues ?k_with_dues ?a_lined_by ?l_lined_by ?c_lined_by ?k_lined_by ?a_entry_lines ?l_entry_lines ?c_entry_lines ?k_entry_lines ?a__law_cell_at ?l__law_cell_at ?c__law_cell_at ?k__law_cell_at ?a__law_whole ?l__law_whole ?c__law_whole ?k__law_whole ?a__law_mix ?l__law_mix ?c__law_mix ?k__law_mix ?a__law_names ?l__law_names ?c__law_names ?k__law_names ?a__law_coins ?l__law_coins ?c__law_coins ?k__law_coins ?a__law_amount ?l__law_amount ?c__law_amount ?k__law_amount ?a__law_side ?l__law_side ?c__law_side ?k__law_side ?a__law_sides ?l__law_sides ?c__law_sides ?k__law_sides ?a__law_closed ?l__law_closed ?c__law_closed ?k__law_closed ?a__law_firms ?l__law_firms ?c__law_firms ?k__law_firms ?a__law_rate ?l__law_rate ?c__law_rate ?k__law_rate ?a__law_table ?l__law_table ?c__law_table ?k__law_table ?a__law_told_coin ?l__law_told_coin ?c__law_told_coin ?k__law_told_coin ?a__law_rates ?l__law_rates ?c__law_rates ?k__law_rates ?a__law_worth ?l__law_worth ?c__law_worth ?k__law_worth ?a__law_dues ?l__law_dues ?c__law_dues ?k__law_dues ?a__law_lines ?l__law_lines ?c__law_lines ?k__law_lines ?a__law_told ?l__law_told ?c__law_told ?k__law_told ?a__law_lacking ?l__law_lacking ?c__law_lacking ?k__law_lacking ?a__law_open ?l__law_open ?c__law_open ?k__law_open ?a__law_refused ?l__law_refused ?c__law_refused ?k__law_refused ?a__law_few ?l__law_few ?c__law_few ?k__law_few ?a__law_first ?l__law_first ?c__law_first ?k__law_first ?a__law_lacks ?l__law_lacks ?c__law_lacks ?k__law_lacks ?a__law_tell ?l__law_tell ?c__law_tell ?k__law_tell ?a_law ?l_law ?c_law ?k_law
   (case a_BooksError => k_is)
   (case a_NoNumber => k_is)
   (case a_NoRate => k_is)
   (case a_Rates => k_is)
   (case a_Unbalanced => k_is)
   (case xga_NoNumber => k_is)
   (case xgh_NoNumber => k_is)
   (case xsa_NoNumber => k_is)
   (case xcl_NoNumber => k_is)
   (case xga_NoRate => k_is)
   (case xgh_NoRate => k_is)
   (case xsa_NoRate => k_is)
   (case xcl_NoRate => k_is)
   (case xga_Unbalanced => k_is)
   (case xgh_Unbalanced => k_is)
   (case xsa_Unbalanced => k_is)
   (case xcl_Unbalanced => k_is)
   (case i_NoNumber => k_is)
   (case nz_abs => k_is)
   (case nz_len => k_is)
   (case nz_max => k_is)
   (case nz_list => k_is)
   (case nz_dict => k_is)
   (case nz_isinstance => k_is)
   (case nz_int => k_is)
   (case nz_bool => k_is)
   (case nz_range => k_is)
   (case nz_sum => k_is)
   (case nz_tuple => k_is)
   (case nz_str => k_is)
   (case pg_Rates => k_is)
   (case hd_Rates => k_is)
   (case po_Rates => k_is)
   (case sa_Rates => k_is)
   (case mk_Rates => k_is)
   (case kc_Rates => k_is)
   (case n_rcoin => k_is)
   (case n_rday => k_is)
   (case n_book => k_is)
   (case n_coin => k_is)
   (case n_rest => k_is)
   (case n_told => k_is)
   (case n_known => k_is)
   (case a_divisor => k_is)
   (case l_divisor => k_is)
   (case c_divisor => k_is)
   (case k_divisor => k_is)
   (case a_fraction => k_is)
   (case l_fraction => k_is)
   (case c_fraction => k_is)
   (case k_fraction => k_is)
   (case lT_fraction => k_is)
   (case a_nearest => k_is)
   (case l_nearest => k_is)
   (case c_nearest => k_is)
   (case k_nearest => k_is)
   (case lT_nearest => k_is)
   (case at_NoRate__init__ => k_is)
   (case fn_NoRate__init__ => k_is)
   (case l_NoRate__init__ => k_is)
   (case c_NoRate__init__ => k_is)
   (case k_NoRate__init__ => k_is)
   (case at_Unbalanced__init__ => k_is)
   (case fn_Unbalanced__init__ => k_is)
   (case l_Unbalanced__init__ => k_is)
   (case c_Unbalanced__init__ => k_is)
   (case k_Unbalanced__init__ => k_is)
   (case at_Rates_rate => k_is)
   (case fn_Rates_rate => k_is)
   (case l_Rates_rate => k_is)
   (case c_Rates_rate => k_is)
   (case k_Rates_rate => k_is)
   (case at_Rates___init__ => k_is)
   (case fn_Rates___init__ => k_is)
   (case l_Rates___init__ => k_is)
   (case c_Rates___init__ => k_is)
   (case k_Rates___init__ => k_is)
   (case lT_Rates___init__ => k_is)
   (case at_Rates_tell => k_is)
   (case fn_Rates_tell => k_is)
   (case l_Rates_tell => k_is)
   (case c_Rates_tell => k_is)
   (case k_Rates_tell => k_is)
   (case lT_Rates_tell => k_is)
   (case at_Rates_worth => k_is)
   (case fn_Rates_worth => k_is)
   (case l_Rates_worth => k_is)
   (case c_Rates_worth => k_is)
   (case k_Rates_worth => k_is)
   (case a_rests_of => k_is)
   (case l_rests_of => k_is)
   (case c_rests_of => k_is)
   (case k_rests_of => k_is)
   (case a_half_rests => k_is)
   (case l_half_rests => k_is)
   (case c_half_rests => k_is)
   (case k_half_rests => k_is)
   (case a_firms_in => k_is)
   (case l_firms_in => k_is)
   (case c_firms_in => k_is)
   (case k_firms_in => k_is)
   (case a_dues_added => k_is)
   (case l_dues_added => k_is)
   (case c_dues_added => k_is)
   (case k_dues_added => k_is)
   (case a_with_dues => k_is)
   (case l_with_dues => k_is)
   (case c_with_dues => k_is)
   (case k_with_dues => k_is)
   (case a_lined_by => k_is)
   (case l_lined_by => k_is)
   (case c_lined_by => k_is)
   (case k_lined_by => k_is)
   (case a_entry_lines => k_is)
   (case l_entry_lines => k_is)
   (case c_entry_lines => k_is)
   (case k_entry_lines => k_is)
   (case a__law_cell_at => k_is)
   (case l__law_cell_at => k_is)
   (case c__law_cell_at => k_is)
   (case k__law_cell_at => k_is)
   (case a__law_whole => k_is)
   (case l__law_whole => k_is)
   (case c__law_whole => k_is)
   (case k__law_whole => k_is)
   (case a__law_mix => k_is)
   (case l__law_mix => k_is)
   (case c__law_mix => k_is)
   (case k__law_mix => k_is)
   (case a__law_names => k_is)
   (case l__law_names => k_is)
   (case c__law_names => k_is)
   (case k__law_names => k_is)
   (case a__law_coins => k_is)
   (case l__law_coins => k_is)
   (case c__law_coins => k_is)
   (case k__law_coins => k_is)
   (case a__law_amount => k_is)
   (case l__law_amount => k_is)
   (case c__law_amount => k_is)
   (case k__law_amount => k_is)
   (case a__law_side => k_is)
   (case l__law_side => k_is)
   (case c__law_side => k_is)
   (case k__law_side => k_is)
   (case a__law_sides => k_is)
   (case l__law_sides => k_is)
   (case c__law_sides => k_is)
   (case k__law_sides => k_is)
   (case a__law_closed => k_is)
   (case l__law_closed => k_is)
   (case c__law_closed => k_is)
   (case k__law_closed => k_is)
   (case a__law_firms => k_is)
   (case l__law_firms => k_is)
   (case c__law_firms => k_is)
   (case k__law_firms => k_is)
   (case a__law_rate => k_is)
   (case l__law_rate => k_is)
   (case c__law_rate => k_is)
   (case k__law_rate => k_is)
   (case a__law_table => k_is)
   (case l__law_table => k_is)
   (case c__law_table => k_is)
   (case k__law_table => k_is)
   (case a__law_told_coin => k_is)
   (case l__law_told_coin => k_is)
   (case c__law_told_coin => k_is)
   (case k__law_told_coin => k_is)
   (case a__law_rates => k_is)
   (case l__law_rates => k_is)
   (case c__law_rates => k_is)
   (case k__law_rates => k_is)
   (case a__law_worth => k_is)
   (case l__law_worth => k_is)
   (case c__law_worth => k_is)
   (case k__law_worth => k_is)
   (case a__law_dues => k_is)
   (case l__law_dues => k_is)
   (case c__law_dues => k_is)
   (case k__law_dues => k_is)
   (case a__law_lines => k_is)
   (case l__law_lines => k_is)
   (case c__law_lines => k_is)
   (case k__law_lines => k_is)
   (case a__law_told => k_is)
   (case l__law_told => k_is)
   (case c__law_told => k_is)
   (case k__law_told => k_is)
   (case a__law_lacking => k_is)
   (case l__law_lacking => k_is)
   (case c__law_lacking => k_is)
   (case k__law_lacking => k_is)
   (case a__law_open => k_is)
   (case l__law_open => k_is)
   (case c__law_open => k_is)
   (case k__law_open => k_is)
   (case a__law_refused => k_is)
   (case l__law_refused => k_is)
   (case c__law_refused => k_is)
   (case k__law_refused => k_is)
   (case a__law_few => k_is)
   (case l__law_few => k_is)
   (case c__law_few => k_is)
   (case k__law_few => k_is)
   (case a__law_first => k_is)
   (case l__law_first => k_is)
   (case c__law_first => k_is)
   (case k__law_first => k_is)
   (case a__law_lacks => k_is)
   (case l__law_lacks => k_is)
   (case c__law_lacks => k_is)
   (case k__law_lacks => k_is)
   (case a__law_tell => k_is)
   (case l__law_tell => k_is)
   (case c__law_tell => k_is)
   (case k__law_tell => k_is)
   (case a_law => k_is)
   (case l_law => k_is)
   (case c_law => k_is)
   (case k_law => k_is)
   (case xs_NoNumber => kernel_rfl)
   (case xs_NoRate => kernel_rfl)
   (case xs_Unbalanced => kernel_rfl)
   (case q_ib => kernel_rfl)
   (case q_nn => kernel_rfl)
   (case q_un => kernel_rfl)
   (case q_ub => kernel_rfl)
   (case q_uu => kernel_rfl)
#print axioms PySem.Challenge.cw_groupbooks_k24_lines_holds
