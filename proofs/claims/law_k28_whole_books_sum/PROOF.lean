import PyProof.Rows.All
import Wide.All
import OpenK.AllK
import Wide.FinOn
import Lean
import PyProof.EqAt
import PyProof.EqKinds
import PyProof.TupleCall
import PyProof.StationsW
import PyProof.RulesAs
import PyProof.ExcClass2
import PyProof.ExcInit
import PyProof.InstStore
import PyProof.ExcBaseAll.ValueError
import PyProof.ExcArgs
import PyProof.IsiBase
import PyProof.NsDelKeeps
import PyProof.CompFree
import PyProof.CompUse
import KE.LcSums
import PyProof.Rows.SortWalk
import PyProof.DictWalks
import PyProof.Rows.MinMaxN
import PyProof.Rows.DictUnroll
import PyProof.StrBlockI
import PyProof.NeKinds
import PyProof.AutoListH
import KE.KItemsList
import KE.RegMulBits
import KE.KDictOf
import PyProof.AttrMissHeap
import KE.KDictList
import KE.KRevIter
import KE.KSortTup
import PyProof.Rows.EnumRows
import PyProof.EnumFor
import PyProof.ConsumeWalk
import PyProof.TupleOfSeq
import PyProof.Draws
import PyProof.FactsAll.set
import PyProof.DictItems
import KE.KPairComp
import PyProof.DictValues
import PySem.Challenge.RW_groupbooks_k28_whole_books_sum
set_option Elab.async false
set_option linter.all false
set_option maxRecDepth 100000
set_option maxHeartbeats 4000000
abbrev Q3 := PySem.Value → PySem.Shared → Prop
abbrev Q4 := List (PySem.Addr × PySem.Obj)
abbrev Q5 := PySem.W.Frag
abbrev Q6 := Option PySem.Value
open PySem.W (keepIn fnOf nsIn codeIn findIn mg_of isFn mg_none_of)
section
open PySem PySem.W PyProof.Rows
set_option maxHeartbeats 0
noncomputable def K28.runTop (p : Program) (w : World) (m : Nat) : Nat → SharedT → Thread → Option SharedT
 | 0, _, _ => none
 | k + 1, s, t => match through t with
   | true => some s
   | false => match PySem.W.Fast.tw6613529449190102663 m (some (.ref 6)) t with
     | false => none
     | true => match PySem.W.Fast.tw10156331382660048174 (PySem.W.Fast.tw11892475500146522536 treeTable) p w s t with
       | some x => K28.runTop p w m k x.1 x.2
       | none => none
theorem K28.Qfs (p : Program) (w : World) (m : Nat) : ∀ (k : Nat) (s s' : SharedT) (t : Thread),
 K28.runTop p w m k s t = some s' → topRun treeTable p w m (some (.ref 6)) k s.abs t = some s'.abs
 | 0, _, _, _, h => by cases h
 | k + 1, s, s', t, h => by
   unfold K28.runTop at h
   unfold topRun
   cases hT : through t with
   | true => rw [hT] at h; cases h; rfl
   | false =>
     rw [hT] at h
     dsimp only at h ⊢
     rw [← PySem.W.Fast.te6613529449190102663] at h
     cases hk : stepOk m (some (.ref 6)) t with
     | false => rw [hk] at h; exact absurd h (by simp)
     | true =>
       rw [hk] at h
       dsimp only at h ⊢
       rw [← PySem.W.Fast.te10156331382660048174, ← PySem.W.Fast.te11892475500146522536] at h
       cases hs : stepT (denote treeTable) p w s t with
       | none => rw [hs] at h; exact absurd h (by simp)
       | some x =>
         rw [hs] at h
         rw [stepT_spec (s' := x.1) (t' := x.2) hs]
         exact K28.Qfs p w m k _ _ _ h
noncomputable def K28.bootT (P : Params) : BT := ((boot_heap P).objs.toList.foldl (fun a o => (a.1.ins a.2 o, a.2 + 1)) (BT.nil, 0)).1
theorem K28.Qpc (P : Params) : absHeap (K28.bootT P) 11 (boot_heap P).life = boot_heap P := by kernel_rfl
theorem K28.Qmw (P : Params) : ((boot_heap P).isNs mainGlobals, (boot_heap P).objs.size, (boot_heap P).nsMap mainGlobals "__annotations__") = (true, 11, some (.ref 6)) := by kernel_rfl
theorem K28.leftAtOnce {p q : Program} {lo : List Str} {A : Shared → Bool} {β : Type} {B : Shared → β} {D : World → β} {N : Nat} {g : Bool}
 (e : opening p = plainProg p.main.scope.names) (f : ∀ s, fenceModules? p s = some s) (hN : Nat.ble 600 N = true)
 (h : ∀ (w : World) (os : OsState), (K28.runTop p w 11 N ⟨K28.bootT w.params, 11, (boot_heap w.params).life, Array.mk [], boot_drawn, boot_toks, os⟩ (topStub p)).map
  (fun s => (staticsOk (importedModules p.main.body) (boot_heap w.params) s.abs.heap && namesBound p s.abs.heap && gensDone s.abs && laidKept (boot_heap w.params) s.abs.heap,
   openSeen q lo (importedModules p.main.body) A g s.abs, B s.abs)) = some (true, openGood q lo, D w)) : LeftO p q lo A B D N g := by
 intro w
 obtain ⟨⟨hh, gs, d, k, os⟩, e1, e2⟩ := Option.map_eq_some_iff.mp (boot_open e hN f w)
 obtain ⟨rfl, rfl, rfl, rfl⟩ : hh = boot_heap w.params ∧ gs = Array.mk [] ∧ d = boot_drawn ∧ k = boot_toks := by simpa using e2
 obtain ⟨s, h1, h2⟩ := Option.map_eq_some_iff.mp (h w os)
 have h3 := K28.Qfs _ _ _ _ _ _ _ h1
 have h4 := K28.Qmw w.params
 simp only [Prod.mk.injEq] at h2 h4
 unfold openEnds
 rw [e1]
 change Option.map _ (topFrom treeTable p w N _) = _
 unfold topFrom
 dsimp only
 rw [h4.1, h4.2.1, h4.2.2]
 have h5 : SharedT.abs ⟨K28.bootT w.params, 11, (boot_heap w.params).life, Array.mk [], boot_drawn, boot_toks, os⟩ = ⟨boot_heap w.params, Array.mk [], boot_drawn, boot_toks, os⟩ := by
  unfold SharedT.abs
  rw [K28.Qpc]
 rw [h5] at h3
 show ((topRun treeTable p w 11 (some (.ref 6)) N _ _).bind _).map _ = _
 rw [h3]
 dsimp only [Option.bind]
 rw [h2.1]
 show some (_, _) = _
 rw [h2.2.1, h2.2.2]
def K28.sieve {α : Type} : List α → List Bool → List α
 | a :: l, b :: m => bif b then a :: sieve l m else sieve l m
 | _, _ => []
def K28.headView : Program := { PySem.Challenge.pw_groupbooks_k28_whole_books_sum with main := { PySem.Challenge.pw_groupbooks_k28_whole_books_sum.main with
 body := K28.sieve PySem.Challenge.pw_groupbooks_k28_whole_books_sum.main.body [false, false, false, false, false, false, false, false, false, false, false, false, false, false, false, false, false, false, false, false, false, false, false, false, false, false, false, false, false, false, false, false, false, false, false, false, false, false, false, false, false, false, false, false, false, false, false, false, false, false, true] } }
set_option hygiene false in
local macro_rules | `(tactic| o_head $H) => `(tactic|
 refine holds_open (q := K28.headView) (loose := [PySem.Str.ofString "_wall", PySem.Str.ofString "BooksError", PySem.Str.ofString "NoNumber", PySem.Str.ofString "NoRate", PySem.Str.ofString "Twice", PySem.Str.ofString "Unbalanced", PySem.Str.ofString "NoFirm", PySem.Str.ofString "rests_of", PySem.Str.ofString "half_rests", PySem.Str.ofString "firms_in", PySem.Str.ofString "dues_added", PySem.Str.ofString "with_dues", PySem.Str.ofString "lined_by", PySem.Str.ofString "entry_lines", PySem.Str.ofString "month_of", PySem.Str.ofString "put_together", PySem.Str.ofString "figures_of", PySem.Str.ofString "check_entry", PySem.Str.ofString "Book", PySem.Str.ofString "divisor", PySem.Str.ofString "fraction", PySem.Str.ofString "nearest", PySem.Str.ofString "Rates", PySem.Str.ofString "_law_cell_at", PySem.Str.ofString "_law_whole", PySem.Str.ofString "_law_mix", PySem.Str.ofString "_law_names", PySem.Str.ofString "_law_coins", PySem.Str.ofString "_law_amount", PySem.Str.ofString "_law_rate", PySem.Str.ofString "_law_table", PySem.Str.ofString "_law_worth", PySem.Str.ofString "_law_told_coin", PySem.Str.ofString "_law_rates", PySem.Str.ofString "_law_side", PySem.Str.ofString "_law_closed", PySem.Str.ofString "_law_rows", PySem.Str.ofString "_law_sums", PySem.Str.ofString "_law_due", PySem.Str.ofString "_law_mirrored", PySem.Str.ofString "_law_together", PySem.Str.ofString "_law_meets", PySem.Str.ofString "_law_rates_by"]) (N := 20000)
  (Yf := Hook.obs $H) (Ya := Hook.val $H) (YP := Hook.says $H)
  (XP := XL K28.headView []) (Xt := fun s => xlAt K28.headView [] s && recOk (RowW.records (OpenRow.toRowW (OpenLaw.row PySem.Challenge.rw_groupbooks_k28_whole_books_sum))) s)
  (K28.leftAtOnce (by kernel_rfl) (fun s => by kernel_rfl) rfl (fun w os => by kernel_rfl)) (Hook.of $H) (Hook.keeps $H)
  (fun s e => xl_of s (Bool.and_eq_true_iff.mp e).1)
  XL.keeps (by rfl) (by rfl) (by rfl)
  (fun s e => recFacts_of (Bool.and_eq_true_iff.mp e).2) (by rfl) (by assumption) (by decide+kernel)
  ⟨rfl, rfl, rfl, rfl, rfl, by decide+kernel⟩ ?hw ?hc)
open_top K28.headTop for PySem.Challenge.rw_groupbooks_k28_whole_books_sum
end
namespace L2
open PySem PySem.Spec PyProof.Rows
abbrev Key := Sum Int Str
def keyIs : Key → Value → Bool
 | .inl k, v => Value.isInt k v
 | .inr x, v => Value.isStrOf x v
def keyH (w : World) : Key → Int
 | .inl k => hashInt k
 | .inr x => hashStr w x
theorem Qbb : ∀ {k : Key} {v : Value}, keyIs k v = true → (∃ i t, k = Sum.inl i ∧ v = Value.int i t) ∨ (∃ x t, k = Sum.inr x ∧ v = Value.str x t)
 | .inl i, v, h => by
   obtain ⟨t, e⟩ := Value.isInt_shape (k := i) (v := v) h
   exact .inl ⟨i, t, rfl, e⟩
 | .inr x, v, h => by
   obtain ⟨t, e⟩ := Value.isStrOf_shape (x := x) (v := v) h
   exact .inr ⟨x, t, rfl, e⟩
theorem Qkf (i : Int) (t : Tok) : keyIs (.inl i) (.int i t) = true := by simp [keyIs, Value.isInt]
theorem Qke (x : Str) (t : Tok) : keyIs (.inr x) (.str x t) = true := by simp [keyIs, Value.isStrOf]
theorem key_ll (a b : Int) : decide ((Sum.inl a : Key) = Sum.inl b) = (a == b) := by
 by_cases e : a = b
 ·subst e; simp
 ·have h : ¬ (Sum.inl a : Key) = Sum.inl b := fun q => e (Sum.inl.inj q)
  rw [decide_eq_false h]
  exact (beq_eq_false_iff_ne.mpr e).symm
theorem key_rr (a b : Str) : decide ((Sum.inr a : Key) = Sum.inr b) = decide (a = b) := by
 by_cases e : a = b
 ·subst e; simp
 ·have h : ¬ (Sum.inr a : Key) = Sum.inr b := fun q => e (Sum.inr.inj q)
  rw [decide_eq_false h, decide_eq_false e]
theorem key_lr (a : Int) (b : Str) : decide ((Sum.inl a : Key) = Sum.inr b) = false := decide_eq_false (fun q => nomatch q)
theorem key_rl (a : Str) (b : Int) : decide ((Sum.inr a : Key) = Sum.inl b) = false := decide_eq_false (fun q => nomatch q)
def mixKind (prog : Program) (w : World) : PySem.KeyKind prog w Key where
 is := keyIs
 hash := keyH w
 inj := fun v a b ha hb => by
  rcases Qbb ha with ⟨i, t, rfl, rfl⟩ | ⟨x, t, rfl, rfl⟩
  ·rcases Qbb hb with ⟨j, u, rfl, e⟩ | ⟨y, u, rfl, e⟩
   ·injection e with e1 _; rw [e1]
   ·exact nomatch e
  ·rcases Qbb hb with ⟨j, u, rfl, e⟩ | ⟨y, u, rfl, e⟩
   ·exact nomatch e
   ·injection e with e1 _; rw [e1]
 byValue := fun k v h => by
  rcases Qbb h with ⟨i, t, rfl, rfl⟩ | ⟨x, t, rfl, rfl⟩ <;> rfl
 pyHash := fun hv h => by
  rcases Qbb hv with ⟨i, t, rfl, rfl⟩ | ⟨x, t, rfl, rfl⟩
  ·exact wpAny_pyHash_int h
  ·exact wpAny_pyHash_str h
 eqBool := fun hu hv h => by
  rcases Qbb hu with ⟨i, t, rfl, rfl⟩ | ⟨x, t, rfl, rfl⟩
  ·rcases Qbb hv with ⟨j, u, rfl, rfl⟩ | ⟨y, u, rfl, rfl⟩
   ·rw [key_ll] at h; exact wpAny_eqBool_int h
   ·rw [key_lr] at h; exact SeqAt.EqAt.int_str i t y u _ _ _ _ h
  ·rcases Qbb hv with ⟨j, u, rfl, rfl⟩ | ⟨y, u, rfl, rfl⟩
   ·rw [key_rl] at h; exact SeqAt.EqAt.str_int x t j u _ _ _ _ h
   ·rw [key_rr] at h; exact wpAny_eqBool_str h
 «strs» := fun k x t v h => by
  rcases Qbb h with ⟨i, u, rfl, e⟩ | ⟨y, u, rfl, e⟩
  ·exact nomatch e
  ·injection e with e1 _
   subst e1
   cases v <;> rfl
theorem Qg2 (prog : Program) (w : World) (i : Int) (t : Tok) : (mixKind prog w).is (.inl i) (.int i t) = true := Qkf i t
theorem Qg1 (prog : Program) (w : World) (x : Str) (t : Tok) : (mixKind prog w).is (.inr x) (.str x t) = true := Qke x t
end L2
namespace L2
open PySem PySem.Spec PyProof.Rows
inductive V where
 | non | bl (b : Bool) | int (i : Int) | str (x : Str) | byt (b : Array UInt8) | flt (b : UInt64) | ref (a : Addr) | ty (n : String)
 deriving DecidableEq
def RelV : V → Value → Prop
 | .non, u => u = Value.none
 | .bl b, u => u = Value.bool b
 | .int i, u => ∃ t, u = Value.int i t
 | .str x, u => ∃ t, u = Value.str x t
 | .byt b, u => ∃ t, u = Value.bytes b t
 | .flt b, u => ∃ t, u = Value.float b t
 | .ref a, u => u = Value.ref a
 | .ty n, u => u = Value.type n
abbrev Vals : List V → List Value → Prop := Paired RelV
theorem Vals.length {xs : List V} {us : List Value} (r : Vals xs us) : xs.length = us.length := Paired.length r
theorem Vals.get : ∀ {xs : List V} {us : List Value} {i : Nat} {x : V}, Vals xs us → xs[i]? = some x → ∃ u, us[i]? = some u ∧ RelV x u
 | _, _, _, _, .nil, e => by simp at e
 | _, _, 0, _, .cons r _, e => by simp at e; subst e; exact ⟨_, rfl, r⟩
 | _, _, i + 1, x, .cons _ t, e => by
   obtain ⟨u, h1, h2⟩ := Vals.get (i := i) (x := x) t (by simpa using e)
   exact ⟨u, by simpa using h1, h2⟩
theorem Vals.append : ∀ {xs ys : List V} {us ws : List Value}, Vals xs us → Vals ys ws → Vals (xs ++ ys) (us ++ ws)
 | _, _, _, _, .nil, s => s
 | _, _, _, _, .cons r t, s => .cons r (Vals.append t s)
theorem Vals.take : ∀ {xs : List V} {us : List Value} (n : Nat), Vals xs us → Vals (xs.take n) (us.take n)
 | _, _, 0, _ => .nil
 | _, _, _ + 1, .nil => .nil
 | _, _, n + 1, .cons r t => .cons r (Vals.take n t)
theorem Vals.drop : ∀ {xs : List V} {us : List Value} (n : Nat), Vals xs us → Vals (xs.drop n) (us.drop n)
 | _, _, 0, r => r
 | _, _, _ + 1, .nil => .nil
 | _, _, n + 1, .cons _ t => Vals.drop n t
def RelO : Option V → Option Value → Prop
 | some v, some u => RelV v u
 | none, none => True
 | _, _ => False
def KV {κ : Type} : List (κ × V) → List (κ × Value) → Prop := Paired fun (p : κ × V) (q : κ × Value) => p.1 = q.1 ∧ RelV p.2 q.2
def kV : Key → V
 | .inl i => .int i
 | .inr x => .str x
inductive HO where
 | lst (xs : List V)
 | tup (xs : List V)
 | dK (kvs : List (Key × V)) | dT (kvs : List (List Key × V))
 | set (S : Int → Bool) (n : Nat)
 | ins (C dx : Addr) (fs : List (Str × V))
 | own (x : Addr)
 | xd (fs : List (Str × V))
 | met (f x : Addr)
 | rng (lo hi : Int)
 | frz (o : Obj) (u : HO)
 | tbl (ps : Array Value)
 | ext (φ : Heap → Prop)
abbrev Hp := Addr → Option HO
def upd (H : Hp) (a : Addr) (o : HO) : Hp := fun b => if b = a then some o else H b
theorem Qab {H : Hp} {a : Addr} {o : HO} : upd H a o a = some o := by unfold upd; rw [if_pos rfl]
theorem Qah {H : Hp} {a b : Addr} {o : HO} (h : b ≠ a) : upd H a o b = H b := by unfold upd; rw [if_neg h]
theorem Qbd {H : Hp} {a b : Addr} {o u : HO} (h : H a = some o) (h' : H b = some u) (d : o ≠ u) : a ≠ b := by
 intro e; subst e; rw [h] at h'; exact d (Option.some.inj h')
theorem Qai {H : Hp} {a b : Addr} {o : HO} (h : H a = some o) (h' : H b = none) : a ≠ b := by
 intro e; subst e; rw [h] at h'; cases h'
section
variable (P : Program) (w : World)
def ObjOk (H : Hp) (h : Heap) (a : Addr) : HO → Prop
 | .lst xs => xs.length ≤ sizeLine ∧ ∃ (its : List Value) (n : Nat), Vals xs its ∧ h.get? a = some { cls := .type "list", data := .seq its.toArray n }
 | .tup xs => xs.length ≤ sizeLine ∧ ∃ its : List Value, Vals xs its ∧ IsTup h a its.toArray
 | .dK kvs => kvs.length ≤ sizeLine ∧ (a == sysModules) = false ∧ ∃ vs, KV kvs vs ∧ h.DictOf (mixKind P w) a vs
 | .dT kvs => kvs.length ≤ sizeLine ∧ (a == sysModules) = false ∧ ∃ xs : List (List Key × Addr × Value),
  Paired (fun (p : List Key × V) (q : List Key × Addr × Value) => p.1 = q.1 ∧ H q.2.1 = some (.tup (p.1.map kV)) ∧ RelV p.2 q.2.2) kvs xs ∧
  ∃ o es ep, h.get? a = some o ∧ o.ExactDict ∧ o.data = .dict es ep ∧ es.toList = xs.map (entryOfKey (tupleKind (mixKind P w))) ∧ (xs.map (·.1)).Nodup
 | .set S n => h.SetOf (intKind P w) a S n
 | .ins C dx fs => H dx = some (.own a) ∧ fs.length ≤ 1000 ∧ dx ≠ a ∧ h.get? a = some (PySem.W.instObj C dx) ∧
  ∃ mA, h.Ns1 dx mA ∧ (∀ f, RelO (fs.lookup f) (mA f)) ∧ PySem.Within mA (fs.map (·.1))
 | .own _ => ∃ o, h.get? a = some o
 | .xd fs => ∃ mA, h.Ns1 a mA ∧ ∀ f, RelO (fs.lookup f) (mA f)
 | .rng lo hi => ∃ t u v, h.get? a = some { cls := .type "range", data := .fields #[.int lo t, .int hi u, .int 1 v] }
 | .frz o u => h.get? a = some o ∧ ObjOk H h a u
 | .tbl ps => h.get? a = some { cls := .none, data := .fields ps }
 | .met f x => h.get? a = some (PySem.W.methodObj (.ref f) (.ref x))
 | .ext φ => φ h ∧ (∃ o, h.get? a = some o) ∧ ∀ h1 h2 : Heap, φ h1 → (∀ o, h1.get? a = some o → h2.get? a = some o) → φ h2
def HOk (H : Hp) (h : Heap) : Prop := ∀ a o, H a = some o → ObjOk P w H h a o
end
section
variable {P : Program} {w : World} {H H' : Hp} {h h' : Heap} {a : Addr} {o : HO}
theorem ObjOk.lt (x : ObjOk P w H h a o) : a < h.objs.size := by
 cases o with
 | lst xs => obtain ⟨_, _, _, _, e⟩ := x; exact Heap.lt_size e
 | tup xs => obtain ⟨_, _, _, p⟩ := x; exact p.lt
 | dK kvs => obtain ⟨_, _, _, _, o, _, _, e, _⟩ := x; exact Heap.lt_size e
 | dT kvs => obtain ⟨_, _, _, _, o, _, _, e, _⟩ := x; exact Heap.lt_size e
 | set S n => obtain ⟨o, _, _, _, e, _⟩ := x; exact Heap.lt_size e
 | ins C dx fs => obtain ⟨_, _, _, e, _⟩ := x; exact Heap.lt_size e
 | own y => obtain ⟨_, e⟩ := x; exact Heap.lt_size e
 | xd fs => obtain ⟨_, ⟨_, _, _, e, _⟩, _⟩ := x; exact Heap.lt_size e
 | rng lo hi => obtain ⟨_, _, _, e⟩ := x; exact Heap.lt_size e
 | frz ob u => obtain ⟨e, _⟩ := x; exact Heap.lt_size e
 | tbl ps => exact Heap.lt_size (show h.get? a = some _ from x)
 | met f y => exact Heap.lt_size (show h.get? a = some _ from x)
 | ext φ => obtain ⟨_, ⟨_, e⟩, _⟩ := x; exact Heap.lt_size e
theorem Paired.mapP {α β : Type} {F G : α → β → Prop} : ∀ {l₁ : List α} {l₂ : List β}, Paired F l₁ l₂ → (∀ a b, F a b → G a b) → Paired G l₁ l₂
 | _, _, .nil, _ => .nil
 | _, _, .cons r t, f => .cons (f _ _ r) (Paired.mapP t f)
theorem ObjOk.stay (x : ObjOk P w H h a o) (k : ∀ b u, (b = a ∨ H b = some (.own a)) → h.get? b = some u → h'.get? b = some u)
 (ho : ∀ b, H b = some (.own a) → H' b = some (.own a)) (ht : ∀ b xs, H b = some (.tup xs) → H' b = some (.tup xs)) : ObjOk P w H' h' a o := by
 induction o with
 | lst xs => obtain ⟨z, its, n, r, e⟩ := x; exact ⟨z, its, n, r, k _ _ (.inl rfl) e⟩
 | tup xs => obtain ⟨z, its, r, ob, e, c⟩ := x; exact ⟨z, its, r, ob, k _ _ (.inl rfl) e, c⟩
 | dK kvs => obtain ⟨z, y, vs, r, ob, es, ep, e, c⟩ := x; exact ⟨z, y, vs, r, ob, es, ep, k _ _ (.inl rfl) e, c⟩
 | dT kvs =>
   obtain ⟨z, y, xs, r, ob, es, ep, e, c⟩ := x
   exact ⟨z, y, xs, Paired.mapP r fun p q z => ⟨z.1, ht _ _ z.2.1, z.2.2⟩, ob, es, ep, k _ _ (.inl rfl) e, c⟩
 | set S n => obtain ⟨ob, es, ep, t, e, c⟩ := x; exact ⟨ob, es, ep, t, k _ _ (.inl rfl) e, c⟩
 | ins C dx fs =>
   obtain ⟨d, z, ne, e, mA, ⟨od, es, ep, e2, c⟩, r⟩ := x
   exact ⟨ho _ d, z, ne, k _ _ (.inl rfl) e, mA, ⟨od, es, ep, k _ _ (.inr d) e2, c⟩, r⟩
 | own y => obtain ⟨ob, e⟩ := x; exact ⟨ob, k _ _ (.inl rfl) e⟩
 | xd fs => obtain ⟨mA, ⟨od, es, ep, e, c⟩, r⟩ := x; exact ⟨mA, ⟨od, es, ep, k _ _ (.inl rfl) e, c⟩, r⟩
 | rng lo hi => obtain ⟨t, u, v, e⟩ := x; exact ⟨t, u, v, k _ _ (.inl rfl) e⟩
 | frz ob u ih => obtain ⟨e, q⟩ := x; exact ⟨k _ _ (.inl rfl) e, ih q⟩
 | tbl ps =>
   have e : h.get? a = some { cls := .none, data := .fields ps } := x
   show h'.get? a = some { cls := .none, data := .fields ps }
   exact k a _ (.inl rfl) e
 | met f y =>
   have e : h.get? a = some (PySem.W.methodObj (.ref f) (.ref y)) := x
   show h'.get? a = some (PySem.W.methodObj (.ref f) (.ref y))
   exact k a _ (.inl rfl) e
 | ext φ => obtain ⟨p, ⟨o, e⟩, st⟩ := x; exact ⟨st _ _ p fun o q => k _ _ (.inl rfl) q, ⟨o, k _ _ (.inl rfl) e⟩, st⟩
theorem HOk.lt (x : HOk P w H h) (e : H a = some o) : a < h.objs.size := (x a o e).lt
theorem HOk.fresh (x : HOk P w H h) (e : h.objs.size ≤ a) : H a = none := by
 cases q : H a with
 | none => rfl
 | some u => exact absurd (Nat.lt_of_lt_of_le (x.lt q) e) (Nat.lt_irrefl _)
theorem HOk.kept (x : HOk P w H h) (k : ∀ b u, h.get? b = some u → h'.get? b = some u) : HOk P w H h' := fun a o e =>
 (x a o e).stay (fun b u _ q => k b u q) (fun _ q => q) fun _ _ q => q
theorem HOk.laid (x : HOk P w H h) (k : ∀ b u, h.get? b = some u → h'.get? b = some u) (hp : h.objs.size ≤ a) (new : ObjOk P w (upd H a o) h' a o) : HOk P w (upd H a o) h' := fun b u e => by
 have hn := x.fresh hp
 by_cases hb : b = a
 ·subst hb; rw [Qab] at e; cases e; exact new
 ·rw [Qah hb] at e
  exact (x b u e).stay (fun c v _ q => k c v q) (fun c q => by rw [Qah (Qai q hn)]; exact q) fun c xs q => by rw [Qah (Qai q hn)]; exact q
end
def Rd (H : Hp) (a : Addr) (u : HO) : Prop := H a = some u ∨ ∃ o, H a = some (.frz o u)
theorem Rd.of {H : Hp} {a : Addr} {u : HO} (h : H a = some u) : Rd H a u := .inl h
theorem Rd.ok {P : Program} {w : World} {H : Hp} {h : Heap} {a : Addr} {u : HO} (r : Rd H a u) (x : HOk P w H h) : ObjOk P w H h a u := by
 rcases r with r | ⟨o, r⟩
 ·exact x a u r
 ·obtain ⟨_, q⟩ := x a _ r
  exact q
def Mut : Option HO → Prop
 | some (.lst _) => True
 | some (.dK _) => True
 | some (.dT _) => True
 | some (.set _ _) => True
 | some (.ins _ _ _) => True
 | some (.ext _) => True
 | _ => False
section
variable {P : Program} {w : World} {H : Hp} {h h' : Heap} {x e : Addr} {o' : HO}
theorem HOk.write (ok : HOk P w H h) (mu : Mut (H x)) (he : e = x ∨ H e = some (.own x)) (k : ∀ b u, b ≠ e → h.get? b = some u → h'.get? b = some u) (heo : ∃ u, h'.get? e = some u)
 (new : ObjOk P w (upd H x o') h' x o') : HOk P w (upd H x o') h' := fun b u q => by
 have nown : ∀ c y, H c = some (.own y) → c ≠ x := fun c y r z => by subst z; rw [r] at mu; exact mu
 have ntup : ∀ c xs, H c = some (.tup xs) → c ≠ x := fun c xs r z => by subst z; rw [r] at mu; exact mu
 by_cases hb : b = x
 ·subst hb; rw [Qab] at q; cases q; exact new
 ·rw [Qah hb] at q
  by_cases hbe : b = e
  ·have q' : H b = some (.own x) := by
    rcases he with z | z
    ·exact absurd (hbe.trans z) hb
    ·rw [hbe]; exact z
   rw [q] at q'; cases q'
   obtain ⟨v, hv⟩ := heo
   exact ⟨v, by rw [hbe]; exact hv⟩
  ·refine (ok b u q).stay (fun c v hc r => k c v ?_ r) (fun c r => by rw [Qah (nown c b r)]; exact r) fun c xs r => by rw [Qah (ntup c xs r)]; exact r
   rcases hc with rfl | hc
   ·exact hbe
   ·rintro rfl
    rcases he with z | z
    ·exact nown c b hc z
    ·rw [hc] at z; cases z; exact hb rfl
end
structure Un (fs ex : List Addr) (H H' : Hp) (h h' : Heap) : Prop where
 keep : ∀ b o, h.get? b = some o → H b = none → b ∉ fs → b ∉ ex → h'.get? b = some o
 slot : ∀ b o, h.get? b = some o → H b = none → b ∈ fs → b ∉ ex → ∃ sl, h'.get? b = some { o with slots := sl }
 free : ∀ b o, h.get? b = some o → H b = none → b ∉ ex → H' b = none
 there : ∀ b o, h.get? b = some o → b ∉ ex → ∃ o', h'.get? b = some o'
 tups : ∀ b xs, H b = some (.tup xs) → H' b = some (.tup xs)
 frzs : ∀ b o u, H b = some (.frz o u) → H' b = some (.frz o u)
 tbls : ∀ b ps, H b = some (.tbl ps) → ∃ more, H' b = some (.tbl (ps ++ more))
section
variable {fs fs' ex ex' : List Addr} {H H1 H2 : Hp} {h h1 h2 h' : Heap} {a x e : Addr} {o : HO}
theorem Un.any (u : Un fs ex H H1 h h1) {b : Addr} {ob : Obj} (q : h.get? b = some ob) (n : H b = none) (hx : b ∉ ex) : ∃ sl, h1.get? b = some { ob with slots := sl } := by
 by_cases hb : b ∈ fs
 ·exact u.slot b ob q n hb hx
 ·exact ⟨ob.slots, u.keep b ob q n hb hx⟩
theorem Un.trans (a : Un fs ex H H1 h h1) (b : Un fs ex H1 H2 h1 h2) : Un fs ex H H2 h h2 where
 keep := fun c ob q n hc hx => b.keep c ob (a.keep c ob q n hc hx) (a.free c ob q n hx) hc hx
 slot := fun c ob q n hc hx => by
  obtain ⟨sl, e1⟩ := a.slot c ob q n hc hx
  obtain ⟨sl', e2⟩ := b.slot c _ e1 (a.free c ob q n hx) hc hx
  exact ⟨sl', e2⟩
 free := fun c ob q n hx => by
  obtain ⟨o', e1⟩ := a.there c ob q hx
  exact b.free c o' e1 (a.free c ob q n hx) hx
 there := fun c ob q hx => by
  obtain ⟨o', e1⟩ := a.there c ob q hx
  exact b.there c o' e1 hx
 tups := fun c xs q => b.tups c xs (a.tups c xs q)
 frzs := fun c ob xs q => b.frzs c ob xs (a.frzs c ob xs q)
 tbls := fun c ps q => by
  obtain ⟨m1, e1⟩ := a.tbls c ps q
  obtain ⟨m2, e2⟩ := b.tbls c _ e1
  exact ⟨m1 ++ m2, by rw [e2, Array.append_assoc]⟩
theorem Un.kept (k : ∀ b u, h.get? b = some u → h'.get? b = some u) : Un fs ex H H h h' :=
 ⟨fun b ob q _ _ _ => k b ob q, fun b ob q _ _ _ => ⟨ob.slots, k b ob q⟩, fun _ _ _ n _ => n, fun b ob q _ => ⟨ob, k b ob q⟩, fun _ _ q => q, fun _ _ _ q => q, fun _ ps q => ⟨#[], by rw [q]; simp⟩⟩
theorem Un.refl : Un fs ex H H h h := Un.kept fun _ _ q => q
theorem Un.laid (k : ∀ b u, h.get? b = some u → h'.get? b = some u) (hp : h.objs.size ≤ a) (hn : H a = none) : Un fs ex H (upd H a o) h h' where
 keep := fun b u q _ _ _ => k b u q
 slot := fun b u q _ _ _ => ⟨u.slots, k b u q⟩
 free := fun b u q n _ => by rw [Qah (Nat.ne_of_lt (Nat.lt_of_lt_of_le (Heap.lt_size q) hp))]; exact n
 there := fun b u q _ => ⟨u, k b u q⟩
 tups := fun b xs q => by rw [Qah (Qai q hn)]; exact q
 frzs := fun b u xs q => by rw [Qah (Qai q hn)]; exact q
 tbls := fun b ps q => ⟨#[], by rw [Qah (Qai q hn), q]; simp⟩
theorem Un.write (mu : Mut (H x)) (he : e = x ∨ H e = some (.own x)) (k : ∀ b u, b ≠ e → h.get? b = some u → h'.get? b = some u) (heo : ∃ u, h'.get? e = some u) : Un fs ex H (upd H x o) h h' := by
 have hx : ∀ b, H b = none → b ≠ x := fun b n z => by subst z; rw [n] at mu; exact mu
 have hb : ∀ b, H b = none → b ≠ e := fun b n z => by
  subst z
  rcases he with r | r
  ·exact hx b n r
  ·rw [n] at r; cases r
 have hm : ∀ b u, H b = some u → ¬ Mut (some u) → b ≠ x := fun b u q nm z => by subst z; rw [q] at mu; exact nm mu
 refine ⟨fun b u q n _ _ => k b u (hb b n) q, fun b u q n _ _ => ⟨u.slots, k b u (hb b n) q⟩, fun b u q n _ => by rw [Qah (hx b n)]; exact n, fun b u q _ => ?_,
  fun b xs q => by rw [Qah (hm b _ q fun z => z)]; exact q, fun b u xs q => by rw [Qah (hm b _ q fun z => z)]; exact q, fun b ps q => ⟨#[], by rw [Qah (hm b _ q fun z => z), q]; simp⟩⟩
 by_cases hbe : b = e
 ·subst hbe; exact heo
 ·exact ⟨u, k b u hbe q⟩
end
def trk (h : Heap) (H : Hp) : List Addr := (List.range h.objs.size).filter fun a => (H a).isSome
def hidT (h : Heap) (H : Hp) : Heap := PySem.W.hideAll h (trk h H)
theorem Qkl (h : Heap) (H : Hp) : (hidT h H).objs.size = h.objs.size := PySem.W.hideAll_size _ _
theorem Qmi {h : Heap} {H : Hp} {b : Addr} {o : Obj} (e : h.get? b = some o) (n : H b = none) : (hidT h H).get? b = some o :=
 PySem.W.hideAll_get _ e fun hm => by
  have q : (H b).isSome = true := (List.mem_filter.mp hm).2
  rw [n] at q; simp at q
theorem Qol {h : Heap} {H : Hp} {b : Addr} {o : Obj} (e : (hidT h H).get? b = some o) : h.get? b = some o ∧ H b = none := by
 have e' : h.get? b = some o := PySem.W.of_hideAll (trk h H) e
 refine ⟨e', ?_⟩
 cases q : H b with
 | none => rfl
 | some x =>
   have hm : b ∈ trk h H := List.mem_filter.mpr ⟨List.mem_range.mpr (Heap.lt_size e'), by simp [q]⟩
   have z : (hidT h H).get? b = none := PySem.W.hideAll_none (trk h H) hm
   rw [z] at e; cases e
def allNews (g h : Heap) (L : Addr) : List (Addr × Obj) := (List.range h.objs.size).filterMap fun a => if a = L ∨ (g.get? a).isSome = true then none else (h.get? a).map fun o => (a, o)
def rest (g h : Heap) (L d : Addr) : List (Addr × Obj) := (allNews g h L).filter fun p => decide (p.1 ≠ d)
end L2
namespace L2
open PySem PySem.Spec PyProof.Rows
structure Mod (K : Q5) (mg : Str → Option Value) (base : Heap) : Prop where
 kin : K.In base
 glob : base.Ns mainGlobals mg
 blt : ∃ mb, base.Ns builtinsNs mb ∧ ∀ x : Str, x ≠ "__name__" → mb x = bootBuiltins x
 nolimit : base.NoLimit
structure Cx where
 prog : Program
 w : World
 K : PySem.W.Frag
 mg : Str → Option Value
 base : Heap
 A : Around
 N : List Str
 s₀ : Shared
 H₀ : Hp
 env : Env
 outer : List Env
 stack : List Env
 ex : List Addr
 fn : Str → Bool
 calm : Bool
 pn : List (Addr × Obj)
 xe : Value → Shared → Prop
def frs (l : List Env) : List Addr := l.filterMap (·.frame)
abbrev Cx.fs (X : Cx) : List Addr := frs X.outer
def Vis (sc : Scope) (x : Str) : Prop := sc.names.lookup x = some .local ∨ sc.names.lookup x = some .cell ∨ sc.names.lookup x = some .free
def Loc (sc : Scope) (x : Str) : Prop := sc.names.lookup x = some .local ∨ sc.names.lookup x = some .cell
def Look (env : Env) (h : Heap) (m : Str → Option Value) (x : Str) (u : Value) : Prop :=
 (env.kindOf x = some .local ∧ m x = some u) ∨ ((env.kindOf x = some .cell ∨ env.kindOf x = some .free) ∧ ∃ c, env.cells.lookup x = some c ∧ h.IsCell c (some u))
structure Cx.Ok (X : Cx) : Prop where
 mod : Mod X.K X.mg X.base
 kind : X.env.scope.kind = .function
 glob : X.env.globals = mainGlobals
 blt : X.env.builtins = builtinsNs
 above : X.s₀.heap.objs.size ≤ X.env.locals
 inj : ∀ x y c, X.env.cells.lookup x = some c → X.env.cells.lookup y = some c → x = y
 has : ∀ x, (X.env.kindOf x = some .cell ∨ X.env.kindOf x = some .free) → ∃ c, X.env.cells.lookup x = some c
 cab : ∀ x c, X.fn x = true → X.env.cells.lookup x = some c → X.s₀.heap.objs.size ≤ c
 hd : X.calm = true → X.A.handled = none
 frames : X.A.frames = some X.stack
 stk : X.stack = X.outer ∨ (X.stack = X.env :: X.outer ∧ X.env.frame = some X.env.locals)
 exf : ∀ b ∈ X.ex, b ≠ X.env.locals ∧ ∀ x c, X.env.cells.lookup x = some c → c ≠ b
 bs : ∀ b o, X.base.get? b = some o → X.s₀.heap.get? b = some o ∧ X.H₀ b = none
 bsz : X.base.objs.size ≤ X.s₀.heap.objs.size
 noex : ∀ b o, X.base.get? b = some o → b ∉ X.ex
 exfs : ∀ b ∈ X.ex, b ∉ X.fs
 funs : X.s₀.heap.FunFrames X.base X.outer
 frf : ∀ b ∈ X.fs, X.H₀ b = none
structure Inv (X : Cx) (pins : Q4) (σ : List (Option V)) (H : Hp) (s : Shared) : Prop where
 ok : X.Ok
 os : s.os = X.s₀.os
 bare : AllBare s.gens
 base : Un X.fs X.ex X.H₀ H X.s₀.heap s.heap
 loc : ∃ m, s.heap.Ns X.env.locals m ∧ ∀ (i : Nat) (x : Str) (v : V), X.N[i]? = some x → σ[i]? = some (some v) → Vis X.env.scope x → ∃ u, RelV v u ∧ Look X.env s.heap m x u
 cell : ∀ x c, X.env.cells.lookup x = some c → ∃ v, s.heap.IsCell c v
 free : H X.env.locals = none
 freeC : ∀ x c, X.env.cells.lookup x = some c → H c = none
 pin : ∀ p ∈ X.pn ++ pins, s.heap.get? p.1 = some p.2 ∧ H p.1 = none ∧ p.1 ≠ X.env.locals ∧ p.1 ∉ X.fs ∧ ∀ v, p.2.data ≠ .cell v
 hok : HOk X.prog X.w H s.heap
 len : σ.length = X.N.length
section
variable {X : Cx} {pins : Q4} {σ : List (Option V)} {H H' : Hp} {s : Shared} {h' : Heap}
theorem Cx.Ok.nofr (ok : X.Ok) {b : Addr} {o : Obj} (e : X.base.get? b = some o) : b ∉ X.fs := fun hb => by
 have := (ok.funs.mem hb).1
 rw [e] at this; cases this
theorem Inv.bs (I : Inv X pins σ H s) : ∀ b o, X.base.get? b = some o → s.heap.get? b = some o ∧ H b = none := fun b o e =>
 ⟨I.base.keep b o (I.ok.bs b o e).1 (I.ok.bs b o e).2 (I.ok.nofr e) (I.ok.noex b o e), I.base.free b o (I.ok.bs b o e).1 (I.ok.bs b o e).2 (I.ok.noex b o e)⟩
theorem Inv.bk (I : Inv X pins σ H s) : ∀ b o, X.base.get? b = some o → s.heap.get? b = some o := fun b o e => (I.bs b o e).1
theorem Inv.mod (I : Inv X pins σ H s) : Mod X.K X.mg X.base := I.ok.mod
theorem Inv.kIn (I : Inv X pins σ H s) : X.K.In s.heap := I.ok.mod.kin.keeps I.bk
theorem Inv.lt (I : Inv X pins σ H s) : X.env.locals < s.heap.objs.size := let ⟨_, hn, _⟩ := I.loc; hn.lt
theorem Inv.sz (I : Inv X pins σ H s) : X.s₀.heap.objs.size ≤ s.heap.objs.size := Nat.le_trans I.ok.above (Nat.le_of_lt I.lt)
theorem Inv.nofs (I : Inv X pins σ H s) {a : Addr} (h : s.heap.objs.size ≤ a) : a ∉ X.fs := fun hb => by
 obtain ⟨_, o, ho, _⟩ := I.ok.funs.mem hb
 exact absurd (Nat.lt_of_lt_of_le (Heap.lt_size ho) (Nat.le_trans I.sz h)) (Nat.lt_irrefl _)
theorem Inv.cne (I : Inv X pins σ H s) : ∀ x c, X.env.cells.lookup x = some c → c ≠ X.env.locals := fun x c e z => by
 obtain ⟨v, o, ho, hd⟩ := I.cell x c e
 obtain ⟨m, ⟨o', es, ep, ho', hd', _⟩, _⟩ := I.loc
 rw [z, ho'] at ho; cases ho; rw [hd'] at hd; cases hd
theorem Inv.funs (I : Inv X pins σ H s) : s.heap.FunFrames X.base X.outer := by
 have all : ∀ (l : List Env), (∀ b ∈ frs l, b ∈ X.fs) → X.s₀.heap.FunFrames X.base l → s.heap.FunFrames X.base l := by
  intro l
  induction l with
  | nil => intro _ _; trivial
  | cons env r ih =>
    intro hs hl
    obtain ⟨hk, ⟨L, o, hf, hn, ho, hd⟩, hr⟩ := hl
    have hL : L ∈ X.fs := hs L (by unfold frs; rw [List.filterMap_cons, hf]; exact List.mem_cons_self)
    obtain ⟨sl, e⟩ := I.base.slot L o ho (I.ok.frf L hL) hL fun z => I.ok.exfs L z hL
    exact ⟨hk, ⟨L, _, hf, hn, e, hd⟩, ih (fun b hb => hs b (by unfold frs; rw [List.filterMap_cons, hf]; exact List.mem_cons_of_mem _ hb)) hr⟩
 exact all X.outer (fun _ hb => hb) I.ok.funs
theorem Inv.stack (I : Inv X pins σ H s) : s.heap.FunFrames X.base X.stack := by
 rcases I.ok.stk with e | ⟨e, hf⟩
 ·rw [e]; exact I.funs
 ·rw [e]
  obtain ⟨m, hn, _⟩ := I.loc
  refine .cons (by rw [I.ok.kind]; decide) hf hn ?_ I.funs
  exact Heap.get?_none_of_le (Nat.le_trans I.ok.bsz I.ok.above)
theorem Inv.stkSub (I : Inv X pins σ H s) : ∀ b ∈ frs X.stack, b ∈ X.env.locals :: X.fs := fun b hb => by
 rcases I.ok.stk with e | ⟨e, hf⟩
 ·rw [e] at hb; exact List.mem_cons_of_mem _ hb
 ·rw [e] at hb
  unfold frs at hb
  rw [List.filterMap_cons, hf] at hb
  exact hb
theorem Inv.stkFree (I : Inv X pins σ H s) : ∀ b ∈ frs X.stack, H b = none := fun b hb => by
 rcases List.mem_cons.mp (I.stkSub b hb) with e | hb
 ·rw [e]; exact I.free
 ·obtain ⟨_, o, ho, _⟩ := I.ok.funs.mem hb
  exact I.base.free b o ho (I.ok.frf b hb) fun z => I.ok.exfs b z hb
theorem Inv.step {g' : Array GenState} {t' : Nat} {d' : Drawn} {ch : List Addr} (I : Inv X pins σ H s)
 (hch : ∀ b ∈ ch, (b ∈ X.ex ∨ X.s₀.heap.objs.size ≤ b) ∧ b ≠ X.env.locals ∧ (∀ x c, X.env.cells.lookup x = some c → c ≠ b) ∧ ∀ p ∈ X.pn ++ pins, p.1 ≠ b)
 (keep : ∀ b o, b ≠ X.env.locals → b ∉ X.fs → b ∉ ch → s.heap.get? b = some o → H b = none → h'.get? b = some o)
 (slot : ∀ b o, b ≠ X.env.locals → b ∈ X.fs → b ∉ ch → s.heap.get? b = some o → H b = none → ∃ sl, h'.get? b = some { o with slots := sl }) (free : ∀ b o, b ∉ ch → s.heap.get? b = some o → H b = none → H' b = none)
 (there : ∀ b o, b ∉ ch → s.heap.get? b = some o → ∃ o', h'.get? b = some o')
 (tups : ∀ b xs, H b = some (.tup xs) → H' b = some (.tup xs)) (frzs : ∀ b o u, H b = some (.frz o u) → H' b = some (.frz o u)) (tbls : ∀ b ps, H b = some (.tbl ps) → ∃ more, H' b = some (.tbl (ps ++ more)))
 (ns : ∀ m, s.heap.Ns X.env.locals m → h'.Ns X.env.locals m) (hok : HOk X.prog X.w H' h') (hg : AllBare g') :
 Inv X pins σ H' { s with heap := h', gens := g', drawn := d', toks := t' } := by
 have neL : ∀ b o, X.s₀.heap.get? b = some o → b ≠ X.env.locals := fun b o e => Nat.ne_of_lt (Nat.lt_of_lt_of_le (Heap.lt_size e) I.ok.above)
 have neC : ∀ b o, X.s₀.heap.get? b = some o → b ∉ X.ex → b ∉ ch := fun b o e hx hb => by
  rcases (hch b hb).1 with z | z
  ·exact hx z
  ·exact absurd (Nat.lt_of_lt_of_le (Heap.lt_size e) z) (Nat.lt_irrefl _)
 have cellK : ∀ x c, X.env.cells.lookup x = some c → ∀ v, s.heap.IsCell c v → h'.IsCell c v := fun x c e v ⟨o, ho, hd⟩ => by
  have nch : c ∉ ch := fun z => (hch c z).2.2.1 x c e rfl
  by_cases hc : c ∈ X.fs
  ·obtain ⟨sl, q⟩ := slot c o (I.cne x c e) hc nch ho (I.freeC x c e)
   exact ⟨_, q, hd⟩
  ·exact ⟨o, keep c o (I.cne x c e) hc nch ho (I.freeC x c e), hd⟩
 refine ⟨I.ok, I.os, hg, ⟨fun b o e n hb hx => ?_, fun b o e n hb hx => ?_, fun b o e n hx => ?_, fun b o e hx => ?_, fun b xs e => tups b xs (I.base.tups b xs e), fun b o xs e => frzs b o xs (I.base.frzs b o xs e), fun b ps e => ?_⟩, ?_, fun x c e => ?_, ?_, fun x c e => ?_, fun p hp => ?_, hok, I.len⟩
 ·exact keep b o (neL b o e) hb (neC b o e hx) (I.base.keep b o e n hb hx) (I.base.free b o e n hx)
 ·obtain ⟨sl, e1⟩ := I.base.slot b o e n hb hx
  obtain ⟨sl', e2⟩ := slot b _ (neL b o e) hb (neC b o e hx) e1 (I.base.free b o e n hx)
  exact ⟨sl', e2⟩
 ·obtain ⟨o', e1⟩ := I.base.there b o e hx
  exact free b o' (neC b o e hx) e1 (I.base.free b o e n hx)
 ·obtain ⟨o', e1⟩ := I.base.there b o e hx
  exact there b o' (neC b o e hx) e1
 ·obtain ⟨m1, e1⟩ := I.base.tbls b ps e
  obtain ⟨m2, e2⟩ := tbls b _ e1
  exact ⟨m1 ++ m2, by rw [e2, Array.append_assoc]⟩
 ·obtain ⟨m, hn, hl⟩ := I.loc
  refine ⟨m, ns m hn, fun i x v e1 e2 e3 => ?_⟩
  obtain ⟨u, r, l⟩ := hl i x v e1 e2 e3
  refine ⟨u, r, ?_⟩
  rcases l with l | ⟨k, c, e, z⟩
  ·exact .inl l
  ·exact .inr ⟨k, c, e, cellK x c e _ z⟩
 ·obtain ⟨v, z⟩ := I.cell x c e
  exact ⟨v, cellK x c e v z⟩
 ·obtain ⟨m, ⟨o, _, _, ho, _⟩, _⟩ := I.loc
  exact free _ o (fun z => (hch _ z).2.1 rfl) ho I.free
 ·obtain ⟨v, o, ho, hd⟩ := I.cell x c e
  exact free c o (fun z => (hch c z).2.2.1 x c e rfl) ho (I.freeC x c e)
 ·obtain ⟨e, n, ne, nf, d⟩ := I.pin p hp
  have nch : p.1 ∉ ch := fun z => (hch p.1 z).2.2.2 p hp rfl
  exact ⟨keep p.1 p.2 ne nf nch e n, free p.1 p.2 nch e n, ne, nf, d⟩
theorem Inv.un {t' : Nat} (I : Inv X pins σ H s) (u : Un X.fs [] H H' s.heap h') (hok : HOk X.prog X.w H' h') : Inv X pins σ H' { s with heap := h', toks := t' } := by
 obtain ⟨m, ⟨o, es, ep, ho, r⟩, _⟩ := id I.loc
 obtain ⟨sl, hL⟩ := u.any ho I.free (by simp)
 exact I.step (g' := s.gens) (d' := s.drawn) (ch := []) (fun _ z => nomatch z) (fun b o _ hb _ e n => u.keep b o e n hb (by simp)) (fun b o _ hb _ e n => u.slot b o e n hb (by simp)) (fun b o _ e n => u.free b o e n (by simp)) (fun b o _ e => u.there b o e (by simp)) u.tups u.frzs u.tbls (fun m' hm => by
  obtain ⟨o', es', ep', ho', r'⟩ := hm
  rw [ho] at ho'; cases ho'
  exact ⟨_, es', ep', hL, r'⟩) hok I.bare
theorem Inv.call {g' : Array GenState} {t' : Nat} {d' : Drawn} {ch : List Addr} (I : Inv X pins σ H s) (u : Un (frs X.stack) ch H H' s.heap h') (hok : HOk X.prog X.w H' h') (hg : AllBare g')
 (hch : ∀ b ∈ ch, (b ∈ X.ex ∨ X.s₀.heap.objs.size ≤ b) ∧ b ≠ X.env.locals ∧ (∀ x c, X.env.cells.lookup x = some c → c ≠ b) ∧ ∀ p ∈ X.pn ++ pins, p.1 ≠ b) :
 Inv X pins σ H' { s with heap := h', gens := g', drawn := d', toks := t' } := by
 obtain ⟨m, ⟨o, es, ep, ho, r⟩, _⟩ := id I.loc
 obtain ⟨sl, hL⟩ := u.any ho I.free fun z => (hch _ z).2.1 rfl
 exact I.step (ch := ch) hch (fun b o hL hb hc e n => u.keep b o e n (fun z => (List.mem_cons.mp (I.stkSub b z)).elim hL hb) hc) (fun b o _ _ hc e n => u.any e n hc) (fun b o hc e n => u.free b o e n hc) (fun b o hc e => u.there b o e hc) u.tups u.frzs u.tbls (fun m' hm => by
  obtain ⟨o', es', ep', ho', r'⟩ := hm
  rw [ho] at ho'; cases ho'
  exact ⟨_, es', ep', hL, r'⟩) hok hg
theorem Inv.turned {t' : Nat} {it : Addr} (I : Inv X pins σ H s) (k : ∀ b o, b ≠ it → s.heap.get? b = some o → h'.get? b = some o) (hn : H it = none) (hL : it ≠ X.env.locals)
 (h1 : it ∈ X.ex ∨ X.s₀.heap.objs.size ≤ it) (h2 : ∀ x c, X.env.cells.lookup x = some c → c ≠ it) (h3 : ∀ p ∈ X.pn ++ pins, p.1 ≠ it) : Inv X pins σ H { s with heap := h', toks := t' } := by
 have nit : ∀ b u, H b = some u → b ≠ it := fun b u e z => by rw [z, hn] at e; cases e
 refine I.step (g' := s.gens) (d' := s.drawn) (ch := [it]) (fun b hb => ?_) (fun b o _ _ hc e _ => k b o (fun z => hc (by simp [z])) e) (fun b o _ _ hc e _ => ⟨o.slots, k b o (fun z => hc (by simp [z])) e⟩) (fun _ _ _ _ n => n)
  (fun b o hc e => ⟨o, k b o (fun z => hc (by simp [z])) e⟩) (fun _ _ e => e) (fun _ _ _ e => e) (fun b ps e => ⟨#[], by rw [e]; simp⟩) (fun m hm => ?_) (fun b u e => ?_) I.bare
 ·have e : b = it := by simpa using hb
  subst e
  exact ⟨h1, hL, h2, h3⟩
 ·obtain ⟨o, es, ep, ho, r⟩ := hm
  exact ⟨o, es, ep, k _ o (Ne.symm hL) ho, r⟩
 ·refine (I.hok b u e).stay (fun c v hc q => k c v ?_ q) (fun _ q => q) fun _ _ q => q
  rcases hc with z | z
  ·rw [z]; exact nit b u e
  ·exact nit c _ z
theorem Inv.tok (I : Inv X pins σ H s) (t : Nat) : Inv X pins σ H { s with toks := t } := I.un (h' := s.heap) (t' := t) Un.refl I.hok
theorem Inv.kept {t' : Nat} (I : Inv X pins σ H s) (k : ∀ b u, s.heap.get? b = some u → h'.get? b = some u) : Inv X pins σ H { s with heap := h', toks := t' } := I.un (Un.kept k) (I.hok.kept k)
theorem Inv.laid {a : Addr} {o : HO} {t' : Nat} (I : Inv X pins σ H s) (k : ∀ b u, s.heap.get? b = some u → h'.get? b = some u) (hp : s.heap.objs.size ≤ a) (new : ObjOk X.prog X.w (upd H a o) h' a o) :
 Inv X pins σ (upd H a o) { s with heap := h', toks := t' } := I.un (Un.laid k hp (I.hok.fresh hp)) (I.hok.laid k hp new)
theorem Inv.write {x e : Addr} {o : HO} {t' : Nat} (I : Inv X pins σ H s) (mu : Mut (H x)) (he : e = x ∨ H e = some (.own x)) (k : ∀ b u, b ≠ e → s.heap.get? b = some u → h'.get? b = some u) (heo : ∃ u, h'.get? e = some u)
 (new : ObjOk X.prog X.w (upd H x o) h' x o) : Inv X pins σ (upd H x o) { s with heap := h', toks := t' } := I.un (Un.write mu he k heo) (I.hok.write mu he k heo new)
theorem Inv.Qcp {pins' : Q4} (I : Inv X pins σ H s) (h : ∀ p ∈ pins', s.heap.get? p.1 = some p.2 ∧ H p.1 = none ∧ p.1 ≠ X.env.locals ∧ p.1 ∉ X.fs ∧ ∀ v, p.2.data ≠ .cell v) : Inv X pins' σ H s :=
 ⟨I.ok, I.os, I.bare, I.base, I.loc, I.cell, I.free, I.freeC, fun p hp => (List.mem_append.mp hp).elim (fun z => I.pin p (List.mem_append_left _ z)) (h p), I.hok, I.len⟩
theorem Qhu {N : List Str} (hN : N.Nodup) {i j : Nat} {x : Str} (a : N[i]? = some x) (b : N[j]? = some x) : i = j := by
 obtain ⟨h1, e1⟩ := List.getElem?_eq_some_iff.mp a
 obtain ⟨h2, e2⟩ := List.getElem?_eq_some_iff.mp b
 exact (List.getElem_inj hN).mp (e1.trans e2.symm)
theorem Qjd {M : Model} {A : Around} {E : Q3} {i : Nat} {x : Str} {v : V} {u : Value} {Q : Unit → Shared → Prop} (I : Inv X pins σ H s) (hN : X.N.Nodup) (hi : X.N[i]? = some x) (hx : Loc X.env.scope x) (r : RelV v u)
 (h : ∀ s', Inv X pins (σ.set i (some v)) H s' → (∃ a, Heap.SameBut a s.heap s'.heap ∧ (a = X.env.locals ∨ X.env.cells.lookup x = some a)) → Q () s') (hf : X.fn x = true ∨ X.env.scope.names.lookup x = some .local := by first | exact .inl rfl | exact .inr rfl | assumption) : wpAny M A (storeName X.env x u) Q E s := by
 obtain ⟨m, hn, hl⟩ := id I.loc
 have hcls : (X.env.scope.kind == .class || (X.env.scope.kind == .module && X.env.locals != X.env.globals)) = false := by rw [I.ok.kind]; rfl
 have hiσ : i < σ.length := by rw [I.len]; exact (List.getElem?_eq_some_iff.mp hi).1
 have cne := I.cne
 have tracked : ∀ {a : Addr} {h' : Heap}, (∃ o, s.heap.get? a = some o ∧ H a = none) → Heap.SameBut a s.heap h' → HOk X.prog X.w H h' := fun {a h'} ha hs b ob e => by
  obtain ⟨_, _, hfree⟩ := ha
  refine (I.hok b ob e).stay (fun c w' hc q => (hs.2 c ?_).trans q) (fun _ q => q) fun _ _ q => q
  rintro rfl
  rcases hc with rfl | hc
  ·rw [hfree] at e; cases e
  ·rw [hfree] at hc; cases hc
 rcases hx with hk | hk
 ·refine wpAny_storeName_local hk hn (fun h' hn' hs => ?_) hcls
  obtain ⟨oL, _, _, hoL, _⟩ := id hn
  refine h _ ⟨I.ok, I.os, I.bare, ⟨fun b o e n hb hx => ?_, fun b o e n hb hx => ?_, I.base.free, fun b o e hx => ?_, I.base.tups, I.base.frzs, I.base.tbls⟩, ⟨_, hn', fun j y v' e1 e2 e3 => ?_⟩, fun y c e => ?_, I.free, I.freeC, fun p hp => ?_, tracked ⟨oL, hoL, I.free⟩ hs, by simpa using I.len⟩ ⟨_, hs, .inl rfl⟩
  ·exact (hs.2 b (Nat.ne_of_lt (Nat.lt_of_lt_of_le (Heap.lt_size e) I.ok.above))).trans (I.base.keep b o e n hb hx)
  ·obtain ⟨sl, e1⟩ := I.base.slot b o e n hb hx
   exact ⟨sl, (hs.2 b (Nat.ne_of_lt (Nat.lt_of_lt_of_le (Heap.lt_size e) I.ok.above))).trans e1⟩
  ·obtain ⟨o', e1⟩ := I.base.there b o e hx
   exact ⟨o', (hs.2 b (Nat.ne_of_lt (Nat.lt_of_lt_of_le (Heap.lt_size e) I.ok.above))).trans e1⟩
  ·by_cases hj : j = i
   ·subst hj
    rw [hi] at e1; cases e1
    rw [List.getElem?_set_self hiσ] at e2
    cases e2
    exact ⟨u, r, .inl ⟨hk, by simp⟩⟩
   ·rw [List.getElem?_set_ne (Ne.symm hj)] at e2
    obtain ⟨u', r', q⟩ := hl j y v' e1 e2 e3
    refine ⟨u', r', ?_⟩
    rcases q with ⟨k, e⟩ | ⟨k, c, e, z⟩
    ·refine .inl ⟨k, ?_⟩
     have : y ≠ x := fun e => hj (Qhu hN e1 (e ▸ hi))
     simp [this, e]
    ·exact .inr ⟨k, c, e, z.sameBut hs (cne y c e)⟩
  ·obtain ⟨w', z⟩ := I.cell y c e
   exact ⟨w', z.sameBut hs (cne y c e)⟩
  ·obtain ⟨e, n, ne, nf, d⟩ := I.pin p hp
   exact ⟨(hs.2 p.1 ne).trans e, n, ne, nf, d⟩
 ·have hfn : X.fn x = true := by
   rcases hf with z | z
   ·exact z
   ·rw [z] at hk; cases hk
  obtain ⟨c, hc⟩ := I.ok.has x (.inl hk)
  obtain ⟨w', z⟩ := I.cell x c hc
  refine wpAny_storeName_cell I.ok.kind hk hc z (fun h' hc' hs => ?_)
  obtain ⟨oc, hoc, hocd⟩ := id z
  refine h { s with heap := h' } ⟨I.ok, I.os, I.bare, ⟨fun b o e n hb hx => ?_, fun b o e n hb hx => ?_, I.base.free, fun b o e hx => ?_, I.base.tups, I.base.frzs, I.base.tbls⟩, ⟨m, hn.sameBut hs (Ne.symm (cne x c hc)), fun j y v' e1 e2 e3 => ?_⟩, fun y c' e => ?_, I.free, I.freeC, fun p hp => ?_, tracked ⟨oc, hoc, I.freeC x c hc⟩ hs, by simpa using I.len⟩ ⟨c, hs, .inr hc⟩
  ·exact (hs.2 b (Nat.ne_of_lt (Nat.lt_of_lt_of_le (Heap.lt_size e) (I.ok.cab x c hfn hc)))).trans (I.base.keep b o e n hb hx)
  ·obtain ⟨sl, e1⟩ := I.base.slot b o e n hb hx
   exact ⟨sl, (hs.2 b (Nat.ne_of_lt (Nat.lt_of_lt_of_le (Heap.lt_size e) (I.ok.cab x c hfn hc)))).trans e1⟩
  ·obtain ⟨o', e1⟩ := I.base.there b o e hx
   exact ⟨o', (hs.2 b (Nat.ne_of_lt (Nat.lt_of_lt_of_le (Heap.lt_size e) (I.ok.cab x c hfn hc)))).trans e1⟩
  ·by_cases hj : j = i
   ·subst hj
    rw [hi] at e1; cases e1
    rw [List.getElem?_set_self hiσ] at e2
    cases e2
    exact ⟨u, r, .inr ⟨.inl hk, c, hc, hc'⟩⟩
   ·rw [List.getElem?_set_ne (Ne.symm hj)] at e2
    obtain ⟨u', r', q⟩ := hl j y v' e1 e2 e3
    refine ⟨u', r', ?_⟩
    rcases q with q | ⟨k, c', e, z'⟩
    ·exact .inl q
    ·refine .inr ⟨k, c', e, z'.sameBut hs ?_⟩
     rintro rfl
     exact hj (Qhu hN e1 (I.ok.inj _ _ _ e hc ▸ hi))
  ·by_cases hcc : c' = c
   ·subst hcc; exact ⟨_, hc'⟩
   ·obtain ⟨w2, z2⟩ := I.cell y c' e
    exact ⟨w2, z2.sameBut hs hcc⟩
  ·obtain ⟨e, n, ne, nf, d⟩ := I.pin p hp
   refine ⟨(hs.2 p.1 ?_).trans e, n, ne, nf, d⟩
   intro q
   rw [q, hoc] at e
   have q' : oc = p.2 := Option.some.inj e
   exact d w' (by rw [← q']; exact hocd)
theorem Qhg {M : Model} {A : Around} {E : Q3} {i : Nat} {x : Str} {v : V} {u : Value} {Q : Unit → Shared → Prop} (I : Inv X pins σ H s) (hN : X.N.Nodup) (hi : X.N[i]? = some x) (hx : Loc X.env.scope x) (r : RelV v u)
 (h : ∀ s', Inv X pins (σ.set i (some v)) H s' → Q () s') (hf : X.fn x = true ∨ X.env.scope.names.lookup x = some .local := by first | exact .inl rfl | exact .inr rfl | assumption) : wpAny M A (storeName X.env x u) Q E s :=
 Qjd I hN hi hx r (fun s' I' _ => h s' I') hf
theorem Inv.call' {s' : Shared} {ch : List Addr} (I : Inv X pins σ H s) (ho : s'.os = s.os) (u : Un (frs X.stack) ch H H' s.heap s'.heap) (hok : HOk X.prog X.w H' s'.heap) (hg : AllBare s'.gens)
 (hch : ∀ b ∈ ch, (b ∈ X.ex ∨ X.s₀.heap.objs.size ≤ b) ∧ b ≠ X.env.locals ∧ (∀ x c, X.env.cells.lookup x = some c → c ≠ b) ∧ ∀ p ∈ X.pn ++ pins, p.1 ≠ b) : Inv X pins σ H' s' := by
 obtain ⟨h', g', d', t', o'⟩ := s'
 have e : o' = s.os := ho
 subst e
 exact I.call (g' := g') (t' := t') (d' := d') u hok hg hch
end
abbrev XK := Value → Option Addr → Hp → Prop
abbrev St := List (Option V)
abbrev VK := V → Hp → Prop
abbrev TE := St → Hp → VK → Prop
abbrev TT := St → Hp → (Bool → Hp → Prop) → Prop
abbrev TA := St → Hp → (List V → Hp → Prop) → Prop
structure Ends where
 nx : St → Hp → Prop
 rt : VK
 bk : St → Hp → Prop := fun _ _ => False
 ct : St → Hp → Prop := fun _ _ => False
abbrev TS := Ends → St → Hp → Prop
def EP (X : Cx) (pins : Q4) (σ : St) (Q : VK) (u : Value) (s' : Shared) : Prop := ∃ v H', Inv X pins σ H' s' ∧ RelV v u ∧ Q v H'
def TP (X : Cx) (pins : Q4) (σ : St) (Q : Bool → Hp → Prop) (b : Bool) (s' : Shared) : Prop := ∃ H', Inv X pins σ H' s' ∧ Q b H'
def AP (X : Cx) (pins : Q4) (σ : St) (Q : List V → Hp → Prop) (us : List Value) (s' : Shared) : Prop := ∃ vs H', Inv X pins σ H' s' ∧ Vals vs us ∧ Q vs H'
def SP (X : Cx) (pins : Q4) (D : Ends) (f : Flow) (s' : Shared) : Prop :=
 match f with
 | .next => ∃ σ' H', Inv X pins σ' H' s' ∧ D.nx σ' H'
 | .brk => ∃ σ' H', Inv X pins σ' H' s' ∧ D.bk σ' H'
 | .cont => ∃ σ' H', Inv X pins σ' H' s' ∧ D.ct σ' H'
 | .ret u => ∃ v σ' H', Inv X pins σ' H' s' ∧ RelV v u ∧ D.rt v H'
def PE (X : Cx) (e : Expr) (t : TE) : Prop :=
 ∀ (pins : Q4) (s : Shared) (σ : St) (H : Hp) (Q : VK), Inv X pins σ H s → t σ H Q → wpAny (model X.prog X.w) X.A (eval e X.env) (EP X pins σ Q) X.xe s
def PT (X : Cx) (e : Expr) (t : TT) : Prop :=
 ∀ (pins : Q4) (s : Shared) (σ : St) (H : Hp) (Q : Bool → Hp → Prop), Inv X pins σ H s → t σ H Q → wpAny (model X.prog X.w) X.A (isTrue e X.env (eval e X.env)) (TP X pins σ Q) X.xe s
def PW (X : Cx) (e : Expr) (t : TT) : Prop :=
 ∀ (whole : Sem Value) (pins : Q4) (s : Shared) (σ : St) (H : Hp) (Q : Bool → Hp → Prop), Inv X pins σ H s → t σ H Q → wpAny (model X.prog X.w) X.A (isTrue e X.env whole) (TP X pins σ Q) X.xe s
theorem PW.pt {X : Cx} {e : Expr} {t : TT} (h : PW X e t) : PT X e t := h _
def PA (X : Cx) (es : List Expr) (t : TA) : Prop :=
 ∀ (pos : Pos) (pins : Q4) (s : Shared) (σ : St) (H : Hp) (Q : List V → Hp → Prop), Inv X pins σ H s → t σ H Q → wpAny (model X.prog X.w) X.A (spliced (backTo pos (starEach es X.env))) (AP X pins σ Q) X.xe s
def PS (X : Cx) (st : Stmt) (t : TS) : Prop :=
 ∀ (pins : Q4) (s : Shared) (σ : St) (H : Hp) (D : Ends), Inv X pins σ H s → t D σ H → wpAny (model X.prog X.w) X.A (exec st X.env) (SP X pins D) X.xe s
def PSs (X : Cx) (st : List Stmt) (t : TS) : Prop :=
 ∀ (pins : Q4) (s : Shared) (σ : St) (H : Hp) (D : Ends), Inv X pins σ H s → t D σ H → wpAny (model X.prog X.w) X.A (execs st X.env) (SP X pins D) X.xe s
theorem thn {α : Type} {t : Sem α} {Q Q' : α → Shared → Prop} {M : Model} {A : Around} {E : Q3} {s : Shared} (h : wpAny M A t Q E s) (hQ : ∀ a s, Q a s → Q' a s) : wpAny M A t Q' E s := wpAny_mono h hQ fun _ _ x => x
end L2
namespace L2
open PySem PySem.Spec PyProof.Rows
section
variable {X : Cx}
def tVar (i : Nat) : TE := fun σ H Q => ∃ v, σ[i]? = some (some v) ∧ Q v H
def tC (v : V) : TE := fun _ H Q => Q v H
theorem pe_var {i : Nat} {x : Str} {pos : Pos} (hN : X.N[i]? = some x) (hv : Vis X.env.scope x) (hd : (x == ("__debug__" : Str)) = false := by decide) (hcd : (x == ("__classdict__" : Str)) = false := by decide) : PE X (.Name x pos) (tVar i) := by
 intro pins s σ H Q I h
 obtain ⟨v, e, h⟩ := h
 obtain ⟨m, hn, hl⟩ := I.loc
 obtain ⟨u, r, l⟩ := hl i x v hN e hv
 have fin : EP X pins σ Q u s := ⟨v, H, I, r, h⟩
 rcases l with ⟨hk, hm⟩ | ⟨hk, c, hc, hcell⟩
 ·exact wpAny_Name (wpAny_loadName_local I.ok.kind hk hn hm fin) hd
 ·rcases hk with hk | hk
  ·exact wpAny_Name (wpAny_loadName_cell I.ok.kind hk hc hcell fin) hd
  ·exact wpAny_Name (wpAny_loadName_free I.ok.kind hk hc hcell fin hcd) hd
theorem Qac {i j pos} : PE X (.Constant (.int i) j pos) (tC (.int i)) := fun _ _ _ H _ I h => wpAny_Constant_int ⟨.int i, H, I.tok _, ⟨_, rfl⟩, h⟩
theorem Qgz {b j pos} : PE X (.Constant (.bool b) j pos) (tC (.bl b)) := fun _ _ _ H _ I h => Constant_bool ⟨.bl b, H, I, rfl, h⟩
theorem Qeq {j pos} : PE X (.Constant .none j pos) (tC .non) := fun _ _ _ H _ I h => Constant_none ⟨.non, H, I, rfl, h⟩
theorem Qbz {x j pos} : PE X (.Constant (.str x) j pos) (tC (.str x)) := fun _ _ _ H _ I h => Calls.Constant_str ⟨.str x, H, I.tok _, ⟨_, rfl⟩, h⟩
def Gl (X : Cx) (x : Str) : Prop := X.env.kindOf x = some .globalImplicit
theorem Qd1 {E : Q3} {pins : Q4} {s : Shared} {σ : St} {H : Hp} {x : Str} {u : Value} {pos : Pos} {Q : Q3} (I : Inv X pins σ H s) (hg : Gl X x) (hm : X.mg x = some u) (h : Q u s)
 (hd : (x == ("__debug__" : Str)) = false := by decide) : wpAny (model X.prog X.w) X.A (eval (.Name x pos) X.env) Q E s :=
 Calls.Name_function_global I.ok.kind hg (Calls.loadGlobal_global (by rw [I.ok.glob]; exact I.mod.glob.keeps I.bk) hm h) hd
theorem Qet {E : Q3} {pins : Q4} {s : Shared} {σ : St} {H : Hp} {x : Str} {u : Value} {pos : Pos} {Q : Q3} (I : Inv X pins σ H s) (hg : Gl X x) (hm : X.mg x = none) (hv : bootBuiltins x = some u) (h : Q u s)
 (hn : x ≠ "__name__" := by decide) (hd : (x == ("__debug__" : Str)) = false := by decide) : wpAny (model X.prog X.w) X.A (eval (.Name x pos) X.env) Q E s := by
 obtain ⟨mb, h1, h2⟩ := I.mod.blt
 exact Calls.Name_function_global I.ok.kind hg (Calls.loadGlobal_builtin (by rw [I.ok.glob]; exact I.mod.glob.keeps I.bk) hm (by rw [I.ok.blt]; exact h1.keeps I.bk) ((h2 x hn).trans hv) h) hd
theorem Qjw {x : Str} {v : V} {u : Value} {pos : Pos} (hg : Gl X x) (hm : X.mg x = none) (hv : bootBuiltins x = some u) (r : RelV v u) (hn : x ≠ "__name__" := by decide) (hd : (x == ("__debug__" : Str)) = false := by decide) : PE X (.Name x pos) (tC v) :=
 fun _ _ _ H _ I h => Qet I hg hm hv ⟨v, H, I, r, h⟩ hn hd
variable {a b : Expr} {ta tb : TE} {pos : Pos}
def PC (X : Cx) (op : CmpOp) (a b : Expr) (t : TE) : Prop :=
 ∀ (pins : Q4) (s : Shared) (σ : St) (H : Hp) (Q : VK), Inv X pins σ H s → t σ H Q →
   wpAny (model X.prog X.w) X.A (eval a X.env) (fun v s₁ => wpAny (model X.prog X.w) X.A (eval b X.env) (fun u s₂ => wpAny (model X.prog X.w) X.A (compareOp op v u) (EP X pins σ Q) X.xe s₂) X.xe s₁) X.xe s
def tB (t : TE) : TT := fun σ H Q => t σ H fun x H1 => ∃ c, x = .bl c ∧ Q c H1
theorem pt_cmp {op : CmpOp} {t : TE} (h : PC X op a b t) (h1 : behindInMarks op b = false := by first | exact nobehind _ (by decide) (by decide) | rfl) : PT X (.Compare a [op] [b] pos) (tB t) := by
 intro pins s σ H Q I hw
 refine wpAny_isTrue_Compare1 (thn (h pins s σ H _ I hw) fun v s1 h1 => thn h1 fun u s2 h2 => thn h2 fun c s3 ⟨x, H1, I1, r1, q1⟩ => ?_) h1
 obtain ⟨d, rfl, q⟩ := q1
 cases r1
 exact wpAny_truthy_bool ⟨H1, I1, q⟩
theorem Qfv {e : Expr} {t : TE} (h : PE X e t) (he : ∀ whole, isTrue e X.env whole = (do let v ← whole; standAt e.pos; holding [v] (truthy v)) := by intro _; rfl) : PT X e (tB t) := by
 intro pins s σ H Q I hw
 refine isTrue_plain (thn (h pins s σ H _ I hw) fun v s1 ⟨x, H1, I1, r1, q1⟩ => ?_) (he _)
 obtain ⟨d, rfl, q⟩ := q1
 cases r1
 exact wpAny_truthy_bool ⟨H1, I1, q⟩
variable {tA tB' : TT} {rest : List Expr}
def tAnd (t u : TT) : TT := fun σ H Q => t σ H fun c H1 => if c = true then u σ H1 Q else Q false H1
def tOr (t u : TT) : TT := fun σ H Q => t σ H fun c H1 => if c = true then Q true H1 else u σ H1 Q
def tNot (t : TT) : TT := fun σ H Q => t σ H fun c H1 => Q (!c) H1
theorem Qod (ha : PT X a tA) : PW X (.BoolOp .And [a] pos) tA := by
 intro wh pins s σ H Q I h
 refine isTrue_and (thn (ha pins s σ H Q I h) fun c s1 e => ?_)
 cases c with
 | true => exact isTrue_and_nil e
 | false => exact e
theorem Qfu (ha : PT X a tA) : PW X (.BoolOp .Or [a] pos) tA := by
 intro wh pins s σ H Q I h
 refine isTrue_or (thn (ha pins s σ H Q I h) fun c s1 e => ?_)
 cases c with
 | false => exact isTrue_or_nil e
 | true => exact e
theorem pw_and (ha : PT X a tA) (hb : PW X (.BoolOp .And (b :: rest) pos) tB') : PW X (.BoolOp .And (a :: b :: rest) pos) (tAnd tA tB') := by
 intro wh pins s σ H Q I h
 refine isTrue_and (thn (ha pins s σ H _ I h) fun c s1 ⟨H1, I1, q1⟩ => ?_)
 cases c with
 | true => exact hb wh pins s1 σ H1 Q I1 q1
 | false => exact ⟨H1, I1, q1⟩
theorem Qjp (ha : PT X a tA) (hb : PW X (.BoolOp .Or (b :: rest) pos) tB') : PW X (.BoolOp .Or (a :: b :: rest) pos) (tOr tA tB') := by
 intro wh pins s σ H Q I h
 refine isTrue_or (thn (ha pins s σ H _ I h) fun c s1 ⟨H1, I1, q1⟩ => ?_)
 cases c with
 | true => exact ⟨H1, I1, q1⟩
 | false => exact hb wh pins s1 σ H1 Q I1 q1
theorem Qfw (ha : PT X a tA) : PT X (.UnaryOp .Not a pos) (tNot tA) := by
 intro pins s σ H Q I h
 exact isTrue_not (ha pins s σ H (fun c H1 => Q (!c) H1) I h)
def tAndV (ta tb : TE) : TE := fun σ H Q => ta σ H fun x H1 => ∃ c, x = .bl c ∧ if c = true then tb σ H1 Q else Q (.bl false) H1
theorem Qne {op} {t : TE} (h : PE X a t) : PE X (.BoolOp op [a] pos) t := fun pins s σ H Q I hw => BoolOp_one (h pins s σ H Q I hw)
theorem Qng (ha : PE X a ta) (hb : PE X (.BoolOp .And (b :: rest) pos) tb) : PE X (.BoolOp .And (a :: b :: rest) pos) (tAndV ta tb) := by
 intro pins s σ H Q I h
 refine BoolOp_and (thn (ha pins s σ H _ I h) fun v s1 ⟨x, H1, I1, r1, q1⟩ => ?_)
 obtain ⟨c, rfl, q1⟩ := q1
 cases r1
 refine wpAny_truthy_bool ?_
 cases c with
 | true => exact hb pins s1 σ H1 Q I1 q1
 | false => exact ⟨.bl false, H1, I1, rfl, q1⟩
def tIf (t : TT) (ta tb : TE) : TE := fun σ H Q => t σ H fun c H1 => if c = true then ta σ H1 Q else tb σ H1 Q
theorem Qhr {c : Expr} (hc : PT X c tA) (ha : PE X a ta) (hb : PE X b tb) : PE X (.IfExp c a b pos) (tIf tA ta tb) := by
 intro pins s σ H Q I h
 refine wpAny_IfExp (thn (hc pins s σ H _ I h) fun d s1 ⟨H1, I1, q1⟩ => ?_)
 cases d with
 | true => exact ha pins s1 σ H1 Q I1 q1
 | false => exact hb pins s1 σ H1 Q I1 q1
end
end L2
namespace L2
open PySem PySem.Spec PyProof.Rows
def SqL (K : Q5) (H : Hp) (a : Addr) (xs : List V) : Prop :=
 Rd H a (.lst xs) ∨
  ∃ (o : Obj) (its : Array Value) (n : Nat), K.lookup a = some o ∧ o.cls = .type "list" ∧ o.dict = none ∧ o.data = .seq its n ∧ its.size ≤ sizeLine ∧ Vals xs its.toList
def SqT (K : Q5) (H : Hp) (a : Addr) (xs : List V) : Prop :=
 Rd H a (.tup xs) ∨
  ∃ (o : Obj) (its : Array Value) (n : Nat), K.lookup a = some o ∧ o.cls = .type "tuple" ∧ o.data = .seq its n ∧ its.size ≤ sizeLine ∧ Vals xs its.toList
def absV : Value → Option V
 | .none => some .non
 | .bool b => some (.bl b)
 | .int i _ => some (.int i)
 | .str x _ => some (.str x)
 | .bytes b _ => some (.byt b)
 | .float b _ => some (.flt b)
 | .ref a => some (.ref a)
 | .type n => some (.ty n)
 | _ => none
theorem RelV.abs {x : V} {u : Value} (r : RelV x u) : absV u = some x := by
 cases x with
 | non => cases r; rfl
 | bl _ => cases r; rfl
 | int _ => obtain ⟨t, rfl⟩ := r; rfl
 | str _ => obtain ⟨t, rfl⟩ := r; rfl
 | byt _ => obtain ⟨t, rfl⟩ := r; rfl
 | flt _ => obtain ⟨t, rfl⟩ := r; rfl
 | ref _ => cases r; rfl
 | ty _ => cases r; rfl
theorem RelV.inj {x y : V} {u : Value} (r : RelV x u) (q : RelV y u) : x = y := Option.some.inj (r.abs.symm.trans q.abs)
theorem Vals.inj : ∀ {xs ys : List V} {us : List Value}, Vals xs us → Vals ys us → xs = ys
 | _, _, _, .nil, .nil => rfl
 | _, _, _, .cons r t, .cons r' t' => by rw [r.inj r', Vals.inj t t']
section
variable {X : Cx} {pins : Q4} {σ : St} {H : Hp} {s : Shared} {a : Addr} {xs ys : List V}
theorem SqL.of {K : Q5} (h : H a = some (.lst xs)) : SqL K H a xs := .inl (.inl h)
theorem SqT.of {K : Q5} (h : H a = some (.tup xs)) : SqT K H a xs := .inl (.inl h)
theorem Inv.list (I : Inv X pins σ H s) (h : SqL X.K H a xs) : ∃ its : List Value, Vals xs its ∧ PlainL s.heap a its.toArray ∧ xs.length ≤ sizeLine := by
 rcases h with h | ⟨o, its, n, hk, hc, hd, hs, hz, r⟩
 ·obtain ⟨z, its, n, r, e⟩ := h.ok I.hok
  exact ⟨its, r, ⟨_, n, e, rfl, rfl, rfl⟩, z⟩
 ·refine ⟨its.toList, r, ⟨o, n, I.kIn a o hk, hc, hd, by simpa using hs⟩, ?_⟩
  have e := r.length
  simp only [Array.length_toList] at e
  omega
theorem Inv.tuple (I : Inv X pins σ H s) (h : SqT X.K H a xs) : ∃ its : List Value, Vals xs its ∧ IsTup s.heap a its.toArray ∧ xs.length ≤ sizeLine := by
 rcases h with h | ⟨o, its, n, hk, hc, hs, hz, r⟩
 ·obtain ⟨z, its, r, p⟩ := h.ok I.hok
  exact ⟨its, r, p, z⟩
 ·refine ⟨its.toList, r, ⟨o, I.kIn a o hk, hc, n, by simpa using hs⟩, ?_⟩
  have e := r.length
  simp only [Array.length_toList] at e
  omega
theorem Inv.Qhy (I : Inv X pins σ H s) (h : SqL X.K H a xs) (h' : SqL X.K H a ys) : xs = ys := by
 obtain ⟨its, r, ⟨o, n, e, _, _, d⟩, _⟩ := I.list h
 obtain ⟨its', r', ⟨o', n', e', _, _, d'⟩, _⟩ := I.list h'
 rw [e] at e'; cases e'
 rw [d] at d'
 injection d' with d1 _
 have : its = its' := by simpa using congrArg Array.toList d1
 subst this
 exact r.inj r'
theorem Inv.Qi9 (I : Inv X pins σ H s) (h : SqT X.K H a xs) (h' : SqT X.K H a ys) : xs = ys := by
 obtain ⟨its, r, ⟨o, e, _, n, d⟩, _⟩ := I.tuple h
 obtain ⟨its', r', ⟨o', e', _, n', d'⟩, _⟩ := I.tuple h'
 rw [e] at e'; cases e'
 rw [d] at d'
 injection d' with d1 _
 have : its = its' := by simpa using congrArg Array.toList d1
 subst this
 exact r.inj r'
end
abbrev Cx.wish (X : Cx) (E : Q3) : Cx := { X with xe := E }
abbrev Cx.nox (X : Cx) : Cx := X.wish fun _ _ => False
theorem Cx.Ok.wish {X : Cx} (ok : X.Ok) (E : Q3) : (X.wish E).Ok :=
 ⟨ok.mod, ok.kind, ok.glob, ok.blt, ok.above, ok.inj, ok.has, ok.cab, ok.hd, ok.frames, ok.stk, ok.exf, ok.bs, ok.bsz, ok.noex, ok.exfs, ok.funs, ok.frf⟩
theorem Cx.Ok.unwish {X : Cx} {E : Q3} (ok : (X.wish E).Ok) : X.Ok :=
 ⟨ok.mod, ok.kind, ok.glob, ok.blt, ok.above, ok.inj, ok.has, ok.cab, ok.hd, ok.frames, ok.stk, ok.exf, ok.bs, ok.bsz, ok.noex, ok.exfs, ok.funs, ok.frf⟩
section
variable {X : Cx} {pins : Q4} {σ : St} {H : Hp} {s : Shared} {E : Q3}
theorem Inv.wish (I : Inv X pins σ H s) (E : Q3) : Inv (X.wish E) pins σ H s := ⟨I.ok.wish E, I.os, I.bare, I.base, I.loc, I.cell, I.free, I.freeC, I.pin, I.hok, I.len⟩
theorem Inv.unwish (I : Inv (X.wish E) pins σ H s) : Inv X pins σ H s := ⟨I.ok.unwish, I.os, I.bare, I.base, I.loc, I.cell, I.free, I.freeC, I.pin, I.hok, I.len⟩
theorem SP.unwish {D : Ends} {f : Flow} {s' : Shared} (h : SP (X.wish E) pins D f s') : SP X pins D f s' := by
 cases f with
 | next => obtain ⟨σ', H', I, q⟩ := h; exact ⟨σ', H', I.unwish, q⟩
 | brk => obtain ⟨σ', H', I, q⟩ := h; exact ⟨σ', H', I.unwish, q⟩
 | cont => obtain ⟨σ', H', I, q⟩ := h; exact ⟨σ', H', I.unwish, q⟩
 | ret u => obtain ⟨v, σ', H', I, r, q⟩ := h; exact ⟨v, σ', H', I.unwish, r, q⟩
theorem PSs.nox {st : List Stmt} {t : TS} (h : PSs X.nox st t) : PSs X st t := fun pins s σ H D I hw =>
 wpAny_mono (h pins s σ H D (I.wish _) hw) (fun _ _ q => q.unwish) fun _ _ z => False.elim z
end
section
variable {X : Cx} {st : Stmt} {rest : List Stmt} {t u : TS} {e : Expr} {te : TE} {pos : Pos}
def tNext : TS := fun D σ H => D.nx σ H
def tSeq (t u : TS) : TS := fun D σ H => t { D with nx := u D } σ H
theorem Qas : PSs X [] tNext := fun _ _ σ H _ I h => wpAny_execs_nil ⟨σ, H, I, h⟩
theorem Qad (h1 : PS X st t) (h2 : PSs X rest u) : PSs X (st :: rest) (tSeq t u) := by
 intro pins s σ H D I h
 refine wpAny_execs_cons (thn (h1 pins s σ H { D with nx := u D } I h) fun f s1 q => ?_)
 cases f with
 | next =>
   obtain ⟨σ', H', I', q⟩ := q
   exact h2 pins s1 σ' H' D I' q
 | ret v => exact q
 | brk => exact q
 | cont => exact q
theorem Qag (h1 : PS X st t) : PSs X [st] t := by
 intro pins s σ H D I h
 refine wpAny_execs_cons (thn (h1 pins s σ H D I h) fun f s1 q => ?_)
 cases f with
 | next => exact wpAny_execs_nil q
 | ret v => exact q
 | brk => exact q
 | cont => exact q
theorem Inv.quiet {pins : Q4} {σ : St} {H : Hp} {s : Shared} (I : Inv X pins σ H s) : interactive X.env = false := by simp [interactive, I.ok.kind]
def tDrop (te : TE) : TS := fun D σ H => te σ H fun _ H1 => D.nx σ H1
theorem Qbg (he : PE X e te) (hs : swapsWith e none pos.line X.env = pure false := by rfl) : PS X (.Expr e pos) (tDrop te) := by
 intro pins s σ H D I h
 exact wpAny_Expr_any (thn (he pins s σ H _ I h) fun v s1 ⟨x, H1, I1, r1, q1⟩ => ⟨σ, H1, I1, q1⟩) I.quiet hs
def tRet (te : TE) : TS := fun D σ H => te σ H D.rt
theorem Qaq (he : PE X e te) : PS X (.Return (some e) pos) (tRet te) := by
 intro pins s σ H D I h
 exact wpAny_Return_some (thn (he pins s σ H _ I h) fun v s1 ⟨x, H1, I1, r1, q1⟩ => ⟨x, σ, H1, I1, r1, q1⟩)
def tIfS (c : TT) (t u : TS) : TS := fun D σ H => c σ H fun b H1 => if b = true then t D σ H1 else u D σ H1
theorem Qbq {c : Expr} {a b : List Stmt} {tc : TT} (hc : PT X c tc) (ha : PSs X a t) (hb : PSs X b u) : PS X (.If c a b pos) (tIfS tc t u) := by
 intro pins s σ H D I h
 refine wpAny_If (thn (hc pins s σ H _ I h) fun d s1 ⟨H1, I1, q1⟩ => ?_)
 cases d with
 | true => exact ha pins s1 σ H1 D I1 q1
 | false => exact hb pins s1 σ H1 D I1 q1
def tNever : TS := fun _ _ _ => False
theorem Qcj : PS X st tNever := fun _ _ _ _ _ _ h => h.elim
end
abbrev TG := V → St → Hp → (St → Hp → Prop) → Prop
abbrev TGs := List V → St → Hp → (St → Hp → Prop) → Prop
def PG (X : Cx) (target : Expr) (t : TG) : Prop :=
 ∀ (pins : Q4) (s : Shared) (σ : St) (H : Hp) (v : V) (u : Value) (Q : St → Hp → Prop), Inv X pins σ H s → RelV v u → t v σ H Q →
   wpAny (model X.prog X.w) X.A (assign target X.env u) (fun _ s' => ∃ σ' H', Inv X pins σ' H' s' ∧ Q σ' H') X.xe s
def PGs (X : Cx) (ts : List Expr) (t : TGs) : Prop :=
 ∀ (pins : Q4) (s : Shared) (σ : St) (H : Hp) (vs : List V) (us : List Value) (Q : St → Hp → Prop), Inv X pins σ H s → Vals vs us → t vs σ H Q →
   wpAny (model X.prog X.w) X.A (assignInOrder ((assignEach ts X.env).map (·.2)) us) (fun _ s' => ∃ σ' H', Inv X pins σ' H' s' ∧ Q σ' H') X.xe s
section
variable {X : Cx} {pos : Pos}
def gName (i : Nat) : TG := fun v σ H Q => Q (σ.set i (some v)) H
theorem Qak {i : Nat} {x : Str} (hN : X.N.Nodup) (hi : X.N[i]? = some x) (hx : Loc X.env.scope x) (hf : X.fn x = true ∨ X.env.scope.names.lookup x = some .local := by first | exact .inl rfl | exact .inr rfl | assumption) : PG X (.Name x pos) (gName i) := by
 intro pins s σ H v u Q I r h
 exact wpAny_assign_Name (Qhg I hN hi hx r (fun s' I' => ⟨_, H, I', h⟩) hf)
def gNil : TGs := fun vs σ H Q => vs = [] ∧ Q σ H
def gCons (t : TG) (u : TGs) : TGs := fun vs σ H Q => ∃ v r, vs = v :: r ∧ t v σ H fun σ' H' => u r σ' H' Q
theorem Qbx : PGs X [] gNil := by
 intro pins s σ H vs us Q I r h
 obtain ⟨e, h⟩ := h
 subst e
 cases r
 exact assignInOrder_nil ⟨σ, H, I, h⟩
theorem Qam {e : Expr} {es : List Expr} {t : TG} {u : TGs} (h1 : PG X e t) (h2 : PGs X es u)
 (hs : (assignEach (e :: es) X.env).map (·.2) = assign e X.env :: (assignEach es X.env).map (·.2) := by rfl) : PGs X (e :: es) (gCons t u) := by
 intro pins s σ H vs us Q I r h
 obtain ⟨v, vr, e1, h⟩ := h
 subst e1
 cases r with
 | cons r rr =>
   rw [hs]
   refine assignInOrder_cons (thn (h1 pins s σ H _ _ _ I r h) fun _ s1 ⟨σ1, H1, I1, q1⟩ => ?_)
   exact h2 pins s1 σ1 H1 _ _ Q I1 rr q1
def gTup (K : Q5) (n : Nat) (t : TGs) : TG := fun v σ H Q => ∃ a xs, v = .ref a ∧ SqT K H a xs ∧ xs.length = n ∧ t xs σ H Q
theorem Qcc {es : List Expr} {k : Nat} {t : TGs} {n : Nat} (hc : X.calm = true) (h : PGs X es t)
 (hn : (assignEach es X.env).length = n := by rfl) (hst : (assignEach es X.env).findIdx? (·.1) = none := by rfl) : PG X (.Tuple es k pos) (gTup X.K n t) := by
 intro pins s σ H v u Q I r hw
 obtain ⟨a, xs, e1, hq, hl, hw⟩ := hw
 subst e1
 cases r
 obtain ⟨its, rv, ht, hz⟩ := I.tuple hq
 refine assign_Tuple_tuple (I.ok.hd hc) ht (by simp [hn, ← hl, rv.length]) hst fun h' hx => ?_
 have I1 : Inv X pins σ H { s with heap := h' } := I.kept (t' := s.toks) fun b o e => hx b o (Nat.ne_of_lt (Heap.lt_size e)) e
 exact h pins _ σ H xs _ Q I1 (by simpa using rv) hw
def tAsg (te : TE) (g : TG) : TS := fun D σ H => te σ H fun x H1 => g x σ H1 D.nx
theorem Qal {i : Nat} {x : Str} {e : Expr} {te : TE} {pos' : Pos} (hN : X.N.Nodup) (hi : X.N[i]? = some x) (hx : Loc X.env.scope x) (he : PE X e te) (hs : swapsWith e (some (.Name x pos')) pos.line X.env = pure false := by rfl) (hf : X.fn x = true ∨ X.env.scope.names.lookup x = some .local := by first | exact .inl rfl | exact .inr rfl | assumption) :
 PS X (.Assign [.Name x pos'] e pos) (tAsg te (gName i)) := by
 intro pins s σ H D I h
 refine wpAny_Assign_Name (thn (he pins s σ H _ I h) fun v s1 ⟨y, H1, I1, r1, q1⟩ => ?_) hs
 exact Qhg I1 hN hi hx r1 (fun s2 I2 => ⟨_, H1, I2, q1⟩) hf
end
section
variable {X : Cx} {pos : Pos}
def tWhile (c : TT) (tb : TS) : TS := fun D σ H => ∃ W : Nat → St → Hp → Prop, (∃ m, W m σ H) ∧ ∀ m σ H, W m σ H →
 c σ H fun b H1 => if b = true then ∃ N : St → Hp → Prop, (∀ σ' H', N σ' H' → ∃ m', m' < m ∧ W m' σ' H') ∧ tb { D with nx := N, ct := N, bk := D.nx } σ H1 else D.nx σ H1
theorem Qlv {c : Expr} {body : List Stmt} {tc : TT} {tb : TS} (hp : PassesOwn (model X.prog X.w) X.A X.env X.xe) (hc : PT X c tc) (hb : PSs X body tb) : PS X (.While c body [] pos) (tWhile tc tb) := by
 intro pins s σ H D I h
 obtain ⟨W, ⟨m0, w0⟩, turn⟩ := h
 refine wpAny_While (codeAny_whileLoop (fun n s' => ∃ σ' H', Inv X pins σ' H' s' ∧ W n σ' H') ?_ m0 ⟨σ, H, I, w0⟩)
 rintro n s1 ⟨σ1, H1, I1, w1⟩
 refine wpAny_passesOwn hp (thn (hc pins s1 σ1 H1 _ I1 (turn n σ1 H1 w1)) fun b s2 ⟨H2, I2, q2⟩ => ?_)
 cases b with
 | true =>
   obtain ⟨N, hN, q2⟩ := q2
   rw [if_pos rfl]
   refine wpAny_passesOwn hp (thn (hb pins s2 σ1 H2 _ I2 q2) fun f s3 q3 => ?_)
   cases f with
   | next =>
     obtain ⟨σ3, H3, I3, n3⟩ := q3
     obtain ⟨m', hm, w3⟩ := hN σ3 H3 n3
     exact ⟨m', hm, σ3, H3, I3, w3⟩
   | cont =>
     obtain ⟨σ3, H3, I3, n3⟩ := q3
     obtain ⟨m', hm, w3⟩ := hN σ3 H3 n3
     exact ⟨m', hm, σ3, H3, I3, w3⟩
   | brk => exact q3
   | ret v => exact q3
 | false =>
   rw [if_neg Bool.false_ne_true]
   exact wpAny_execs_nil ⟨σ1, H2, I2, q2⟩
end
structure It where
 go : Nat → Hp → Prop
 yld : Nat → Hp → V → Hp → Prop
 stop : Nat → Hp → Prop
def FpOk (X : Cx) (pins : Q4) (H : Hp) (b : Addr) : Prop :=
 H b = none ∧ b ≠ X.env.locals ∧ b ∉ X.fs ∧ (b ∈ X.ex ∨ X.s₀.heap.objs.size ≤ b) ∧ (∀ x c, X.env.cells.lookup x = some c → c ≠ b) ∧ ∀ p ∈ X.pn ++ pins, p.1 ≠ b
theorem Inv.fpOk {X : Cx} {pins : Q4} {σ : St} {H H' : Hp} {s : Shared} {b : Addr} (I : Inv X pins σ H s) (hb : s.heap.objs.size ≤ b) (hn : H' b = none) : FpOk X pins H' b := by
 refine ⟨hn, Nat.ne_of_gt (Nat.lt_of_lt_of_le I.lt hb), I.nofs hb, .inr (Nat.le_trans I.sz hb), fun x c e z => ?_, fun p hp z => ?_⟩
 ·obtain ⟨v, q⟩ := I.cell x c e
  exact absurd (Nat.lt_of_lt_of_le q.lt (by rw [z]; exact hb)) (Nat.lt_irrefl _)
 ·exact absurd (Nat.lt_of_lt_of_le (Heap.lt_size (I.pin p hp).1) (by rw [z]; exact hb)) (Nat.lt_irrefl _)
structure Turn (P : Program) (w : World) (K : Q5) (tg : Expr) (J : It) (fp : List Addr) (it : Addr) (tn : Nat → Heap → Prop) : Prop where
 mem : it ∈ fp
 obj : ∀ i h, tn i h → ∀ b ∈ fp, ∃ o, h.get? b = some o ∧ ∀ v, o.data ≠ .cell v
 keep : ∀ i h h', tn i h → (∀ b ∈ fp, ∀ o, h.get? b = some o → h'.get? b = some o) → tn i h'
 item : ∀ (X : Cx), X.prog = P → X.w = w → X.K = K → X.calm = true → ∀ (i : Nat) (pins : Q4) (s : Shared) (σ : St) (H : Hp) (E : Q3), Inv X pins σ H s → (∀ b ∈ fp, FpOk X pins H b) → tn i s.heap → J.go i H →
  wpAny (model P w) X.A (pyNext (.ref it)) (fun r s1 => ∃ u, r = some u ∧
   wpAny (model P w) X.A (letOwnedTupleGo tg (.ref it) u) (fun _ s2 => ∃ x H', Inv X pins σ H' s2 ∧ RelV x u ∧ J.yld i H x H' ∧ tn (i + 1) s2.heap ∧ ∀ b ∈ fp, H' b = none) E s1) E s
 done : ∀ (X : Cx), X.prog = P → X.w = w → X.K = K → X.calm = true → ∀ (i : Nat) (pins : Q4) (s : Shared) (σ : St) (H : Hp) (E : Q3), Inv X pins σ H s → (∀ b ∈ fp, FpOk X pins H b) → tn i s.heap → J.stop i H →
  wpAny (model P w) X.A (pyNext (.ref it)) (fun r s1 => r = none ∧ Inv X pins σ H s1) E s
 self : ∀ (A : Around) (i : Nat) (s : Shared) (Q : Q3) (E : Q3), tn i s.heap → Q (.ref it) s → wpAny (model P w) A (pyIter (.ref it)) Q E s
abbrev TI := St → Hp → (It → Hp → Prop) → Prop
def PIE (X : Cx) (pins : Q4) (σ : St) (tg : Expr) (R : It → Hp → Prop) (itv : Value) (s2 : Shared) : Prop :=
 ∃ (it : Addr) (fp : List Addr) (tn : Nat → Heap → Prop) (J : It) (H' : Hp), itv = .ref it ∧ Inv X pins σ H' s2 ∧ Turn X.prog X.w X.K tg J fp it tn ∧ tn 0 s2.heap ∧ (∀ b ∈ fp, FpOk X pins H' b) ∧ R J H'
def PI (X : Cx) (tg iter : Expr) (wi : TI) : Prop :=
 ∀ (pins : Q4) (s : Shared) (σ : St) (H : Hp) (R : It → Hp → Prop), Inv X pins σ H s → wi σ H R →
   wpAny (model X.prog X.w) X.A (eval iter X.env) (fun v s1 => wpAny (model X.prog X.w) X.A (pyIter v) (PIE X pins σ tg R) X.xe s1) X.xe s
theorem Qow {M : Model} {A : Around} {E : Q3} {s : Shared} {tg : Expr} {it : Addr} {u : Value} {o : Obj} {n : String} {vs : Array Value} {Q : Unit → Shared → Prop} (ho : s.heap.get? it = some o) (hc : o.cls = .type n) (hd : o.data = .fields vs)
 (hn : ["enumerate", "zip", "dict_itemiterator", "dict_reverseitemiterator", "odict_iterator", "itertools.zip_longest", "itertools.pairwise"].contains n = false) (hQ : Q () s) : wpAny M A (letOwnedTupleGo tg (.ref it) u) Q E s := by
 unfold letOwnedTupleGo
 cases tg <;> first
  | exact wpAny_pure hQ
  | (cases u <;> first
   | exact wpAny_pure hQ
   | (refine wpAny_bind (wpAny_load ho ?_)
      rw [hc, hd]
      show wpAny M A (if (["enumerate", "zip", "dict_itemiterator", "dict_reverseitemiterator", "odict_iterator", "itertools.zip_longest", "itertools.pairwise"].contains n && vs[0]? == some (rawInt _)) = true then _ else _) Q E s
      rw [if_neg (by intro h; rw [hn, Bool.false_and] at h; cases h)]
      exact wpAny_pure hQ))
def Itl (K : Q5) (a : Addr) : It :=
 ⟨fun i H => ∃ xs x, SqL K H a xs ∧ xs[i]? = some x, fun i H x H' => H' = H ∧ ∀ xs, SqL K H a xs → xs[i]? = some x, fun i H => ∃ xs, SqL K H a xs ∧ xs.length ≤ i⟩
def Itr (lo : Int) (n : Nat) : It := ⟨fun i _ => i < n, fun i H x H' => H' = H ∧ x = .int (lo + i), fun i _ => n ≤ i⟩
theorem Qi6 {P : Program} {w : World} {K : Q5} {tg : Expr} (a it : Addr) : Turn P w K tg (Itl K a) [it] it (fun i h => h.IsListIter it a i) where
 mem := by simp
 obj := fun i h st b hb => by
  have e : b = it := by simpa using hb
  subst e
  obtain ⟨o, e, c, d⟩ := st
  exact ⟨o, e, fun v z => by rw [d] at z; cases z⟩
 keep := fun i h h' st k => st.at fun o e => k it (by simp) o e
 item := by
  intro X hP hw hK hc i pins s σ H E I hf st hg
  subst hP hw hK
  obtain ⟨xs, x, hq, hx⟩ := hg
  obtain ⟨its, rv, p, hz⟩ := I.list hq
  obtain ⟨u, hu, ru⟩ := rv.get hx
  obtain ⟨f0, f1, f2, f3, f4, f5⟩ := hf it (by simp)
  refine wpAny_pyNext_list_item st p.isList (x := u) (by simpa using hu) fun h' st' sb => ?_
  have I1 : Inv X pins σ H { s with heap := h' } := I.turned (t' := s.toks) (fun b o hb e => (sb.2 b hb).trans e) f0 f1 f3 f4 f5
  obtain ⟨o, e, c, d⟩ := id st'
  exact ⟨u, rfl, Qow (s := { s with heap := h' }) e c d (by decide) ⟨x, H, I1, ru, ⟨rfl, fun ys hy => by rw [I.Qhy hy hq]; exact hx⟩, st', fun b hb => (hf b hb).1⟩⟩
 done := by
  intro X hP hw hK hc i pins s σ H E I hf st hg
  subst hP hw hK
  obtain ⟨xs, hq, hx⟩ := hg
  obtain ⟨its, rv, p, hz⟩ := I.list hq
  obtain ⟨f0, f1, f2, f3, f4, f5⟩ := hf it (by simp)
  have hl := rv.length
  exact wpAny_pyNext_list_end (I.ok.hd hc) st p.isList (by simp; omega) fun h' eb => ⟨rfl, I.turned (t' := s.toks) (fun b o hb e => eb b o hb e) f0 f1 f3 f4 f5⟩
 self := fun _ _ _ _ _ st h => wpAny_pyIter_listiter st h
theorem Qif {P : Program} {w : World} {K : Q5} {tg : Expr} (it : Addr) (lo : Int) (n : Nat) : Turn P w K tg (Itr lo n) [it] it (fun i h => IsRangeIter h it (lo + (i : Nat) * 1) ((n : Int) - (i : Nat)) 1) where
 mem := by simp
 obj := fun i h st b hb => by
  have e : b = it := by simpa using hb
  subst e
  exact ⟨_, st, fun v z => by
   have z' : Data.fields _ = Data.cell v := z
   cases z'⟩
 keep := fun i h h' st k => k it (by simp) _ st
 item := by
  intro X hP hw hK hc i pins s σ H E I hf st hg
  subst hP hw hK
  obtain ⟨f0, f1, f2, f3, f4, f5⟩ := hf it (by simp)
  have W := Walks.range (prog := X.prog) (w := X.w) (I.ok.hd hc) it lo 1 n
  refine W.item i s _ _ hg st fun v h' tk hv st' kk => ?_
  obtain ⟨t, rfl⟩ := hv
  have I1 : Inv X pins σ H { s with heap := h', toks := tk } := I.turned (fun b o hb e => kk b o (by simpa using hb) e) f0 f1 f3 f4 f5
  refine ⟨_, rfl, Qow (s := { s with heap := h', toks := tk }) (n := "range_iterator") st' rfl rfl (by decide) ⟨.int (lo + i), H, I1, ⟨t, ?_⟩, ⟨rfl, rfl⟩, st', fun b hb => (hf b hb).1⟩⟩
  rw [Int.mul_one]
 done := by
  intro X hP hw hK hc i pins s σ H E I hf st hg
  subst hP hw hK
  obtain ⟨f0, f1, f2, f3, f4, f5⟩ := hf it (by simp)
  exact wpAny_pyNext_range_end (I.ok.hd hc) st (by have : n ≤ i := hg; omega) fun h' eb => ⟨rfl, I.turned (t' := s.toks) (fun b o hb e => eb b o hb e) f0 f1 f3 f4 f5⟩
 self := fun _ _ _ _ _ st h => wpAny_pyIter_rangeiter st h
end L2
namespace L2
open PySem PySem.Spec PyProof.Rows
section
variable {X : Cx} {tg : Expr}
def iList (K : Q5) (tl : TE) : TI := fun σ H R => tl σ H fun x H1 => ∃ a, x = .ref a ∧ (∃ xs, SqL K H1 a xs) ∧ R (Itl K a) H1
theorem Qar {l : Expr} {tl : TE} (hl : PE X l tl) : PI X tg l (iList X.K tl) := by
 intro pins s σ H R I h
 refine thn (hl pins s σ H _ I h) fun v s1 ⟨x, H1, I1, r1, q1⟩ => ?_
 obtain ⟨a, e, ⟨xs, hq⟩, q⟩ := q1
 subst e
 cases r1
 obtain ⟨its, rv, p, hz⟩ := I1.list hq
 refine wpAny_pyIter_list p.isList ?_
 refine ⟨s1.heap.objs.size, [s1.heap.objs.size], _, _, H1, rfl, I1.kept (t' := s1.toks) fun b o e => Heap.get?_push_of_some _ e, Qi6 a _, ⟨_, Heap.get?_push_size _ rfl, rfl, rfl⟩, fun b hb => ?_, q⟩
 have e : b = s1.heap.objs.size := by simpa using hb
 subst e
 exact I1.fpOk (Nat.le_refl _) (I1.hok.fresh (Nat.le_refl _))
theorem Qls {pins : Q4} {σ : St} {H : Hp} {s : Shared} {R : It → Hp → Prop} {E : Q3} {lo hi : Int} {t u v : Tok} {tk : Nat} (I : Inv X pins σ H s) (h1 : -(2 ^ 62) ≤ lo) (h2 : lo < 2 ^ 62) (h3 : -(2 ^ 62) ≤ hi) (h4 : hi < 2 ^ 62)
 (q : R (Itr lo (hi - lo).toNat) H) : wpAny (model X.prog X.w) X.A (pyIter (.ref s.heap.objs.size)) (PIE X pins σ tg R) E { s with heap := s.heap.push { cls := .type "range", data := .fields #[.int lo t, .int hi u, .int 1 v] }, toks := tk } := by
 refine wpAny_pyIter_range (IsRange.new ..) (small_one h1 h2 h3 h4) ?_
 have I1 : Inv X pins σ H { s with heap := s.heap.push { cls := .type "range", data := .fields #[.int lo t, .int hi u, .int 1 v] }, toks := tk } := I.kept fun b o e => Heap.get?_push_of_some _ e
 refine ⟨(s.heap.push { cls := .type "range", data := .fields #[.int lo t, .int hi u, .int 1 v] }).objs.size, [(s.heap.push { cls := .type "range", data := .fields #[.int lo t, .int hi u, .int 1 v] }).objs.size], _, _, H, rfl,
  I1.kept (t' := tk) fun b o e => Heap.get?_push_of_some _ e, Qif _ lo (hi - lo).toNat, ?_, fun b hb => ?_, q⟩
 ·have e1 : lo + ((0 : Nat) : Int) * 1 = lo := by simp
  have e2 : (((hi - lo).toNat : Nat) : Int) - ((0 : Nat) : Int) = Builtin.Range.rangeSize lo hi 1 := by rw [rangeSize_one]; split <;> omega
  show IsRangeIter _ _ (lo + ((0 : Nat) : Int) * 1) ((((hi - lo).toNat : Nat) : Int) - ((0 : Nat) : Int)) 1
  rw [e1, e2]
  exact Heap.get?_push_size _ rfl
 ·have e : b = (s.heap.push { cls := .type "range", data := .fields #[.int lo t, .int hi u, .int 1 v] }).objs.size := by simpa using hb
  subst e
  exact I1.fpOk (Nat.le_refl _) (I1.hok.fresh (Nat.le_refl _))
def iRng1 (ta : TA) : TI := fun σ H R => ta σ H fun vs H1 => ∃ j : Int, vs = [.int j] ∧ -(2 ^ 62) ≤ j ∧ j < 2 ^ 62 ∧ R (Itr 0 j.toNat) H1
theorem Qbw {a : Expr} {ta : TA} {p pos : Pos} (hg : Gl X "range") (hm : X.mg "range" = none) (ha : PA X [a] ta) (hs : starEach [a] X.env = [(false, eval a X.env)] := by rfl) : PI X tg (.Call (.Name "range" p) [a] [] pos) (iRng1 ta) := by
 intro pins s σ H R I h
 refine Call_ (Qet I hg hm boot_range (PyProof.Rows.callWith_type1 (thn (ha pos pins s σ H _ I h) fun us s1 ⟨vs, H1, I1, r1, q1⟩ => ?_) hs rfl))
 obtain ⟨j, e, q1, q2, q⟩ := q1
 subst e
 cases r1 with
 | cons r rr =>
   cases rr
   obtain ⟨t, rfl⟩ := r
   exact call_range_1 (Qls I1 (by omega) (by omega) q1 q2 (by simpa using q))
def tFor (wi : TI) (g : TG) (tb : TS) : TS := fun D σ H => wi σ H fun J H1 => ∃ W : Nat → Nat → St → Hp → Prop, (∃ m, W 0 m σ H1) ∧ ∀ i m σ H, W i m σ H →
 (J.stop i H ∧ D.nx σ H) ∨ (J.go i H ∧ ∃ N : St → Hp → Prop, (∀ σ' H', N σ' H' → ∃ m', m' < m ∧ W (i + 1) m' σ' H') ∧ ∀ x H', J.yld i H x H' → g x σ H' fun σ2 H2 => tb { D with nx := N, ct := N, bk := D.nx } σ2 H2)
def pinsAt (fp : List Addr) (h : Heap) : List (Addr × Obj) := fp.filterMap fun b => (h.get? b).map fun o => (b, o)
theorem Qbu {fp : List Addr} {h : Heap} {b : Addr} {o : Obj} (hb : b ∈ fp) (e : h.get? b = some o) : (b, o) ∈ pinsAt fp h := List.mem_filterMap.mpr ⟨b, hb, by rw [e]; rfl⟩
theorem Qjz {fp : List Addr} {h : Heap} {p : Addr × Obj} (hp : p ∈ pinsAt fp h) : p.1 ∈ fp ∧ h.get? p.1 = some p.2 := by
 obtain ⟨b, hb, e⟩ := List.mem_filterMap.mp hp
 cases q : h.get? b with
 | none => rw [q] at e; cases e
 | some o =>
   rw [q] at e
   have e' : (b, o) = p := Option.some.inj e
   subst e'
   exact ⟨hb, q⟩
theorem Inv.pinned {pins : Q4} {σ : St} {H : Hp} {s : Shared} {fp : List Addr} (I : Inv X pins σ H s) (hf : ∀ b ∈ fp, FpOk X pins H b) (ho : ∀ b ∈ fp, ∃ o, s.heap.get? b = some o ∧ ∀ v, o.data ≠ .cell v) : Inv X (pins ++ pinsAt fp s.heap) σ H s :=
 I.Qcp fun p hp => (List.mem_append.mp hp).elim (fun z => I.pin p (List.mem_append_right _ z)) fun z => by
  obtain ⟨hb, e⟩ := Qjz z
  obtain ⟨f0, f1, f2, _⟩ := hf p.1 hb
  obtain ⟨o, e', d⟩ := ho p.1 hb
  rw [e] at e'; cases e'
  exact ⟨e, f0, f1, f2, d⟩
theorem Inv.unpinned {pins pl : Q4} {σ : St} {H : Hp} {s : Shared} (I : Inv X (pins ++ pl) σ H s) : Inv X pins σ H s := I.Qcp fun p hp => I.pin p (List.mem_append_right _ (List.mem_append_left _ hp))
theorem Qa8 {iter : Expr} {body : List Stmt} {wi : TI} {g : TG} {tb : TS} {pos : Pos} (hp : PassesOwn (model X.prog X.w) X.A X.env X.xe) (hc : X.calm = true) (hi : PI X tg iter wi) (hg : PG X tg g) (hb : PSs X body tb)
 (hs : ∀ x, foldedSetIterable iter X.env x = pure x := by intro _; rfl) : PS X (.For tg iter body [] pos) (tFor wi g tb) := by
 intro pins s σ H D I h
 refine wpAny_For (thn (hi pins s σ H _ I h) fun v s1 h1 => thn h1 fun itv s2 h2 => ?_) hs
 obtain ⟨it, fp, tn, J, H2, e, I2, T, st2, f2, W, ⟨m0, w0⟩, turn⟩ := h2
 subst e
 have stat : ∀ {H' : Hp}, (∀ b ∈ fp, H' b = none) → ∀ b ∈ fp, FpOk X pins H' b := fun hn b hb => ⟨hn b hb, (f2 b hb).2⟩
 refine codeAny_forLoop_any (fun n s' => ∃ i σ' H', Inv X pins σ' H' s' ∧ tn i s'.heap ∧ (∀ b ∈ fp, H' b = none) ∧ W i n σ' H') ?_ m0 ⟨0, σ, H2, I2, st2, fun b hb => (f2 b hb).1, w0⟩
 rintro n s3 ⟨i, σ3, H3, I3, st3, fr3, w3⟩
 rcases turn i n σ3 H3 w3 with ⟨stop, qn⟩ | ⟨go, N, hN, step⟩
 ·refine wpAny_passesOwn hp (thn (T.done X rfl rfl rfl hc i pins s3 σ3 H3 X.xe I3 (stat fr3) st3 stop) fun r s4 ⟨hr, I4⟩ => ?_)
  subst hr
  exact wpAny_execs_nil ⟨σ3, H3, I4, qn⟩
 ·refine wpAny_passesOwn hp (thn (T.item X rfl rfl rfl hc i pins s3 σ3 H3 X.xe I3 (stat fr3) st3 go) fun r s4 ⟨u, hr, h4⟩ => ?_)
  subst hr
  refine wpAny_passesOwn hp (thn h4 fun _ s5 ⟨x, H5, I5, r5, y5, st5, fr5⟩ => ?_)
  have I5' := I5.pinned (stat fr5) (T.obj _ _ st5)
  refine wpAny_passesOwn hp (thn (hg _ s5 σ3 H5 x u _ I5' r5 (step x H5 y5)) fun _ s6 ⟨σ6, H6, I6, q6⟩ => ?_)
  refine wpAny_passesOwn hp (thn (hb _ s6 σ6 H6 _ I6 q6) fun f s7 q7 => ?_)
  have again : ∀ {σ7 : St} {H7 : Hp}, Inv X (pins ++ pinsAt fp s5.heap) σ7 H7 s7 → N σ7 H7 → ∃ m, m < n ∧ ∃ i σ' H', Inv X pins σ' H' s7 ∧ tn i s7.heap ∧ (∀ b ∈ fp, H' b = none) ∧ W i m σ' H' := fun {σ7 H7} I7 n7 => by
   obtain ⟨m', hm, w7⟩ := hN σ7 H7 n7
   refine ⟨m', hm, i + 1, σ7, H7, I7.unpinned, T.keep _ _ _ st5 fun b hb o e => (I7.pin (b, o) (List.mem_append_right _ (List.mem_append_right _ (Qbu hb e)))).1, fun b hb => ?_, w7⟩
   obtain ⟨o, e, d⟩ := T.obj _ _ st5 b hb
   exact (I7.pin (b, o) (List.mem_append_right _ (List.mem_append_right _ (Qbu hb e)))).2.1
  cases f with
  | next => obtain ⟨σ7, H7, I7, n7⟩ := q7; exact again I7 n7
  | cont => obtain ⟨σ7, H7, I7, n7⟩ := q7; exact again I7 n7
  | brk => obtain ⟨σ7, H7, I7, q7⟩ := q7; exact ⟨σ7, H7, I7.unpinned, q7⟩
  | ret v => obtain ⟨x7, σ7, H7, I7, r7, q7⟩ := q7; exact ⟨x7, σ7, H7, I7.unpinned, r7, q7⟩
end
theorem Qaz {K : Q5} {a : Addr} {xs : List V} {g : TG} {tb : TS} {D : Ends} {σ : St} {H : Hp} (Pv : Nat → St → Hp → Prop) (h0 : Pv 0 σ H) (hl : ∀ i σ H, i ≤ xs.length → Pv i σ H → SqL K H a xs)
 (hs : ∀ i x σ H, xs[i]? = some x → Pv i σ H → g x σ H fun σ2 H2 => tb { D with nx := Pv (i + 1), ct := Pv (i + 1), bk := D.nx } σ2 H2) (hd : ∀ σ H, Pv xs.length σ H → D.nx σ H) :
 ∃ W : Nat → Nat → St → Hp → Prop, (∃ m, W 0 m σ H) ∧ ∀ i m σ H, W i m σ H →
   ((Itl K a).stop i H ∧ D.nx σ H) ∨ ((Itl K a).go i H ∧ ∃ N : St → Hp → Prop, (∀ σ' H', N σ' H' → ∃ m', m' < m ∧ W (i + 1) m' σ' H') ∧ ∀ x H', (Itl K a).yld i H x H' → g x σ H' fun σ2 H2 => tb { D with nx := N, ct := N, bk := D.nx } σ2 H2) := by
 refine ⟨fun i m σ H => m = xs.length - i ∧ i ≤ xs.length ∧ Pv i σ H, ⟨xs.length, by simp, Nat.zero_le _, h0⟩, ?_⟩
 rintro i m σ H ⟨rfl, hi, p⟩
 have q := hl i σ H hi p
 by_cases hlt : i < xs.length
 ·refine .inr ⟨⟨xs, xs[i], q, by simp [hlt]⟩, Pv (i + 1), fun σ' H' p' => ⟨xs.length - (i + 1), by omega, rfl, hlt, p'⟩, fun x H' y => ?_⟩
  obtain ⟨e, y⟩ := y
  subst e
  exact hs i x σ _ (y xs q) p
 ·have e : i = xs.length := by omega
  subst e
  exact .inl ⟨⟨xs, q, Nat.le_refl _⟩, hd σ H p⟩
theorem Qcg {lo : Int} {n : Nat} {g : TG} {tb : TS} {D : Ends} {σ : St} {H : Hp} (Pv : Nat → St → Hp → Prop) (h0 : Pv 0 σ H)
 (hs : ∀ i σ H, i < n → Pv i σ H → g (.int (lo + i)) σ H fun σ2 H2 => tb { D with nx := Pv (i + 1), ct := Pv (i + 1), bk := D.nx } σ2 H2) (hd : ∀ σ H, Pv n σ H → D.nx σ H) :
 ∃ W : Nat → Nat → St → Hp → Prop, (∃ m, W 0 m σ H) ∧ ∀ i m σ H, W i m σ H →
   ((Itr lo n).stop i H ∧ D.nx σ H) ∨ ((Itr lo n).go i H ∧ ∃ N : St → Hp → Prop, (∀ σ' H', N σ' H' → ∃ m', m' < m ∧ W (i + 1) m' σ' H') ∧ ∀ x H', (Itr lo n).yld i H x H' → g x σ H' fun σ2 H2 => tb { D with nx := N, ct := N, bk := D.nx } σ2 H2) := by
 refine ⟨fun i m σ H => m = n - i ∧ i ≤ n ∧ Pv i σ H, ⟨n, by simp, Nat.zero_le _, h0⟩, ?_⟩
 rintro i m σ H ⟨rfl, hi, p⟩
 by_cases hlt : i < n
 ·refine .inr ⟨hlt, Pv (i + 1), fun σ' H' p' => ⟨n - (i + 1), by omega, rfl, hlt, p'⟩, fun x H' y => ?_⟩
  obtain ⟨e, y⟩ := y
  subst e y
  exact hs i σ _ hlt p
 ·have e : i = n := by omega
  subst e
  exact .inl ⟨Nat.le_refl _, hd σ H p⟩
theorem Qlj {c : TT} {tb : TS} {D : Ends} {σ : St} {H : Hp} (Pv : St → Hp → Prop) (μ : St → Hp → Nat) (h0 : Pv σ H)
 (hs : ∀ σ H, Pv σ H → c σ H fun b H1 => if b = true then tb { D with nx := fun σ' H' => Pv σ' H' ∧ μ σ' H' < μ σ H, ct := fun σ' H' => Pv σ' H' ∧ μ σ' H' < μ σ H, bk := D.nx } σ H1 else D.nx σ H1)
 (mono : ∀ σ H Q Q', (∀ b H1, Q b H1 → Q' b H1) → c σ H Q → c σ H Q') : tWhile c tb D σ H := by
 refine ⟨fun m σ H => m = μ σ H ∧ Pv σ H, ⟨_, rfl, h0⟩, ?_⟩
 rintro m σ H ⟨rfl, p⟩
 refine mono σ H _ _ (fun b H1 q => ?_) (hs σ H p)
 cases b with
 | true => exact ⟨_, fun σ' H' ⟨p', l⟩ => ⟨_, l, rfl, p'⟩, q⟩
 | false => exact q
end L2
namespace L2
open PySem PySem.Spec PyProof.Rows
abbrev R2 := V → V → Hp → VK → Prop
def OpR (X : Cx) (f : Value → Value → Sem Value) (r : R2) : Prop :=
 ∀ (pins : Q4) (s : Shared) (σ : St) (H : Hp) (x y : V) (v u : Value) (Q : VK), Inv X pins σ H s → RelV x v → RelV y u → r x y H Q →
   wpAny (model X.prog X.w) X.A (f v u) (EP X pins σ Q) X.xe s
def UnR (X : Cx) (f : Value → Sem Value) (r : V → Hp → VK → Prop) : Prop :=
 ∀ (pins : Q4) (s : Shared) (σ : St) (H : Hp) (x : V) (v : Value) (Q : VK), Inv X pins σ H s → RelV x v → r x H Q →
   wpAny (model X.prog X.w) X.A (f v) (EP X pins σ Q) X.xe s
def CallR (X : Cx) (f : Value) (r : List V → Hp → VK → Prop) : Prop :=
 ∀ (pins : Q4) (s : Shared) (σ : St) (H : Hp) (xs : List V) (us : List Value) (Q : VK), Inv X pins σ H s → Vals xs us → r xs H Q →
   wpAny (model X.prog X.w) X.A (call f us) (EP X pins σ Q) X.xe s
def tOp (r : R2) (ta tb : TE) : TE := fun σ H Q => ta σ H fun x H1 => tb σ H1 fun y H2 => r x y H2 Q
def tUn (r : V → Hp → VK → Prop) (ta : TE) : TE := fun σ H Q => ta σ H fun x H1 => r x H1 Q
def rI (C : Int → Int → Prop) (g : Int → Int → V) : R2 := fun x y H Q => ∃ i j, x = .int i ∧ y = .int j ∧ C i j ∧ Q (g i j) H
def rI0 (g : Int → Int → V) : R2 := fun x y H Q => ∃ i j, x = .int i ∧ y = .int j ∧ Q (g i j) H
def rU (g : Int → V) : V → Hp → VK → Prop := fun x H Q => ∃ i, x = .int i ∧ Q (g i) H
section
variable {X : Cx} {a b c : Expr} {ta tb tc : TE} {pos : Pos}
theorem binT (ha : PE X a ta) (hb : PE X b tb) {pins : Q4} {s : Shared} {σ : St} {H : Hp} {R : V → V → Hp → Prop} (I : Inv X pins σ H s)
 (h : ta σ H fun x H1 => tb σ H1 fun y H2 => R x y H2) {Q : Q3} {f : Value → Value → Sem Value}
 (hf : ∀ v u s2 x y H2, Inv X pins σ H2 s2 → RelV x v → RelV y u → R x y H2 → wpAny (model X.prog X.w) X.A (f v u) Q X.xe s2) :
 wpAny (model X.prog X.w) X.A (eval a X.env) (fun v s₁ => wpAny (model X.prog X.w) X.A (eval b X.env) (fun u s₂ => wpAny (model X.prog X.w) X.A (f v u) Q X.xe s₂) X.xe s₁) X.xe s := by
 refine thn (ha pins s σ H _ I h) fun v s1 ⟨x, H1, I1, r1, q1⟩ => ?_
 refine thn (hb pins s1 σ H1 _ I1 q1) fun u s2 ⟨y, H2, I2, r2, q2⟩ => ?_
 exact hf v u s2 x y H2 I2 r1 r2 q2
theorem Qaj {op : Operator} {r : R2} (ho : OpR X (binaryOp op) r) (ha : PE X a ta) (hb : PE X b tb) : PE X (.BinOp a op b pos) (tOp r ta tb) := by
 intro pins s σ H Q I h
 exact wpAny_BinOp (binT ha hb I h fun v u s2 x y H2 I2 rx ry q => ho pins s2 σ H2 x y v u Q I2 rx ry q)
theorem Qgx {op : UnaryOp} {r : V → Hp → VK → Prop} (ho : UnR X (unaryOp op) r) (ha : PE X a ta) : PE X (.UnaryOp op a pos) (tUn r ta) := by
 intro pins s σ H Q I h
 exact UnaryOp_ (thn (ha pins s σ H _ I h) fun v s1 ⟨x, H1, I1, r1, q1⟩ => ho pins s1 σ H1 x v Q I1 r1 q1)
theorem opI {f : Value → Value → Sem Value} {C : Int → Int → Prop} {g : Int → Int → Int}
 (rule : ∀ (i j : Int) (t u : Tok) (s : Shared) (Q : Q3) (E : Q3), C i j → Q (.int (g i j) s.toks) { s with toks := s.toks + 1 } → wpAny (model X.prog X.w) X.A (f (.int i t) (.int j u)) Q E s) :
 OpR X f (rI C fun i j => .int (g i j)) := by
 intro pins s σ H x y v u Q I rx ry h
 obtain ⟨i, j, rfl, rfl, hc, q⟩ := h
 obtain ⟨t, rfl⟩ := rx
 obtain ⟨t', rfl⟩ := ry
 exact rule i j t t' s _ _ hc ⟨.int (g i j), H, I.tok _, ⟨_, rfl⟩, q⟩
theorem opI0 {f : Value → Value → Sem Value} {g : Int → Int → Int}
 (rule : ∀ (i j : Int) (t u : Tok) (s : Shared) (Q : Q3) (E : Q3), Q (.int (g i j) s.toks) { s with toks := s.toks + 1 } → wpAny (model X.prog X.w) X.A (f (.int i t) (.int j u)) Q E s) :
 OpR X f (rI0 fun i j => .int (g i j)) := by
 intro pins s σ H x y v u Q I rx ry h
 obtain ⟨i, j, rfl, rfl, q⟩ := h
 obtain ⟨t, rfl⟩ := rx
 obtain ⟨t', rfl⟩ := ry
 exact rule i j t t' s _ _ ⟨.int (g i j), H, I.tok _, ⟨_, rfl⟩, q⟩
theorem opB0 {f : Value → Value → Sem Value} {g : Int → Int → Bool}
 (rule : ∀ (i j : Int) (t u : Tok) (s : Shared) (Q : Q3) (E : Q3), Q (.bool (g i j)) s → wpAny (model X.prog X.w) X.A (f (.int i t) (.int j u)) Q E s) :
 OpR X f (rI0 fun i j => .bl (g i j)) := by
 intro pins s σ H x y v u Q I rx ry h
 obtain ⟨i, j, rfl, rfl, q⟩ := h
 obtain ⟨t, rfl⟩ := rx
 obtain ⟨t', rfl⟩ := ry
 exact rule i j t t' s _ _ ⟨.bl (g i j), H, I, rfl, q⟩
def CDiv (i j : Int) : Prop := 0 < j ∧ j < 1073741824
def CPow (i j : Int) : Prop := 0 ≤ j ∧ j ≤ 1000000 ∧ i.natAbs < 2 ^ 64
theorem Qa1 : OpR X (binaryOp .Add) (rI0 fun i j => .int (i + j)) := opI0 fun _ _ _ _ _ _ _ q => add_int q
theorem Qfz : OpR X (binaryOp .Sub) (rI0 fun i j => .int (i - j)) := opI0 fun _ _ _ _ _ _ _ q => sub_int q
theorem Qbh : OpR X (binaryOp .FloorDiv) (rI CDiv fun i j => .int (i / j)) := opI fun i j _ _ _ _ _ hc q => by
 have h1 : (0 : Int) < j := hc.1
 have h2 : j < 1073741824 := hc.2
 exact floordiv_int (by omega) (by rw [Int.fdiv_eq_ediv_of_nonneg i (by omega)]; exact q) (.inl (PyProof.noPylong_small (by omega)))
theorem Qau : OpR X (binaryOp .Mod) (rI (fun _ j => 0 < j) fun i j => .int (i % j)) := opI fun i j _ _ _ _ _ hc q => by
 have h1 : (0 : Int) < j := hc
 exact mod_int' (by omega) (by rw [Int.fmod_eq_emod_of_nonneg i (by omega)]; exact q)
theorem Qf0 : OpR X (binaryOp .Pow) (rI CPow fun i j => .int (i ^ j.toNat)) := opI fun _ _ _ _ _ _ _ hc q => pow_int_small hc.1 hc.2.1 hc.2.2 q
theorem unI {f : Value → Sem Value} {g : Int → Int}
 (rule : ∀ (i : Int) (t : Tok) (s : Shared) (Q : Q3) (E : Q3), Q (.int (g i) s.toks) { s with toks := s.toks + 1 } → wpAny (model X.prog X.w) X.A (f (.int i t)) Q E s) :
 UnR X f (rU fun i => .int (g i)) := by
 intro pins s σ H x v Q I rx h
 obtain ⟨i, rfl, q⟩ := h
 obtain ⟨t, rfl⟩ := rx
 exact rule i t s _ _ ⟨.int (g i), H, I.tok _, ⟨_, rfl⟩, q⟩
theorem Qdq : UnR X (unaryOp .USub) (rU fun i => .int (-i)) := unI fun _ _ _ _ _ q => neg_int q
end
def scal : V → V → Bool
 | .non, .non => true | .non, .int _ => true | .int _, .non => true | .non, .bl _ => true | .bl _, .non => true | .non, .str _ => true | .str _, .non => true
 | .int _, .int _ => true | .bl _, .bl _ => true | .str _, .str _ => true | .byt _, .byt _ => true
 | .int _, .str _ => true | .str _, .int _ => true | .bl _, .str _ => true | .str _, .bl _ => true
 | _, _ => false
def rEq : R2 := fun x y H Q => scal x y = true ∧ Q (.bl (decide (x = y))) H
def rNe : R2 := fun x y H Q => scal x y = true ∧ Q (.bl (!decide (x = y))) H
theorem Qk3 {i j : Int} : decide (V.int i = V.int j) = (i == j) := by
 rw [Bool.eq_iff_iff]
 simp
theorem Qnt {i j : Bool} : decide (V.bl i = V.bl j) = (i == j) := by
 rw [Bool.eq_iff_iff]
 simp
theorem Qk2 {i j : Str} : decide (V.str i = V.str j) = (i == j) := by
 rw [Bool.eq_iff_iff]
 simp
theorem Qk4 {i j : Array UInt8} : decide (V.byt i = V.byt j) = (i.toList == j.toList) := by
 rw [Bool.eq_iff_iff]
 cases i
 cases j
 simp
section
variable {X : Cx} {a b c : Expr} {ta tb tc : TE} {pos : Pos}
theorem Qa6 {pins : Q4} {σ : St} {H : Hp} {s : Shared} {Q : VK} {k k' : Bool} (I : Inv X pins σ H s) (q : Q (.bl k) H) (e : k = k') : EP X pins σ Q (.bool k') s := by
 subst e
 exact ⟨.bl k, H, I, rfl, q⟩
theorem Qcl : OpR X (compareOp .Eq) rEq := by
 intro pins s σ H x y v u Q I rx ry h
 obtain ⟨hs, q⟩ := h
 cases x with
 | non =>
   cases rx
   cases y with
   | non => cases ry; exact PySem.EqNone.eq_none_none (Qa6 I q (by simp))
   | bl j => cases ry; exact PySem.EqNone.eq_none_bool (Qa6 I q (by simp))
   | int j => obtain ⟨t', rfl⟩ := ry; exact PySem.EqNone.eq_none_int (Qa6 I q (by simp))
   | str j => obtain ⟨t', rfl⟩ := ry; exact PySem.EqNone.eq_none_str (Qa6 I q (by simp))
   | _ => exact absurd (show false = true from hs) Bool.false_ne_true
 | bl i =>
   cases rx
   cases y with
   | non => cases ry; exact PySem.EqNone.eq_bool_none (Qa6 I q (by simp))
   | bl j => cases ry; exact eq_bool (Qa6 I q Qnt)
   | str j => obtain ⟨t', rfl⟩ := ry; exact PySem.EqMixed.eq_bool_str (Qa6 I q (by simp))
   | _ => exact absurd (show false = true from hs) Bool.false_ne_true
 | int i =>
   obtain ⟨t, rfl⟩ := rx
   cases y with
   | non => cases ry; exact PySem.EqNone.eq_int_none (Qa6 I q (by simp))
   | int j => obtain ⟨t', rfl⟩ := ry; exact eq_int (Qa6 I q Qk3)
   | str j => obtain ⟨t', rfl⟩ := ry; exact PySem.EqMixed.eq_int_str (Qa6 I q (by simp))
   | _ => exact absurd (show false = true from hs) Bool.false_ne_true
 | str i =>
   obtain ⟨t, rfl⟩ := rx
   cases y with
   | non => cases ry; exact PySem.EqNone.eq_str_none (Qa6 I q (by simp))
   | bl j => cases ry; exact PySem.EqMixed.eq_str_bool (Qa6 I q (by simp))
   | int j => obtain ⟨t', rfl⟩ := ry; exact PySem.EqMixed.eq_str_int (Qa6 I q (by simp))
   | str j => obtain ⟨t', rfl⟩ := ry; exact eq_str (Qa6 I q Qk2)
   | _ => exact absurd (show false = true from hs) Bool.false_ne_true
 | byt i =>
   obtain ⟨t, rfl⟩ := rx
   cases y with
   | byt j => obtain ⟨t', rfl⟩ := ry; exact PySem.W.eq_bytes (Qa6 I q Qk4)
   | _ => exact absurd (show false = true from hs) Bool.false_ne_true
 | _ => cases y <;> exact absurd (show false = true from hs) Bool.false_ne_true
theorem Qee : OpR X (compareOp .NotEq) rNe := by
 intro pins s σ H x y v u Q I rx ry h
 obtain ⟨hs, q⟩ := h
 cases x with
 | non =>
   cases rx
   cases y with
   | non => cases ry; exact PySem.EqNone.ne_none_none (Qa6 I q (by simp))
   | bl j => cases ry; exact PySem.EqNone.ne_none_bool (Qa6 I q (by simp))
   | int j => obtain ⟨t', rfl⟩ := ry; exact PySem.EqNone.ne_none_int (Qa6 I q (by simp))
   | str j => obtain ⟨t', rfl⟩ := ry; exact PySem.EqNone.ne_none_str (Qa6 I q (by simp))
   | _ => exact absurd (show false = true from hs) Bool.false_ne_true
 | bl i =>
   cases rx
   cases y with
   | non => cases ry; exact PySem.EqNone.ne_bool_none (Qa6 I q (by simp))
   | bl j => cases ry; exact ne_bool (Qa6 I q (congrArg not Qnt))
   | str j => obtain ⟨t', rfl⟩ := ry; exact PySem.EqMixed.ne_bool_str (Qa6 I q (by simp))
   | _ => exact absurd (show false = true from hs) Bool.false_ne_true
 | int i =>
   obtain ⟨t, rfl⟩ := rx
   cases y with
   | non => cases ry; exact PySem.EqNone.ne_int_none (Qa6 I q (by simp))
   | int j => obtain ⟨t', rfl⟩ := ry; exact ne_int (Qa6 I q (congrArg not Qk3))
   | str j => obtain ⟨t', rfl⟩ := ry; exact PySem.EqMixed.ne_int_str (Qa6 I q (by simp))
   | _ => exact absurd (show false = true from hs) Bool.false_ne_true
 | str i =>
   obtain ⟨t, rfl⟩ := rx
   cases y with
   | non => cases ry; exact PySem.EqNone.ne_str_none (Qa6 I q (by simp))
   | bl j => cases ry; exact PySem.EqMixed.ne_str_bool (Qa6 I q (by simp))
   | int j => obtain ⟨t', rfl⟩ := ry; exact PySem.EqMixed.ne_str_int (Qa6 I q (by simp))
   | str j => obtain ⟨t', rfl⟩ := ry; exact ne_str (Qa6 I q (congrArg not Qk2))
   | _ => exact absurd (show false = true from hs) Bool.false_ne_true
 | byt i =>
   obtain ⟨t, rfl⟩ := rx
   cases y with
   | byt j => obtain ⟨t', rfl⟩ := ry; exact PySem.W.ne_bytes (Qa6 I q (congrArg not Qk4))
   | _ => exact absurd (show false = true from hs) Bool.false_ne_true
 | _ => cases y <;> exact absurd (show false = true from hs) Bool.false_ne_true
theorem Qio : OpR X (compareOp .Lt) (rI0 fun i j => .bl (decide (i < j))) := opB0 fun _ _ _ _ _ _ _ q => lt_int q
theorem op_le : OpR X (compareOp .LtE) (rI0 fun i j => .bl (decide (i ≤ j))) := opB0 fun _ _ _ _ _ _ _ q => le_int q
theorem Qjy : OpR X (compareOp .Is) (fun x y H Q => y = .non ∧ Q (.bl (decide (x = .non))) H) := by
 intro pins s σ H x y v u Q I rx ry h
 obtain ⟨rfl, q⟩ := h
 cases ry
 refine is_none_gen (Qa6 I q ?_)
 cases x <;> first
  | (cases rx; rfl)
  | (obtain ⟨t, rfl⟩ := rx; rfl)
theorem nomark (b : Expr) {op : CmpOp} (h : op ≠ .In := by decide) (h2 : op ≠ .NotIn := by decide) : behindInMarks op b = false := by
 have e1 : (op == CmpOp.In) = false := by cases op <;> first | rfl | exact absurd rfl h
 have e2 : (op == CmpOp.NotIn) = false := by cases op <;> first | rfl | exact absurd rfl h2
 cases b <;> simp [behindInMarks, e1, e2]
theorem Qe6 {op : CmpOp} {r : R2} (ho : OpR X (compareOp op) r) (ha : PE X a ta) (hb : PE X b tb) (hm : behindInMarks op b = false) : PE X (.Compare a [op] [b] pos) (tOp r ta tb) := by
 intro pins s σ H Q I h
 exact wpAny_Compare1 (binT ha hb I h fun v u s2 x y H2 I2 rx ry q => ho pins s2 σ H2 x y v u Q I2 rx ry q) hm
def tTest (t : TE) : TT := fun σ H Q => t σ H fun x H' => ∃ k, x = .bl k ∧ Q k H'
theorem Qap {op : CmpOp} {r : R2} (ho : OpR X (compareOp op) r) (ha : PE X a ta) (hb : PE X b tb) (hm : behindInMarks op b = false) : PT X (.Compare a [op] [b] pos) (tTest (tOp r ta tb)) := by
 intro pins s σ H Q I h
 refine wpAny_isTrue_Compare1 (thn (ha pins s σ H _ I h) fun v s1 ⟨x, H1, I1, r1, q1⟩ => thn (hb pins s1 σ H1 _ I1 q1) fun u s2 ⟨y, H2, I2, r2, q2⟩ =>
  thn (ho pins s2 σ H2 x y v u _ I2 r1 r2 q2) fun c s3 ⟨z, H3, I3, r3, k, e, q3⟩ => ?_) hm
 subst e
 cases r3
 exact wpAny_truthy_bool ⟨H3, I3, q3⟩
theorem line63 : (sizeLine : Nat) < 2 ^ 63 := by rw [sizeLine_eq]; decide
theorem Qdb : OpR X (binaryOp .Add) (fun x y H Q => ∃ i j, x = .str i ∧ y = .str j ∧ i.length + j.length ≤ sizeLine ∧ Q (.str (i ++ j)) H) := by
 intro pins s σ H x y v u Q I rx ry h
 obtain ⟨i, j, rfl, rfl, hz, q⟩ := h
 obtain ⟨t, rfl⟩ := rx
 obtain ⟨t', rfl⟩ := ry
 exact add_str (fun t' tk => ⟨.str (i ++ j), H, I.tok _, ⟨_, rfl⟩, q⟩) hz
theorem vals1 {x : V} {us : List Value} (r : Vals [x] us) : ∃ u, us = [u] ∧ RelV x u := by
 cases r with
 | cons r1 r2 => cases r2; exact ⟨_, rfl, r1⟩
theorem vals2 {x y : V} {us : List Value} (r : Vals [x, y] us) : ∃ u w', us = [u, w'] ∧ RelV x u ∧ RelV y w' := by
 cases r with
 | cons r1 r2 =>
   cases r2 with
   | cons r3 r4 => cases r4; exact ⟨_, _, rfl, r1, r3⟩
theorem Qge (hc : X.calm = true) : CallR X (.builtin "max") (fun xs H Q => ∃ i j, xs = [.int i, .int j] ∧ Q (.int (if j > i then j else i)) H) := by
 intro pins s σ H xs us Q I r h
 obtain ⟨i, j, rfl, q⟩ := h
 obtain ⟨u, w', rfl, ⟨t, rfl⟩, ⟨t', rfl⟩⟩ := vals2 r
 refine max_two_ints (I.ok.hd hc) fun h' tk k => ⟨_, H, I.kept k, ?_, q⟩
 by_cases hj : j > i
 ·rw [if_pos hj, if_pos hj]; exact ⟨_, rfl⟩
 ·rw [if_neg hj, if_neg hj]; exact ⟨_, rfl⟩
theorem Qld : CallR X (.type "int") (fun xs H Q => (∃ i, xs = [.int i] ∧ Q (.int i) H) ∨ ∃ k, xs = [.bl k] ∧ Q (.int (if k then 1 else 0)) H) := by
 intro pins s σ H xs us Q I r h
 rcases h with ⟨i, rfl, q⟩ | ⟨k, rfl, q⟩
 ·obtain ⟨u, rfl, t, rfl⟩ := vals1 r
  exact call_int_int ⟨.int i, H, I, ⟨_, rfl⟩, q⟩
 ·obtain ⟨u, rfl, r1⟩ := vals1 r
  cases r1
  exact call_int_bool ⟨.int (if k then 1 else 0), H, I.tok _, ⟨_, rfl⟩, q⟩
end
end L2
namespace L2
open PySem PySem.Spec PyProof.Rows
structure ObjM (h : Heap) (x dx C : Addr) (mA : Str → Option Value) : Prop where
 obj : h.get? x = some (PySem.W.instObj C dx)
 ns : h.Ns1 dx mA
 ne : dx ≠ x
theorem Qj9 {h : Heap} {dx : Addr} {mA : Str → Option Value} (n : h.Ns1 dx mA) : ∃ od, h.get? dx = some od ∧ ∀ name, PySem.W.lookIn name od = some (mA name) := by
 obtain ⟨o, es, ep, ho, hd, hk, _, hm⟩ := n
 refine ⟨o, ho, fun name => ?_⟩
 have e := hm name
 unfold nsFind findBy at e
 rw [← Array.find?_toList] at e
 unfold PySem.W.lookIn
 rw [hd]
 dsimp only
 split
 ·rename_i y q
  rw [q] at e
  exact congrArg some e
 ·rename_i q
  rw [q] at e
  have a : es.toList.any (·.refKey) = false := by
   rw [List.any_eq_false]
   intro y hy
   obtain ⟨z, t, hkey⟩ := hk y (Array.mem_toList_iff.mp hy)
   simp [DictEntry.refKey, hkey]
  have a' : ¬ es.toList.any (·.refKey) = true := by rw [a]; exact Bool.false_ne_true
  rw [if_neg a']
  exact congrArg some e
theorem ObjM.look {h : Heap} {x dx C : Addr} {mA : Str → Option Value} (I : ObjM h x dx C mA) : ∃ od, PySem.W.InstAt h x (PySem.W.instObj C dx) C (some od) ∧ ∀ name, PySem.W.lookIn name od = some (mA name) :=
 let ⟨od, ho, hl⟩ := Qj9 I.ns
 ⟨od, ⟨I.obj, rfl, rfl, ho⟩, hl⟩
section
variable {prog : Program} {w : World} {A : Around} {E : Q3} {s : Shared} {K : Q5} {x dx C f : Addr} {mA : Str → Option Value} {name : Str} {v : Value}
theorem Qox {expr : Bool} {Q : Q3} (X : K.In s.heap) (I : ObjM s.heap x dx C mA) (hg : PySem.W.plainGet K C name = true) (hh : PySem.W.hasDictIn K C = true)
 (ha : findIn K (.ref C) name = some none) (hv : mA name = some v) (hv' : PySem.W.handedIn v = true) (h : Q v { s with toks := s.toks + 1 }) :
 wpAny (model prog w) A (getAttr (.ref x) name expr) Q E s := by
 obtain ⟨od, J, hl⟩ := I.look
 exact PySem.W.get_value X J (PySem.W.plainGet_of hg).1 (PySem.W.findObj_own hh ha rfl (by rw [hl, hv])) hv' h
theorem Qmj {pl : Sem Bool} {Q : Value × List Value → Shared → Prop} (X : K.In s.heap) (I : ObjM s.heap x dx C mA) (hg : PySem.W.plainGet K C name = true)
 (hf : findIn K (.ref C) name = some (some (.ref f))) (ht : isFn K (.ref f) = true) (hv : mA name = none) (h : Q (.ref f, [.ref x]) s) :
 wpAny (model prog w) A (getMethod (.ref x) name pl) Q E s := by
 obtain ⟨od, J, hl⟩ := I.look
 exact PySem.W.method_fn X J (PySem.W.plainGet_of hg).1 (PySem.W.plainGet_of hg).2 hf (beq_iff_eq.mp ht) (by show (PySem.W.lookIn name od).map (·.isSome) = some false; rw [hl, hv]; rfl) h
theorem Qn7 {ns : List Str} {Q : Unit → Shared → Prop} (X : K.In s.heap) (I : ObjM s.heap x dx C mA)
 (hs : findIn K (.ref C) "__setattr__" = some (some (.builtin "object.__setattr__"))) (hp : PySem.W.plainOver K C = true) (ht : PySem.W.takerIn K C name = some none) (hh : PySem.W.hasDictIn K C = true)
 (hw : PySem.Within mA ns) (hsz : ns.length ≤ sizeLine)
 (h : ∀ h', ObjM h' x dx C (fun y => if y = name then some v else mA y) → Heap.SameBut dx s.heap h' → Q () { s with heap := h', toks := s.toks + 2 }) :
 wpAny (model prog w) A (setAttr (.ref x) name v) Q E s := by
 obtain ⟨od, J, hl⟩ := I.look
 refine PySem.W.set_plain X J hs (PySem.W.osa_open (s := { s with toks := s.toks + 1 }) (r := none) X J hp ht fun b => ?_)
 obtain ⟨cd, hc, hd'⟩ := PySem.W.any_some hh
 have hx : s.heap.get? x = some ⟨.ref C, some dx, .plain, #[]⟩ := I.obj
 refine wpAny_bind (wpAny_pure (wpAny_bind (wpAny_bind (wpAny_loadPart hx (wpAny_bind (PySem.W.Looks.here (s := { s with toks := s.toks + 1 }) (PySem.W.looks_clsIn X hc) ?_))))))
 rw [hd']
 refine wpAny_pure (a := some dx) (wpAny_bind (wpAny_pure (wpAny_bind ?_)))
 refine wpAny_nsSet1 (s := { s with toks := s.toks + 1 }) I.ns fun h' hn2 hs2 => ?_
 obtain ⟨oD, esD, epD, hoD, hdD, hcD⟩ := hn2.count (PySem.Within.cons name v hw)
 refine wpAny_bind (wpAny_lookBehind hoD (by rw [hdD]; exact pastItsLine_dict (Nat.le_trans hcD (by rw [List.length_cons]; omega))) ?_)
 exact wpAny_pure (h _ ⟨(hs2.2 _ (Ne.symm I.ne)).trans I.obj, hn2, I.ne⟩ hs2)
theorem Ql8 {R : Result → Shared → Prop} {vs : List Value} {kw : List (Str × Value)} (X : K.In s.heap) (hm : PySem.W.makesIn K C = true)
 (hi : findIn K (.ref C) "__init__" = some (some (.ref f))) (hf : PySem.W.typeIn K (.ref f) = some (.type "function"))
 (h : codeAny (model prog w) (A.under (.builtin "type.__call__" ⟨.ref C :: vs, kw⟩)) (.call (.ref f) ⟨.ref (s.heap.objs.size + 1) :: vs, kw⟩) (PySem.W.InitBack (s.heap.objs.size + 1) R)
  { s with heap := (s.heap.push PySem.W.emptyDict).push (PySem.W.instObj C s.heap.objs.size) }) :
 codeAny (model prog w) A (.call (.ref C) ⟨vs, kw⟩) R s := by
 obtain ⟨hh, g, d, t, os⟩ := s
 exact PySem.W.make_core (PySem.W.makes_of X hm) (PySem.W.looks_findIn X hi) (fun self => PySem.W.bind_fn X self hf) (.inl rfl) h
end
def putF (f : Str) (v : V) : List (Str × V) → List (Str × V)
 | [] => [(f, v)]
 | (g, x) :: r => if g = f then (g, v) :: r else (g, x) :: putF f v r
theorem Qa3 (f g : Str) (v : V) : ∀ fs : List (Str × V), (putF f v fs).lookup g = if g = f then some v else fs.lookup g
 | [] => by
   show List.lookup g [(f, v)] = _
   by_cases h : g = f
   ·have hb : (g == f) = true := beq_iff_eq.mpr h
    simp only [List.lookup, hb, if_pos h]
   ·have hb : (g == f) = false := beq_eq_false_iff_ne.mpr h
    simp only [List.lookup, hb, if_neg h]
 | (k, x) :: r => by
   have ih := Qa3 f g v r
   rw [show putF f v ((k, x) :: r) = (if k = f then (k, v) :: r else (k, x) :: putF f v r) from rfl]
   by_cases hk : k = f
   ·rw [if_pos hk]
    by_cases h : g = k
    ·have hb : (g == k) = true := beq_iff_eq.mpr h
     simp only [List.lookup, hb, if_pos (h.trans hk)]
    ·have hb : (g == k) = false := beq_eq_false_iff_ne.mpr h
     simp only [List.lookup, hb, if_neg (fun e : g = f => h (e.trans hk.symm))]
   ·rw [if_neg hk]
    by_cases h : g = k
    ·have hb : (g == k) = true := beq_iff_eq.mpr h
     simp only [List.lookup, hb, if_neg (fun e : g = f => hk (h.symm.trans e))]
    ·have hb : (g == k) = false := beq_eq_false_iff_ne.mpr h
     simp only [List.lookup, hb]
     exact ih
theorem Qd3 (f : Str) (v : V) : ∀ fs : List (Str × V), f ∈ (putF f v fs).map (·.1) ∧ ∀ g, g ∈ fs.map (·.1) → g ∈ (putF f v fs).map (·.1)
 | [] => ⟨by simp [putF], fun g h => by simp at h⟩
 | (k, x) :: r => by
   obtain ⟨i1, i2⟩ := Qd3 f v r
   rw [show putF f v ((k, x) :: r) = (if k = f then (k, v) :: r else (k, x) :: putF f v r) from rfl]
   by_cases hk : k = f
   ·rw [if_pos hk]
    subst hk
    exact ⟨by simp, fun g h => by simpa using h⟩
   ·rw [if_neg hk]
    refine ⟨?_, fun g h => ?_⟩
    ·rw [List.map_cons]
     exact List.mem_cons_of_mem _ i1
    ·rw [List.map_cons] at h ⊢
     rcases List.mem_cons.mp h with e | e
     ·exact List.mem_cons.mpr (.inl e)
     ·exact List.mem_cons_of_mem _ (i2 g e)
theorem Qd0 (f : Str) (v : V) : ∀ fs : List (Str × V), (putF f v fs).length ≤ fs.length + 1
 | [] => by simp [putF]
 | (k, x) :: r => by
   have ih := Qd0 f v r
   rw [show putF f v ((k, x) :: r) = (if k = f then (k, v) :: r else (k, x) :: putF f v r) from rfl]
   by_cases hk : k = f
   ·rw [if_pos hk, List.length_cons, List.length_cons]; omega
   ·rw [if_neg hk, List.length_cons, List.length_cons]; omega
theorem RelO.Qgq {v : V} {o : Option Value} (r : RelO (some v) o) : ∃ u, o = some u ∧ RelV v u := by
 cases o with
 | none => exact (show False from r).elim
 | some u => exact ⟨u, rfl, r⟩
theorem RelO.Qom {o : Option Value} (r : RelO none o) : o = none := by
 cases o with
 | none => rfl
 | some u => exact (show False from r).elim
theorem Qkm {v : V} {u : Value} (r : RelV v u) : PySem.W.handedIn u = true := by
 cases v with
 | non => cases (show u = Value.none from r); rfl
 | bl b => cases (show u = Value.bool b from r); rfl
 | int i => obtain ⟨t, e⟩ := (show ∃ t, u = Value.int i t from r); cases e; rfl
 | str x => obtain ⟨t, e⟩ := (show ∃ t, u = Value.str x t from r); cases e; rfl
 | byt b => obtain ⟨t, e⟩ := (show ∃ t, u = Value.bytes b t from r); cases e; rfl
 | flt b => obtain ⟨t, e⟩ := (show ∃ t, u = Value.float b t from r); cases e; rfl
 | ref a => cases (show u = Value.ref a from r); rfl
 | ty n => cases (show u = Value.type n from r); rfl
section
variable {P : Program} {w : World} {H H' : Hp} {h h' : Heap} {a C dx : Addr} {fs fs' : List (Str × V)}
theorem Qfe (hok : HOk P w H h) (e : H a = some (.ins C dx fs)) : ∃ mA, ObjM h a dx C mA ∧ (∀ f, RelO (fs.lookup f) (mA f)) ∧ PySem.Within mA (fs.map (·.1)) ∧ fs.length ≤ 1000 ∧ H dx = some (.own a) := by
 obtain ⟨d, z, ne, ob, mA, n, r, q⟩ := (show ObjOk P w H h a (.ins C dx fs) from hok a _ e)
 exact ⟨mA, ⟨ob, n, ne⟩, r, q, z, d⟩
end
structure Cls (K : Q5) (C : Addr) : Prop where
 pg : PySem.W.plainGet K C Str.empty = true
 hd : PySem.W.hasDictIn K C = true
 po : PySem.W.plainOver K C = true
 sa : findIn K (.ref C) "__setattr__" = some (some (.builtin "object.__setattr__"))
theorem Cls.get {K : Q5} {C : Addr} (c : Cls K C) (f : Str) : PySem.W.plainGet K C f = true := c.pg
def NoAttr (K : Q5) (C : Addr) (f : Str) : Prop := findIn K (.ref C) f = some none
theorem NoAttr.taker {K : Q5} {C : Addr} {f : Str} (n : NoAttr K C f) : PySem.W.takerIn K C f = some none := by
 unfold PySem.W.takerIn
 rw [show findIn K (.ref C) f = some none from n]
 rfl
structure Meth (K : Q5) (C : Addr) (m : Str) (f : Addr) : Prop where
 at_ : findIn K (.ref C) m = some (some (.ref f))
 fn : isFn K (.ref f) = true
 kp : keepIn K (.ref f) = true
section
variable {X : Cx} {pins : Q4} {σ : St} {H : Hp} {s : Shared} {a C dx : Addr} {fs : List (Str × V)} {f : Str} {v : V} {A : Around} {E : Q3}
theorem Qiw {b : Bool} {Q : Q3} (I : Inv X pins σ H s) (e : H a = some (.ins C dx fs)) (c : Cls X.K C) (n : NoAttr X.K C f) (l : fs.lookup f = some v)
 (h : ∀ u s', Inv X pins σ H s' → RelV v u → Q u s') : wpAny (model X.prog X.w) A (getAttr (.ref a) f b) Q E s := by
 obtain ⟨mA, O, r, _, _, _⟩ := Qfe I.hok e
 obtain ⟨u, hu, ru⟩ := RelO.Qgq (v := v) (o := mA f) (by rw [← l]; exact r f)
 exact Qox I.kIn O (c.get f) c.hd n hu (Qkm ru) (h u _ (I.tok _) ru)
theorem Qeu {m : Str} {g : Addr} {pl : Sem Bool} {Q : Value × List Value → Shared → Prop} (I : Inv X pins σ H s) (e : H a = some (.ins C dx fs)) (c : Cls X.K C) (k : Meth X.K C m g) (l : fs.lookup m = none)
 (h : Q (.ref g, [.ref a]) s) : wpAny (model X.prog X.w) A (getMethod (.ref a) m pl) Q E s := by
 obtain ⟨mA, O, r, _, _, _⟩ := Qfe I.hok e
 have hn : mA m = none := RelO.Qom (by rw [← l]; exact r m)
 exact Qmj I.kIn O (c.get m) k.at_ k.fn hn h
theorem Qij {y : V} {u : Value} {Q : Unit → Shared → Prop} (I : Inv X pins σ H s) (e : H a = some (.ins C dx fs)) (c : Cls X.K C) (n : NoAttr X.K C f) (hl : fs.length < 1000) (ry : RelV y u)
 (h : ∀ s', Inv X pins σ (upd H a (.ins C dx (putF f y fs))) s' → Q () s') : wpAny (model X.prog X.w) A (setAttr (.ref a) f u) Q E s := by
 obtain ⟨mA, O, r, wi, _, ho⟩ := Qfe I.hok e
 have hz : (fs.map (·.1)).length ≤ sizeLine := by rw [List.length_map, sizeLine_eq]; omega
 refine Qn7 I.kIn O c.sa c.po n.taker c.hd wi hz fun h' O' sb => h _ ?_
 have hd : ∃ o, h'.get? dx = some o := let ⟨o, _, _, e', _⟩ := O'.ns; ⟨o, e'⟩
 refine I.write (x := a) (e := dx) (by rw [e]; exact True.intro) (.inr ho) (fun b q hb z => (sb.2 b hb).trans z) hd ?_
 refine ⟨by rw [Qah O.ne]; exact ho, ?_, O.ne, O'.obj, _, O'.ns, fun g => ?_, fun g hg => ?_⟩
 ·have := Qd0 f y fs; omega
 ·show RelO ((putF f y fs).lookup g) (if g = f then some u else mA g)
  rw [Qa3]
  by_cases q : g = f
  ·rw [if_pos q, if_pos q]; exact ry
  ·rw [if_neg q, if_neg q]; exact r g
 ·by_cases q : g = f
  ·rw [q]; exact (Qd3 f y fs).1
  ·refine (Qd3 f y fs).2 g (wi g fun z => hg ?_)
   show (if g = f then some u else mA g) = none
   rw [if_neg q]; exact z
theorem Inv.made (I : Inv X pins σ H s) : Inv X pins σ (upd (upd H s.heap.objs.size (.own (s.heap.objs.size + 1))) (s.heap.objs.size + 1) (.ins C s.heap.objs.size []))
 { s with heap := (s.heap.push PySem.W.emptyDict).push (PySem.W.instObj C s.heap.objs.size) } := by
 have e1 : (s.heap.push PySem.W.emptyDict).get? s.heap.objs.size = some PySem.W.emptyDict := Heap.get?_push_size s.heap rfl
 have e2 : ((s.heap.push PySem.W.emptyDict).push (PySem.W.instObj C s.heap.objs.size)).get? (s.heap.objs.size + 1) = some (PySem.W.instObj C s.heap.objs.size) := by
  have := Heap.get?_push_size (s.heap.push PySem.W.emptyDict) (o := PySem.W.instObj C s.heap.objs.size) rfl
  rwa [Heap.size_push] at this
 have e3 : (s.heap.push PySem.W.emptyDict).Ns s.heap.objs.size (fun _ => none) := ⟨PySem.W.emptyDict, #[], _, e1, rfl, (fun e he => absurd he (by simp)), fun _ => rfl⟩
 have I1 := I.laid (a := s.heap.objs.size) (o := .own (s.heap.objs.size + 1)) (h' := s.heap.push PySem.W.emptyDict) (t' := s.toks) (fun b u q => Heap.get?_push_of_some _ q) (Nat.le_refl _) ⟨_, e1⟩
 refine I1.laid (a := s.heap.objs.size + 1) (o := .ins C s.heap.objs.size []) (t' := s.toks) (fun b u q => Heap.get?_push_of_some _ q) (Nat.le_of_eq (Heap.size_push _ _)) ?_
 have ne : s.heap.objs.size ≠ s.heap.objs.size + 1 := Nat.ne_of_lt (Nat.lt_succ_self _)
 refine ⟨by rw [Qah ne, Qab], Nat.zero_le _, ne, e2, fun _ => none, (Heap.Ns1.of_empty e3).at fun o q => Heap.get?_push_of_some _ q, fun _ => True.intro, fun y hy => absurd rfl hy⟩
theorem Qpe {prog : Program} {w : World} {env : Env} {e : Expr} {f : Str} {pos : Pos} {s : Shared} {Q : Q3} (hb : attributeBase e f env (eval e env) = eval e env)
 (h : wpAny (model prog w) A (eval e env) (fun o s₁ => wpAny (model prog w) A (getAttr o f true) Q E s₁) E s) : wpAny (model prog w) A (eval (.Attribute e f pos) env) Q E s :=
 Attribute_any_ h (by rw [arm_eval_Attribute, hb])
end
def tFld (K : Q5) (ta : TE) (f : Str) : TE := fun σ H Q => ta σ H fun x H1 => ∃ a C dx fs v, x = .ref a ∧ H1 a = some (.ins C dx fs) ∧ Cls K C ∧ NoAttr K C f ∧ fs.lookup f = some v ∧ Q v H1
def sFld (K : Q5) (ta tv : TE) (f : Str) : TS := fun D σ H => tv σ H fun y H1 => ta σ H1 fun x H2 => ∃ a C dx fs, x = .ref a ∧ H2 a = some (.ins C dx fs) ∧ Cls K C ∧ NoAttr K C f ∧ fs.length < 1000 ∧
 D.nx σ (upd H2 a (.ins C dx (putF f y fs)))
section
variable {X : Cx} {o e value : Expr} {f : Str} {pos pos' tpos : Pos} {ta tv : TE}
theorem Qcn (he : PE X e ta) (hb : attributeBase e f X.env (eval e X.env) = eval e X.env) : PE X (.Attribute e f pos) (tFld X.K ta f) := by
 intro pins s σ H Q I h
 refine Qpe hb (thn (he pins s σ H _ I h) fun u s1 ⟨x, H1, I1, rx, a, C, dx, fs, v, ex, ea, c, n, l, q⟩ => ?_)
 subst ex
 obtain rfl : u = Value.ref a := rx
 exact Qiw I1 ea c n l fun u' s2 I2 ru => ⟨v, H1, I2, ru, q⟩
theorem Qho (ha : PE X o ta) (hv : PE X value tv) (hs : swapsWith value (some (.Attribute o f pos')) pos.line X.env = pure false) : PS X (.Assign [.Attribute o f pos'] value pos) (sFld X.K ta tv f) := by
 intro pins s σ H D I h
 refine plainObj_wpAny_Assign_Attribute (thn (hv pins s σ H _ I h) fun u s1 ⟨y, H1, I1, ry, q⟩ => thn (ha pins s1 σ H1 _ I1 q) fun ov s2 ⟨x, H2, I2, rx, a, C, dx, fs, ex, ea, c, n, l, q2⟩ => ?_) hs
 subst ex
 obtain rfl : ov = Value.ref a := rx
 exact Qij I2 ea c n l ry fun s3 I3 => ⟨σ, _, I3, q2⟩
end
section
variable {X : Cx} {pins : Q4} {σ : St} {H : Hp} {s : Shared} {A : Around} {E : Q3} {Q : Q3} {c : Value} {b : Bool}
inductive TyOf (K : Q5) (H : Hp) : V → Value → Prop where
 | non : TyOf K H .non (.type "NoneType")
 | bl (x : Bool) : TyOf K H (.bl x) (.type "bool")
 | int (i : Int) : TyOf K H (.int i) (.type "int")
 | str (x : Str) : TyOf K H (.str x) (.type "str")
 | flt (x : UInt64) : TyOf K H (.flt x) (.type "float")
 | lst {a : Addr} {xs : List V} (e : H a = some (.lst xs)) : TyOf K H (.ref a) (.type "list")
 | frz {a : Addr} {o : Obj} {xs : List V} (e : H a = some (.frz o (.lst xs))) : TyOf K H (.ref a) (.type "list")
 | tup {a : Addr} {xs : List V} (e : H a = some (.tup xs)) : TyOf K H (.ref a) (.type "tuple")
 | dK {a : Addr} {kvs : List (Key × V)} (e : H a = some (.dK kvs)) : TyOf K H (.ref a) (.type "dict")
 | dT {a : Addr} {kvs : List (List Key × V)} (e : H a = some (.dT kvs)) : TyOf K H (.ref a) (.type "dict")
 | ins {a C dx : Addr} {fs : List (Str × V)} (e : H a = some (.ins C dx fs)) (cl : Cls K C) (ha : findIn K (.ref C) "__class__" = some (some (.builtin "object.__class__")))
  (hn : PySem.W.specialIn K (.builtin "object.__class__") "__get__" = some (some (.builtin "getset_descriptor.__get__"))) (htk : PySem.W.takesIn K (.builtin "object.__class__") = some true)
  (hm : PySem.W.mroIn K C (.type "object") = some true) : TyOf K H (.ref a) (.ref C)
theorem Qki {x : V} {u t : Value} (I : Inv X pins σ H s) (rx : RelV x u) (ty : TyOf X.K H x t) (e : PySem.W.kitOne X.K t c = some b) (h : ∀ tk, Q (.bool b) { s with toks := tk }) :
 wpAny (model X.prog X.w) A (call (.builtin "isinstance") [u, c]) Q E s := by
 cases ty with
 | non => cases (show u = Value.none from rx); exact PySem.W.kia_one PySem.W.kitx_none I.kIn True.intro e (fun z => nomatch z) h
 | bl y => cases (show u = Value.bool y from rx); exact PySem.W.kia_one PySem.W.kitx_bool I.kIn True.intro e (fun z => nomatch z) h
 | int i => obtain ⟨t, q⟩ := (show ∃ t, u = Value.int i t from rx); cases q; exact PySem.W.kia_one PySem.W.kitx_int I.kIn True.intro e (fun z => nomatch z) h
 | str y => obtain ⟨t, q⟩ := (show ∃ t, u = Value.str y t from rx); cases q; exact PySem.W.kia_one PySem.W.kitx_str I.kIn True.intro e (fun z => nomatch z) h
 | flt y => obtain ⟨t, q⟩ := (show ∃ t, u = Value.float y t from rx); cases q; exact PySem.W.kia_one PySem.W.kitx_float I.kIn True.intro e (fun z => nomatch z) h
 | @lst a xs ea =>
   cases (show u = Value.ref a from rx)
   obtain ⟨_, _, n, _, h1⟩ := (show ObjOk X.prog X.w H s.heap a (.lst xs) from I.hok a _ ea)
   exact PySem.W.kia_one PySem.W.kitx_list I.kIn ⟨_, h1, rfl⟩ e (fun z => nomatch z) h
 | @frz a ob xs ea =>
   cases (show u = Value.ref a from rx)
   obtain ⟨_, _, _, n, _, h1⟩ := (show ObjOk X.prog X.w H s.heap a (.frz ob (.lst xs)) from I.hok a _ ea)
   exact PySem.W.kia_one PySem.W.kitx_list I.kIn ⟨_, h1, rfl⟩ e (fun z => nomatch z) h
 | @tup a xs ea =>
   cases (show u = Value.ref a from rx)
   obtain ⟨_, _, _, p⟩ := (show ObjOk X.prog X.w H s.heap a (.tup xs) from I.hok a _ ea)
   obtain ⟨o, h1, h2, _⟩ := p
   exact PySem.W.kia_one PySem.W.kitx_tuple I.kIn ⟨o, h1, h2⟩ e (fun z => nomatch z) h
 | @dK a kvs ea =>
   cases (show u = Value.ref a from rx)
   obtain ⟨_, _, vs, _, p⟩ := (show ObjOk X.prog X.w H s.heap a (.dK kvs) from I.hok a _ ea)
   obtain ⟨o, es, ep, h1, h2, _⟩ := p
   exact PySem.W.kia_one PySem.W.kitx_dict I.kIn ⟨o, h1, h2.1⟩ e (fun z => nomatch z) h
 | @dT a kvs ea =>
   cases (show u = Value.ref a from rx)
   obtain ⟨_, _, xs, _, o, es, ep, h1, h2, _⟩ := (show ObjOk X.prog X.w H s.heap a (.dT kvs) from I.hok a _ ea)
   exact PySem.W.kia_one PySem.W.kitx_dict I.kIn ⟨o, h1, h2.1⟩ e (fun z => nomatch z) h
 | @ins a C dx fs ea cl ha hn htk hm =>
   cases (show u = Value.ref a from rx)
   obtain ⟨mA, O, _⟩ := Qfe I.hok ea
   obtain ⟨od, J, _⟩ := O.look
   exact PySem.W.kia_one (PySem.W.kitx_own (cl.get _) cl.hd ha hn htk hm) I.kIn J e (fun z => nomatch z) h
end
end L2
namespace L2
open PySem PySem.Spec PyProof.Rows
structure Room (cm : Bool) (k : Nat) (A : Around) : Prop where
 hd : cm = true → A.handled = none
 dp : A.depth + 3 * k + 5 < recursionLimit
 un : A.units + 16 * k + 200 < cLine
theorem Room.mono {cm : Bool} {j k : Nat} {A : Around} (r : Room cm k A) (h : j ≤ k) : Room cm j A := ⟨r.hd, by have := r.dp; omega, by have := r.un; omega⟩
theorem Room.deeper {cm : Bool} {k : Nat} {A : Around} (r : Room cm (k + 1) A) (env : Env) : Room cm k (A.deeper env) :=
 ⟨r.hd, by have := r.dp; show A.depth + 1 + 3 * k + 5 < _; omega, by have := r.un; show A.units + 3 + 16 * k + 200 < _; omega⟩
theorem Qis {A : Around} {C : Addr} {us : List Value} {kw : List (Str × Value)} : (A.under (.builtin "type.__call__" ⟨.ref C :: us, kw⟩)).depth = A.depth + 1 := by
 first | rfl | simp [Around.under, Code.weight, Code.isCreation, Code.isGuard, Code.isCaller, Code.frames, Code.isFrame, guardIds]
theorem Qir {A : Around} {C : Addr} {us : List Value} {kw : List (Str × Value)} : (A.under (.builtin "type.__call__" ⟨.ref C :: us, kw⟩)).units = A.units + 1 := by
 first | rfl | simp [Around.under, Code.cUnits, Code.frames, Code.isFrame]
theorem Room.make {cm : Bool} {k : Nat} {A : Around} (r : Room cm (k + 1) A) (C : Addr) (us : List Value) (kw : List (Str × Value)) : Room cm k (A.under (.builtin "type.__call__" ⟨.ref C :: us, kw⟩)) :=
 ⟨r.hd, by have := r.dp; rw [Qis]; omega, by have := r.un; rw [Qir]; omega⟩
theorem Room.depth {cm : Bool} {k : Nat} {A : Around} (r : Room cm k A) : A.depth < recursionLimit := by have := r.dp; omega
theorem Room.units {cm : Bool} {k : Nat} {A : Around} (r : Room cm k A) : A.units + 64 < cLine := by have := r.un; omega
def tNil : TA := fun _ H Q => Q [] H
def tCons (ta : TE) (tr : TA) : TA := fun σ H Q => ta σ H fun x H1 => tr σ H1 fun xs H2 => Q (x :: xs) H2
section
variable {X : Cx} {e : Expr} {es : List Expr} {te : TE} {t : TA} {pos : Pos}
theorem Qaf : PA X [] tNil := fun _ _ _ _ H Q I h => Calls.spliced_nil ⟨[], H, I, .nil, h⟩
theorem Qaa (ha : PE X e te) (hr : PA X es t) (hs : starEach (e :: es) X.env = (false, eval e X.env) :: starEach es X.env := by rfl) : PA X (e :: es) (tCons te t) := by
 intro pos pins s σ H Q I h
 rw [hs]
 show wpAny _ _ (spliced ((false, eval e X.env) :: backTo pos (starEach es X.env))) _ _ s
 refine Calls.spliced_cons (thn (ha pins s σ H _ I h) fun u s1 ⟨x, H1, I1, r1, q1⟩ => ?_)
 exact thn (hr pos pins s1 σ H1 _ I1 q1) fun us s2 ⟨xs, H2, I2, r2, q2⟩ => ⟨x :: xs, H2, I2, .cons r1 r2, q2⟩
def tTup (t : TA) : TE := fun σ H Q => t σ H fun xs H1 => xs.length ≤ sizeLine ∧ ∀ p, H1 p = none → Q (.ref p) (upd H1 p (.tup xs))
def tLst (t : TA) : TE := fun σ H Q => t σ H fun xs H1 => xs.length ≤ sizeLine ∧ ∀ p, H1 p = none → Q (.ref p) (upd H1 p (.lst xs))
theorem Qay {x1} (h : PA X es t) : PE X (.Tuple es x1 pos) (tTup t) := by
 intro pins s σ H Q I hq
 refine wpAny_Tuple_spliced (thn (h pos pins s σ H _ I hq) fun us s1 ⟨xs, H1, I1, r, z, q⟩ => ⟨by rw [← r.length]; exact z, ?_⟩)
 have hf : H1 s1.heap.objs.size = none := I1.hok.fresh (Nat.le_refl _)
 refine ⟨.ref s1.heap.objs.size, upd H1 s1.heap.objs.size (.tup xs), I1.laid (t' := s1.toks) (fun b u e => Heap.get?_push_of_some _ e) (Nat.le_refl _) ?_, rfl, q _ hf⟩
 exact ⟨z, us, r, ⟨_, Heap.get?_push_size _ rfl, rfl, _, rfl⟩⟩
theorem Qb4 (h : PA X es t) : PE X (.List es pos) (tLst t) := by
 intro pins s σ H Q I hq
 refine wpAny_List_spliced (thn (h pos pins s σ H _ I hq) fun us s1 ⟨xs, H1, I1, r, z, q⟩ => ⟨by rw [← r.length]; exact z, ?_⟩)
 have hf : H1 s1.heap.objs.size = none := I1.hok.fresh (Nat.le_refl _)
 refine ⟨.ref s1.heap.objs.size, upd H1 s1.heap.objs.size (.lst xs), I1.laid (t' := s1.toks) (fun b u e => Heap.get?_push_of_some _ e) (Nat.le_refl _) ?_, rfl, q _ hf⟩
 exact ⟨z, us, 0, r, Heap.get?_push_size _ rfl⟩
end
abbrev Sp := List V → Hp → VK → XK → Prop
abbrev CXT := List Env → Hp → Shared → XK → Value → Shared → Prop
structure Env0 (P : Program) (w : World) (K : Q5) (mg : Str → Option Value) (base : Heap) (A : Around) (outer : List Env) (s : Shared) (H : Hp) : Prop where
 frames : A.frames = some outer
 mod : Mod K mg base
 bs : ∀ b o, base.get? b = some o → s.heap.get? b = some o ∧ H b = none
 bsz : base.objs.size ≤ s.heap.objs.size
 funs : s.heap.FunFrames base outer
 frf : ∀ b ∈ frs outer, H b = none
 hok : HOk P w H s.heap
 bare : AllBare s.gens
def CE (outer : List Env) (P : Program) (w : World) (H : Hp) (s : Shared) (Q : VK) (u : Value) (s' : Shared) : Prop :=
 ∃ v H', s'.os = s.os ∧ AllBare s'.gens ∧ Un (frs outer) [] H H' s.heap s'.heap ∧ HOk P w H' s'.heap ∧ RelV v u ∧ Q v H'
def CR (CX : CXT) (outer : List Env) (P : Program) (w : World) (H : Hp) (s : Shared) (Q : VK) (E : XK) (r : Result) (s' : Shared) : Prop :=
 match r with
 | .ok (.ret u) => CE outer P w H s Q u s'
 | .ok _ => False
 | .error e => CX outer H s E e s'
structure FnOk (P : Program) (w : World) (K : Q5) (mg : Str → Option Value) (base : Heap) (CX : CXT) (cm : Bool) (k : Nat) (f : Addr) (fd : FuncData) (ps : List Str) (sp : Sp) : Prop where
 len : ∀ vs H Q E, sp vs H Q E → vs.length = ps.length
 run : ∀ (A : Around) (outer : List Env) (s : Shared) (H : Hp) (args : Args) (us : List Value) (vs : List V) (Q : VK) (E : XK), Room cm k A → Env0 P w K mg base A outer s H → BindsTo s fd args (ps.zip us) → Vals vs us → sp vs H Q E →
  codeAny (model P w) A (.call (.ref f) args) (CR CX outer P w H s Q E) s
theorem Env0.make {P : Program} {w : World} {K : Q5} {mg : Str → Option Value} {base : Heap} {A : Around} {outer : List Env} {s : Shared} {H : Hp} (e : Env0 P w K mg base A outer s H) (C : Addr) (us : List Value) (kw : List (Str × Value)) :
 Env0 P w K mg base (A.under (.builtin "type.__call__" ⟨.ref C :: us, kw⟩)) outer s H := ⟨by first | exact e.frames | (simpa [Around.under, Code.envs, Code.isFrame, pushEnvs] using e.frames), e.mod, e.bs, e.bsz, e.funs, e.frf, e.hok, e.bare⟩
section
variable {X : Cx} {pins : Q4} {σ : St} {H : Hp} {s s' : Shared}
theorem Inv.env0 (I : Inv X pins σ H s) : Env0 X.prog X.w X.K X.mg X.base X.A X.stack s H :=
 ⟨I.ok.frames, I.ok.mod, I.bs, Nat.le_trans I.ok.bsz I.sz, I.stack, I.stkFree, I.hok, I.bare⟩
theorem Inv.after {Q : VK} {u : Value} (I : Inv X pins σ H s) (h : CE X.stack X.prog X.w H s Q u s') : EP X pins σ Q u s' := by
 obtain ⟨v, H', os, bare, un, hok, r, q⟩ := h
 obtain ⟨hh, g, d, t, os'⟩ := s'
 obtain rfl : os' = s.os := os
 exact ⟨v, H', I.call (h' := hh) (g' := g) (d' := d) (t' := t) (ch := []) un hok bare (fun b z => absurd z (by simp)), r, q⟩
end
def tCall (sp : Sp) (dvs : List V) (E : XK) (t : TA) : TE := fun σ H Q => t σ H fun vs H1 => sp (vs ++ dvs) H1 Q E
def tMeth (C : Addr) (m : Str) (sp : Sp) (dvs : List V) (E : XK) (ta : TE) (t : TA) : TE := fun σ H Q => ta σ H fun x H1 => ∃ a dx fs, x = .ref a ∧ H1 a = some (.ins C dx fs) ∧ fs.lookup m = none ∧
 t σ H1 fun vs H2 => sp (x :: (vs ++ dvs)) H2 Q E
def tMake (C : Addr) (sp : Sp) (dvs : List V) (E : XK) (t : TA) : TE := fun σ H Q => t σ H fun vs H1 => ∀ x dx, H1 x = none → H1 dx = none → dx ≠ x →
 sp (.ref x :: (vs ++ dvs)) (upd (upd H1 dx (.own x)) x (.ins C dx [])) (fun v H2 => v = .non ∧ Q (.ref x) H2) E
def Binds (K : Q5) (fd : FuncData) (ps : List Str) (ds : List Value) : Prop :=
 ∀ (s : Shared) (us : List Value), K.In s.heap → (us ++ ds).length = ps.length → BindsTo s fd ⟨us, []⟩ (ps.zip (us ++ ds))
theorem Binds.all {K : Q5} {fd : FuncData} {ps : List Str} (h : ∀ us : List Value, us.length = ps.length → bindArgs fd ⟨us, []⟩ = pure (ps.zip us)) : Binds K fd ps [] := fun s us _ hl => by
 rw [List.append_nil] at hl ⊢
 exact .of_eq (h us hl)
def Passes (CX : CXT) (X : Cx) (E : XK) : Prop := ∀ (pins : Q4) (σ : St) (H : Hp) (s : Shared) (e : Value) (s' : Shared), Inv X pins σ H s → CX X.stack H s E e s' → X.xe e s'
section
variable {X : Cx} {CX : CXT} {cm : Bool} {k : Nat} {f C : Addr} {fd : FuncData} {ps : List Str} {sp : Sp} {dvs : List V} {ds : List Value} {E : XK} {x m : Str} {p pos apos : Pos} {e o : Expr} {es : List Expr} {ta : TE} {t : TA}
theorem Qjh {pins : Q4} {σ : St} {H : Hp} {s : Shared} {Q : VK} {us : List Value} {vs : List V} (F : FnOk X.prog X.w X.K X.mg X.base CX cm k f fd ps sp) (hr : Room cm k X.A) (hb : Binds X.K fd ps ds) (hd : Vals dvs ds) (hx : Passes CX X E)
 (I : Inv X pins σ H s) (r : Vals vs us) (h : sp (vs ++ dvs) H Q E) : wpAny (model X.prog X.w) X.A (call (.ref f) us) (EP X pins σ Q) X.xe s := by
 have r2 : Vals (vs ++ dvs) (us ++ ds) := r.append hd
 have hl : (us ++ ds).length = ps.length := by rw [← r2.length]; exact F.len _ _ _ _ h
 refine wpAny_call (codeAny_mono (F.run X.A X.stack s H ⟨us, []⟩ (us ++ ds) (vs ++ dvs) Q E hr I.env0 (hb s us I.kIn hl) r2 h) fun r s' hq => ?_)
 cases r with
 | error e => exact hx pins σ H s e s' I hq
 | ok fl =>
   cases fl with
   | ret u => exact I.after hq
   | next => exact False.elim hq
   | brk => exact False.elim hq
   | cont => exact False.elim hq
theorem Qan (F : FnOk X.prog X.w X.K X.mg X.base CX cm k f fd ps sp) (hr : Room cm k X.A) (hg : Gl X x) (hm : X.mg x = some (.ref f)) (hk : keepIn X.K (.ref f) = true) (hb : Binds X.K fd ps ds) (hd : Vals dvs ds) (hx : Passes CX X E)
 (ha : PA X (e :: es) t) (hdb : (x == ("__debug__" : Str)) = false := by decide) (he : starEach (e :: es) X.env = (false, eval e X.env) :: starEach es X.env := by rfl) (hpl : (backTo pos (starEach es X.env)).any (·.1) = false := by rfl) :
 PE X (.Call (.Name x p) (e :: es) [] pos) (tCall sp dvs E t) := by
 intro pins s σ H Q I h
 refine wpAny_Call_Name_kw (Qd1 I hg hm ?_ hdb)
 refine PySem.W.callWith_K (h₀ := X.base) I.ok.mod.kin hk (thn (ha pos pins s σ H _ I h) fun us s1 ⟨vs, H1, I1, r, q⟩ => ⟨I1.kIn, ?_⟩) he hpl
 exact Qjh F hr hb hd hx I1 r q
theorem Qb8 {pl : Sem Bool} (he : PE X o ta) (c : Cls X.K C) (hm : Meth X.K C m f) (F : FnOk X.prog X.w X.K X.mg X.base CX cm k f fd ps sp) (hr : Room cm k X.A) (hb : Binds X.K fd ps ds) (hd : Vals dvs ds) (hx : Passes CX X E) (ha : PA X (e :: es) t)
 (hst : starEach (e :: es) X.env = (false, eval e X.env) :: starEach es X.env := by rfl) (hpl : (backTo pos (starEach es X.env)).any (·.1) = false := by rfl)
 (ht : eval (.Call (.Attribute o m apos) (e :: es) [] pos) X.env = (do
  let ov ← eval o X.env
  standAt apos.atName
  let (f, first) ← holding [ov] (getMethod ov m pl)
  callWith pos f first (backTo pos (starEach (e :: es) X.env)) (backToKw pos (keywordEach [] X.env))) := by rfl) :
 PE X (.Call (.Attribute o m apos) (e :: es) [] pos) (tMeth C m sp dvs E ta t) := by
 intro pins s σ H Q I h
 refine PySem.W.methodCall_KW (pl := pl) (thn (he pins s σ H _ I h) fun u s1 ⟨x, H1, I1, rx, a, dx, fs, ex, ea, l, q⟩ => ?_) ht
 subst ex
 obtain rfl : u = Value.ref a := rx
 refine Qeu I1 ea c hm l ?_
 refine PySem.W.callWith_K (first := [.ref a]) (h₀ := X.base) I.ok.mod.kin hm.kp (thn (ha pos pins s1 σ H1 _ I1 q) fun us s2 ⟨vs, H2, I2, r, q2⟩ => ⟨I2.kIn, ?_⟩) hst hpl
 exact Qjh (us := .ref a :: us) (vs := .ref a :: vs) F hr hb hd hx I2 (.cons rfl r) q2
theorem Qhq {pl : Sem Bool} (he : PE X o ta) (c : Cls X.K C) (hm : Meth X.K C m f) (F : FnOk X.prog X.w X.K X.mg X.base CX cm k f fd ps sp) (hr : Room cm k X.A) (hb : Binds X.K fd ps ds) (hd : Vals dvs ds) (hx : Passes CX X E)
 (ht : eval (.Call (.Attribute o m apos) [] [] pos) X.env = (do
  let ov ← eval o X.env
  standAt apos.atName
  let (f, first) ← holding [ov] (getMethod ov m pl)
  callWith pos f first (backTo pos (starEach [] X.env)) (backToKw pos (keywordEach [] X.env))) := by rfl) :
 PE X (.Call (.Attribute o m apos) [] [] pos) (tMeth C m sp dvs E ta tNil) := by
 intro pins s σ H Q I h
 refine PySem.W.methodCall_KW (pl := pl) (thn (he pins s σ H _ I h) fun u s1 ⟨x, H1, I1, rx, a, dx, fs, ex, ea, l, q⟩ => ?_) ht
 subst ex
 obtain rfl : u = Value.ref a := rx
 refine Qeu I1 ea c hm l ?_
 exact PySem.W.callWith_K0 (first := [.ref a]) I1.kIn hm.kp (Qjh (us := [.ref a]) (vs := [.ref a]) F hr hb hd hx I1 (.cons rfl .nil) q)
structure Mk (K : Q5) (C f : Addr) : Prop where
 makes : PySem.W.makesIn K C = true
 init : findIn K (.ref C) "__init__" = some (some (.ref f))
 fn : isFn K (.ref f) = true
 kp : keepIn K (.ref C) = true
theorem Qhi {pins : Q4} {σ : St} {H : Hp} {s : Shared} {Q : VK} {us : List Value} {vs : List V} (M : Mk X.K C f) (F : FnOk X.prog X.w X.K X.mg X.base CX cm k f fd ps sp) (hr : Room cm (k + 1) X.A) (hb : Binds X.K fd ps ds) (hd : Vals dvs ds)
 (hx : Passes CX X E) (I : Inv X pins σ H s) (r : Vals vs us)
 (h : ∀ x dx, H x = none → H dx = none → dx ≠ x → sp (.ref x :: (vs ++ dvs)) (upd (upd H dx (.own x)) x (.ins C dx [])) (fun v H2 => v = .non ∧ Q (.ref x) H2) E) :
 wpAny (model X.prog X.w) X.A (call (.ref C) us) (EP X pins σ Q) X.xe s := by
 have hq := h (s.heap.objs.size + 1) s.heap.objs.size (I.hok.fresh (Nat.le_succ _)) (I.hok.fresh (Nat.le_refl _)) (Nat.ne_of_lt (Nat.lt_succ_self _))
 have I2 := Inv.made (C := C) I
 have r2 : Vals (V.ref (s.heap.objs.size + 1) :: (vs ++ dvs)) (Value.ref (s.heap.objs.size + 1) :: (us ++ ds)) := .cons rfl (r.append hd)
 have hl : (Value.ref (s.heap.objs.size + 1) :: us ++ ds).length = ps.length := by
  have e := r2.length
  rw [F.len _ _ _ _ hq] at e
  exact e.symm
 refine wpAny_call (Ql8 (f := f) I.kIn M.makes M.init (beq_iff_eq.mp M.fn) (codeAny_mono (F.run _ X.stack _ _ ⟨Value.ref (s.heap.objs.size + 1) :: us, []⟩ (Value.ref (s.heap.objs.size + 1) :: (us ++ ds)) _ _ E (hr.make C us [])
  (I2.env0.make C us []) (hb _ (Value.ref (s.heap.objs.size + 1) :: us) I2.kIn hl) r2 hq) fun r s' hq' => ?_))
 cases r with
 | error e => exact hx pins σ _ _ e s' I2 hq'
 | ok fl =>
   cases fl with
   | ret u =>
     obtain ⟨v, H', I3, rv, ev, q3⟩ := I2.after hq'
     subst ev
     exact ⟨rv, ⟨V.ref (s.heap.objs.size + 1), H', I3, rfl, q3⟩⟩
   | next => exact False.elim hq'
   | brk => exact False.elim hq'
   | cont => exact False.elim hq'
theorem Qgy (M : Mk X.K C f) (F : FnOk X.prog X.w X.K X.mg X.base CX cm k f fd ps sp) (hr : Room cm (k + 1) X.A) (hg : Gl X x) (hm : X.mg x = some (.ref C)) (hb : Binds X.K fd ps ds) (hd : Vals dvs ds) (hx : Passes CX X E)
 (ha : PA X (e :: es) t) (hdb : (x == ("__debug__" : Str)) = false := by decide) (he : starEach (e :: es) X.env = (false, eval e X.env) :: starEach es X.env := by rfl) (hpl : (backTo pos (starEach es X.env)).any (·.1) = false := by rfl) :
 PE X (.Call (.Name x p) (e :: es) [] pos) (tMake C sp dvs E t) := by
 intro pins s σ H Q I h
 refine wpAny_Call_Name_kw (Qd1 I hg hm ?_ hdb)
 refine PySem.W.callWith_K (h₀ := X.base) I.ok.mod.kin M.kp (thn (ha pos pins s σ H _ I h) fun us s1 ⟨vs, H1, I1, r, q⟩ => ⟨I1.kIn, ?_⟩) he hpl
 exact Qhi M F hr hb hd hx I1 r q
theorem Ql0 (M : Mk X.K C f) (F : FnOk X.prog X.w X.K X.mg X.base CX cm k f fd ps sp) (hr : Room cm (k + 1) X.A) (hg : Gl X x) (hm : X.mg x = some (.ref C)) (hb : Binds X.K fd ps ds) (hd : Vals dvs ds) (hx : Passes CX X E)
 (hdb : (x == ("__debug__" : Str)) = false := by decide) : PE X (.Call (.Name x p) [] [] pos) (tMake C sp dvs E tNil) := by
 intro pins s σ H Q I h
 refine wpAny_Call_Name_kw (Qd1 I hg hm ?_ hdb)
 exact PySem.W.callWith_K0 I.kIn M.kp (Qhi (us := []) M F hr hb hd hx I .nil h)
end
section
variable {X : Cx} {CX : CXT} {cm : Bool} {k : Nat} {f C : Addr} {fd : FuncData} {ps ks : List Str} {sp : Sp} {E : XK} {x m : Str} {p pos apos kpos : Pos} {e o : Expr} {es : List Expr} {kws : List Keyword} {te ta : TE} {t tk : TA} {nm : Option Str}
variable {g : List Value → List Value → List Value} {gV : List V → List V → List V}
end
structure FnScope (N P : List Str) (sc : Scope) : Prop where
 kind : sc.kind = .function
 co : sc.isCoroutine = false
 gen : sc.isGenerator = false
 nd : N.Nodup
 pre : N.take P.length = P
 par : ∀ x ∈ P, sc.names.lookup x = some .local ∨ sc.names.lookup x = some .cell
 nofree : ∀ y ∈ sc.names, y.2 ≠ .free
theorem fsc {N P : List Str} {sc : Scope} (a : sc.kind = .function := by rfl) (b : sc.isCoroutine = false := by rfl) (c : sc.isGenerator = false := by rfl) (d : N.Nodup := by decide +kernel) (e : N.take P.length = P := by rfl) (g : ∀ x ∈ P, sc.names.lookup x = some .local ∨ sc.names.lookup x = some .cell := by decide +kernel) (i : ∀ y ∈ sc.names, y.2 ≠ .free := by decide +kernel) : FnScope N P sc := ⟨a, b, c, d, e, g, i⟩
theorem Qgi {kindOf : Str → Option NameKind} {x : Str} : ∀ {binds : List (Str × Value)} {m : Str → Option Value}, (∀ v, (x, v) ∉ binds) → bindL kindOf binds m x = m x
 | [], _, _ => rfl
 | (n, v) :: r, m, h => by
   unfold bindL
   rw [Qgi fun w hw => h w (List.mem_cons_of_mem _ hw)]
   split
   ·have : x ≠ n := by rintro rfl; exact h v List.mem_cons_self
    simp [this]
   ·rfl
theorem Qgk {kindOf : Str → Option NameKind} {x : Str} : ∀ {binds : List (Str × Value)} {m : Str → Option Value}, (∀ v, (x, v) ∉ binds) → bindC kindOf binds m x = m x
 | [], _, _ => rfl
 | (n, v) :: r, m, h => by
   unfold bindC
   rw [Qgk fun w hw => h w (List.mem_cons_of_mem _ hw)]
   split
   ·rfl
   ·have : x ≠ n := by rintro rfl; exact h v List.mem_cons_self
    simp [this]
theorem Qgj {kindOf : Str → Option NameKind} {x : Str} {v : Value} : ∀ {P : List Str} {vs : List Value} {i : Nat} {m : Str → Option Value}, P.Nodup → P[i]? = some x → vs[i]? = some v → kindOf x = some .local →
 bindL kindOf (P.zip vs) m x = some v
 | [], _, _, _, _, h, _, _ => by simp at h
 | _ :: _, [], _, _, _, _, h, _ => by simp at h
 | p :: P, w :: vs, 0, m, nd, h1, h2, hk => by
   simp at h1 h2; subst h1; subst h2
   show bindL kindOf ((p, w) :: P.zip vs) m p = _
   unfold bindL
   rw [Qgi fun v hv => (List.nodup_cons.mp nd).1 (List.of_mem_zip hv).1, if_pos hk]
   simp
 | p :: P, w :: vs, i + 1, m, nd, h1, h2, hk => by
   show bindL kindOf ((p, w) :: P.zip vs) m x = _
   unfold bindL
   exact Qgj (i := i) (List.nodup_cons.mp nd).2 (by simpa using h1) (by simpa using h2) hk
theorem Qgl {kindOf : Str → Option NameKind} {x : Str} {v : Value} : ∀ {P : List Str} {vs : List Value} {i : Nat} {m : Str → Option Value}, P.Nodup → P[i]? = some x → vs[i]? = some v → kindOf x ≠ some .local →
 bindC kindOf (P.zip vs) m x = some v
 | [], _, _, _, _, h, _, _ => by simp at h
 | _ :: _, [], _, _, _, _, h, _ => by simp at h
 | p :: P, w :: vs, 0, m, nd, h1, h2, hk => by
   simp at h1 h2; subst h1; subst h2
   show bindC kindOf ((p, w) :: P.zip vs) m p = _
   unfold bindC
   rw [Qgk fun v hv => (List.nodup_cons.mp nd).1 (List.of_mem_zip hv).1, if_neg hk]
   simp
 | p :: P, w :: vs, i + 1, m, nd, h1, h2, hk => by
   show bindC kindOf ((p, w) :: P.zip vs) m x = _
   unfold bindC
   exact Qgl (i := i) (List.nodup_cons.mp nd).2 (by simpa using h1) (by simpa using h2) hk
def start (N : List Str) (vs : List V) : St := vs.map some ++ List.replicate (N.length - vs.length) none
def cxOf (CX : CXT) (cm : Bool) (P : Program) (w : World) (K : Q5) (mg : Str → Option Value) (base : Heap) (N : List Str) (qual : Str) (scope : Scope) (f : Addr) (cd : Value) (A : Around) (outer : List Env) (s : Shared) (H : Hp) (E : XK) : Cx where
 prog := P
 w := w
 K := K
 mg := mg
 base := base
 A := A.deeper (envOfC qual scope s.heap.objs.size f cd)
 N := N
 s₀ := s
 H₀ := H
 env := envOfC qual scope s.heap.objs.size f cd
 outer := outer
 stack := envOfC qual scope s.heap.objs.size f cd :: outer
 ex := []
 calm := cm
 fn := fun _ => true
 pn := []
 xe := fun e s' => wpAny (model P w) (A.deeper (envOfC qual scope s.heap.objs.size f cd)) (leaving (envOfC qual scope s.heap.objs.size f cd) e) (fun _ s'' => CX outer H s E e s'') (fun e' s'' => CX outer H s E e' s'') s'
theorem Qic {sc : Scope} {n : Nat} {x : Str} (h : sc.names.lookup x = some .cell) : ∃ c, (cellsFrom n sc.names []).lookup x = some c := by
 have q := PySem.W.cellsFrom_some sc.names n [] (.inl h)
 exact Option.isSome_iff_exists.mp q
theorem Qkj {CX : CXT} {cm : Bool} {P : Program} {w : World} {K : Q5} {mg : Str → Option Value} {base : Heap} {N ps : List Str} {qual : Str} {scope : Scope} {f : Addr} {cd : Value} {A : Around} {outer : List Env} {s s1 : Shared} {H : Hp} {E : XK} {us : List Value} {vs : List V}
 (S : FnScope N ps scope) (hd : cm = true → A.handled = none) (e0 : Env0 P w K mg base A outer s H) (hl : vs.length = ps.length) (r : Vals vs us)
 (x : InCallC s s.heap.objs.size (bindL (envOfC qual scope s.heap.objs.size f cd).kindOf (ps.zip us) fun _ => none) (cellsFrom (s.heap.objs.size + 1) scope.names []) (bindC (envOfC qual scope s.heap.objs.size f cd).kindOf (ps.zip us) fun _ => none) s1) :
 Inv (cxOf CX cm P w K mg base N qual scope f cd A outer s H E) [] (start N vs) H s1 := by
 have hpl : ps.length ≤ N.length := by have := congrArg List.length S.pre; rw [List.length_take] at this; omega
 obtain ⟨h1, tk, rfl, hk⟩ := x.done
 have noA : ∀ b : Addr, b ∉ (cxOf CX cm P w K mg base N qual scope f cd A outer s H E).ex := fun b z => absurd (show b ∈ ([] : List Addr) from z) (by simp)
 refine ⟨⟨e0.mod, S.kind, rfl, rfl, Nat.le_refl _, fun y z c h1 h2 => ?_, fun y hy => ?_, fun y c _ h => ?_, hd, Around.frames_deeper e0.frames, .inr ⟨rfl, rfl⟩, fun b z => absurd z (noA b), e0.bs, e0.bsz, fun b _ _ => noA b, fun b z => absurd z (noA b), e0.funs, e0.frf⟩,
  rfl, e0.bare, Un.kept hk, ⟨_, x.toInCall.ns, fun i y v h1 h2 h3 => ?_⟩, fun y c h => ⟨_, x.cell y c h⟩, e0.hok.fresh (Nat.le_refl _), fun y c h => ?_, fun p hp => absurd (show p ∈ ([] : Q4) from hp) (by simp), e0.hok.kept hk, ?_⟩
 ·exact name_of_addr x.apart (PySem.mem_of_lookup h1) (PySem.mem_of_lookup h2)
 ·have hy : scope.names.lookup y = some .cell ∨ scope.names.lookup y = some .free := hy
  rcases hy with hy | hy
  ·exact Qic hy
  ·exact absurd rfl (S.nofree _ (PySem.mem_of_lookup hy))
 ·exact Nat.le_of_lt (x.above y c (PySem.mem_of_lookup h))
 ·have hi : i < vs.length := by
   unfold start at h2
   by_cases hi : i < vs.length
   ·exact hi
   ·rw [List.getElem?_append_right (by simpa using hi)] at h2
    rw [List.getElem?_replicate] at h2
    split at h2 <;> cases h2
  have ha : vs[i]? = some v := by
   unfold start at h2
   rw [List.getElem?_append_left (by simpa using hi), List.getElem?_map] at h2
   cases e : vs[i]? with
   | none => rw [e] at h2; cases h2
   | some a => rw [e] at h2; cases h2; rfl
  obtain ⟨u, hu, rv⟩ := r.get ha
  have hp : ps[i]? = some y := by
   rw [← S.pre, List.getElem?_take_of_lt (by omega)]; exact h1
  have ndP : ps.Nodup := by rw [← S.pre]; exact S.nd.sublist (List.take_sublist _ _)
  refine ⟨u, rv, ?_⟩
  rcases S.par y (List.mem_of_getElem? hp) with k | k
  ·exact .inl ⟨k, Qgj ndP hp hu k⟩
  ·obtain ⟨c, e⟩ := Qic (n := s.heap.objs.size + 1) k
   refine .inr ⟨.inl k, c, e, ?_⟩
   have q := x.cell y c e
   rw [Qgl ndP hp hu (by show scope.names.lookup y ≠ _; rw [k]; decide)] at q
   exact q
 ·exact e0.hok.fresh (Nat.le_of_lt (x.above y c (PySem.mem_of_lookup h)))
 ·unfold start
  show _ = N.length
  rw [List.length_append, List.length_map, List.length_replicate]
  omega
theorem fn_of {CX : CXT} {cm : Bool} {P : Program} {w : World} {K : Q5} {mg : Str → Option Value} {base : Heap} {k : Nat} {f : Addr} {name qual : Str} {params : Arguments} {body : List Stmt} {scope : Scope} {dV kV doc pm cdv ct oc : Value} {an od : Option Addr}
 {osl : Array Q6} {N ps : List Str} {sp : Sp} (lk : K.lookup f = some ⟨oc, od, .func (fnOf name qual params body scope dV kV doc pm an cdv ct), osl⟩) (hcd : codeIn K cdv qual = true) (S : FnScope N ps scope)
 (len : ∀ vs H Q E, sp vs H Q E → vs.length = ps.length)
 (hbody : ∀ (A : Around) (outer : List Env) (s : Shared) (H : Hp) (vs : List V) (Q : VK) (E : XK), Room cm k (A.deeper (envOfC qual scope s.heap.objs.size f cdv)) → sp vs H Q E →
  ∃ t, PSs (cxOf CX cm P w K mg base N qual scope f cdv A outer s H E) body t ∧ t { nx := fun _ H' => Q .non H', rt := Q } (start N vs) H) :
 FnOk P w K mg base CX cm (k + 1) f (fnOf name qual params body scope dV kV doc pm an cdv ct) ps sp := by
 refine ⟨len, fun A outer s H args us vs Q E hr e0 hb r hsp => ?_⟩
 have hl := len _ _ _ _ hsp
 have KX : K.In s.heap := e0.mod.kin.keeps fun b o e => (e0.bs b o e).1
 have lim : s.heap.NoLimit := e0.mod.nolimit.keeps fun b o e => (e0.bs b o e).1
 have hkind : ∀ y ∈ ps.zip us, scope.names.lookup y.1 = some .local ∨ (scope.names.lookup y.1 = some .cell ∧ ((cellsFrom (s.heap.objs.size + 1) scope.names []).lookup y.1).isSome = true) := fun ⟨n, v⟩ hy => by
  rcases S.par n (List.of_mem_zip hy).1 with q | q
  ·exact .inl q
  ·exact .inr ⟨q, PySem.W.cellsFrom_some _ _ _ (.inl q)⟩
 refine codeAny_call_function hr.depth (KX _ _ lk) rfl S.co S.gen rfl (PySem.W.codeRec_of KX hcd) (hb _ _ _ _ ?_)
 refine wpAny_newFunctionEnv_cells S.kind hkind fun env he s1 x => ?_
 subst he
 refine ⟨lim.keeps x.toInCall.keep, codeAny_func ?_⟩
 obtain ⟨t, ht, hq⟩ := hbody A outer s H vs Q E (hr.deeper _) hsp
 have I : Inv (cxOf CX cm P w K mg base N qual scope f cdv A outer s H E) [] (start N vs) H s1 := Qkj S hr.hd e0 hl r x
 refine wpAny_mono (ht [] s1 (start N vs) H _ I hq) (fun fl s' hs => ?_) fun e s' hs => hs
 have fin : ∀ {σ' : St} {H' : Hp} {v : V} {u : Value}, Inv (cxOf CX cm P w K mg base N qual scope f cdv A outer s H E) [] σ' H' s' → RelV v u → Q v H' → CE outer P w H s Q u s' :=
  fun {σ' H' v u} J rv q => ⟨v, H', J.os, J.bare, J.base, J.hok, rv, q⟩
 cases fl with
 | ret u =>
   obtain ⟨v, σ', H', J, rv, q⟩ := hs
   exact fin J rv q
 | next =>
   obtain ⟨σ', H', J, q⟩ := hs
   exact fin (v := V.non) (u := Value.none) J rfl q
 | brk =>
   obtain ⟨_, _, _, q⟩ := hs
   exact False.elim q
 | cont =>
   obtain ⟨_, _, _, q⟩ := hs
   exact False.elim q
end L2
namespace L2
open PySem PySem.Spec PyProof.Rows
section
variable {X : Cx} {x : Str} {p pos : Pos} {e : Expr} {es : List Expr} {t : TA} {id T : String} {r : List V → Hp → VK → Prop}
def tCB (r : List V → Hp → VK → Prop) (t : TA) : TE := fun σ H Q => t σ H fun vs H1 => r vs H1 Q
theorem Qav (hc : CallR X (.builtin id) r) (hg : Gl X x) (hm : X.mg x = none) (hv : bootBuiltins x = some (.builtin id)) (ha : PA X (e :: es) t) (hn : x ≠ "__name__" := by decide) (hdb : (x == ("__debug__" : Str)) = false := by decide)
 (he : starEach (e :: es) X.env = (false, eval e X.env) :: starEach es X.env := by rfl) (hpl : (backTo pos (starEach es X.env)).any (·.1) = false := by rfl) : PE X (.Call (.Name x p) (e :: es) [] pos) (tCB r t) := by
 intro pins s σ H Q I h
 refine wpAny_Call_Name_kw (Qet I hg hm hv ?_ hn hdb)
 exact PyProof.Rows.callWith_builtin1 (thn (ha pos pins s σ H _ I h) fun us s1 ⟨vs, H1, I1, r1, q1⟩ => hc pins s1 σ H1 vs us Q I1 r1 q1) he hpl
theorem Qby (hc : CallR X (.type T) r) (hg : Gl X x) (hm : X.mg x = none) (hv : bootBuiltins x = some (.type T)) (ha : PA X (e :: es) t) (hn : x ≠ "__name__" := by decide) (hdb : (x == ("__debug__" : Str)) = false := by decide)
 (he : starEach (e :: es) X.env = (false, eval e X.env) :: starEach es X.env := by rfl) (hpl : (backTo pos (starEach es X.env)).any (·.1) = false := by rfl) : PE X (.Call (.Name x p) (e :: es) [] pos) (tCB r t) := by
 intro pins s σ H Q I h
 refine wpAny_Call_Name_kw (Qet I hg hm hv ?_ hn hdb)
 exact PyProof.Rows.callWith_type1 (thn (ha pos pins s σ H _ I h) fun us s1 ⟨vs, H1, I1, r1, q1⟩ => hc pins s1 σ H1 vs us Q I1 r1 q1) he hpl
end
end L2
namespace HT
open PySem PyProof.Rows
section
open PySem.SeqAt
open PySem.AutoSeq1 (wpAny_loadPart')
open PySem.MeetsSeq PySem.MeetsSeq2 PySem.MeetsSeq3
end
section
variable {prog : Program} {w : World} {A : Around} {E : Q3} {s : Shared}
theorem cat_tup {t b : Addr} {vs ws : List Value} {Q : Q3} (ht : IsTup s.heap t vs.toArray) (hb : IsTup s.heap b ws.toArray) (hv : vs ≠ [])
 (h1 : ws = [] → Q (.ref t) s) (h2 : ws ≠ [] → Q (.ref s.heap.objs.size) { s with heap := s.heap.push { cls := .type "tuple", data := .seq (vs ++ ws).toArray } })
 (hsz : vs.length + ws.length ≤ sizeLine) : wpAny (model prog w) A (binaryOp .Add (.ref t) (.ref b)) Q E s := by
 obtain ⟨⟨cls, dd, data, sl⟩, ho, hc, n, hd⟩ := id ht
 obtain ⟨⟨cls2, dd2, data2, sl2⟩, ho2, hc2, n2, hd2⟩ := id hb
 simp only at hc hd hc2 hd2
 subst hc hd hc2 hd2
 have e : vs.toArray ++ ws.toArray = (vs ++ ws).toArray := by simp
 by_cases hw : ws = []
 ·exact concat_meets ⟨_, ho, rfl⟩ ⟨_, ho2, rfl⟩ noFill_tuple_add seq_tuple_add PySem.F.slot_tuple_add PySem.F.entry_tuple_add (PySem.F.args_tuple_add_2 _ _)
   (tuple_addW1 t b vs.toArray ws.toArray n n2 dd dd2 sl sl2 (by simpa using hv) (by simp [hw])) ⟨ho, ho2, h1 hw⟩
 ·refine concat_meets ⟨_, ho, rfl⟩ ⟨_, ho2, rfl⟩ noFill_tuple_add seq_tuple_add PySem.F.slot_tuple_add PySem.F.entry_tuple_add (PySem.F.args_tuple_add_2 _ _)
   (tuple_addW2 t b vs.toArray ws.toArray n n2 dd dd2 sl sl2 (by simpa using hv) (by simpa using hw) (by rw [List.size_toArray, List.size_toArray]; exact hsz)) ⟨ho, ho2, ?_⟩
  rw [e]
  exact h2 hw
def sIx (n d : Nat) : Option Int → Nat
 | none => d
 | some v => if v < 0 then (v + (n : Int)).toNat else min v.toNat n
theorem sIx_none (n d : Nat) : sIx n d none = d := rfl
theorem sIx_nat (n d k : Nat) : sIx n d (some (k : Int)) = min k n := by
 show (if (k : Int) < 0 then ((k : Int) + (n : Int)).toNat else min (k : Int).toNat n) = min k n
 rw [if_neg (by omega), Int.toNat_natCast]
theorem sIx_le (n d : Nat) (hd : d ≤ n) (o : Option Int) : sIx n d o ≤ n := by
 cases o with
 | none => exact hd
 | some v =>
   show (if v < 0 then (v + (n : Int)).toNat else min v.toNat n) ≤ n
   by_cases hv : v < 0
   ·rw [if_pos hv]; omega
   ·rw [if_neg hv]; exact Nat.min_le_right _ _
theorem Qla (v : Int) (n d : Nat) : (if v < 0 then max (v + (n : Int)) 0 else min v (n : Int)) = ((sIx n d (some v) : Nat) : Int) := by
 show (if v < 0 then max (v + (n : Int)) 0 else min v (n : Int)) = (((if v < 0 then (v + (n : Int)).toNat else min v.toNat n) : Nat) : Int)
 by_cases hv : v < 0
 ·simp only [if_pos hv]; omega
 ·simp only [if_neg hv]; omega
theorem Qi2 (lo hi : Option Int) (n : Nat) : Builtin.Slice.sliceAdjust lo hi 1 (n : Int) = (((sIx n 0 lo : Nat) : Int), ((sIx n n hi : Nat) : Int)) := by
 have h1 : ¬ ((1 : Int) < 0) := by omega
 unfold Builtin.Slice.sliceAdjust
 simp only [h1, if_false]
 refine Prod.ext ?_ ?_
 ·cases lo with
  | none => rfl
  | some v => exact Qla v n 0
 ·cases hi with
  | none => rfl
  | some v => exact Qla v n n
theorem Qim (i j : Nat) : Builtin.Slice.slicePlaces (i : Int) (j : Int) 1 = j - i := by
 unfold Builtin.Slice.slicePlaces
 have h1 : (1 : Int) > 0 := by omega
 simp only [h1, if_true, Int.ediv_one]
 split <;> omega
theorem Qek {v : Value} {o : Option Int} {Q : Option Int → Shared → Prop} (p : IsPart v o) (h : Q o s) : wpAny (model prog w) A (Builtin.Slice.slicePartIndex v) Q E s := by
 cases p with
 | none => exact slicePart_none h
 | int i t => exact slicePart_int h
theorem Qdi {sl : Addr} {vl vu : Value} {lo hi : Option Int} {n : Nat} {Q : Int × Int × Nat → Shared → Prop} (hs : s.heap.IsSliceOf sl vl vu .none) (pl : IsPart vl lo) (pu : IsPart vu hi)
 (h : Q (((sIx n 0 lo : Nat) : Int), 1, sIx n n hi - sIx n 0 lo) s) : wpAny (model prog w) A (Builtin.Slice.sliceApplied (.ref sl) (pure (n : Int))) Q E s := by
 obtain ⟨os, hos, hcs, hds⟩ := id hs
 unfold Builtin.Slice.sliceApplied Builtin.Slice.sliceFields
 refine wpAny_bind (wpAny_bind (wpAny_field hos hds (x := vl) rfl (wpAny_bind (wpAny_field hos hds (x := vu) rfl (wpAny_bind (wpAny_field hos hds (x := .none) rfl (wpAny_pure ?_)))))))
 refine wpAny_bind (slicePart_none ?_)
 show wpAny _ _ (if ((1 : Int) == 0) = true then _ else _) _ _ s
 rw [if_neg (by decide)]
 refine wpAny_bind (Qek pl (wpAny_bind (Qek pu (wpAny_bind (wpAny_pure ?_)))))
 show wpAny _ _ (match Builtin.Slice.sliceAdjust lo hi 1 (n : Int) with | (lo, hi) => pure (lo, (1 : Int), Builtin.Slice.slicePlaces lo hi 1)) _ _ s
 rw [Qi2 lo hi n]
 show wpAny _ _ (pure (((sIx n 0 lo : Nat) : Int), (1 : Int), Builtin.Slice.slicePlaces ((sIx n 0 lo : Nat) : Int) ((sIx n n hi : Nat) : Int) 1)) _ _ s
 rw [Qim]
 exact wpAny_pure h
theorem Qlw (xs : Array Value) (i k : Nat) : ((List.range k).filterMap fun (m : Nat) => xs[((i : Int) + (m : Int) * 1).toNat]?).toArray = ((xs.toList.drop i).take k).toArray := by
 have e : (fun (m : Nat) => xs[((i : Int) + (m : Int) * 1).toNat]?) = fun m => xs[i + m]? := by
  funext m
  have : ((i : Int) + (m : Int) * 1).toNat = i + m := by omega
  rw [this]
 rw [e]
 have := pick_run xs i k
 rw [List.filterMap_map] at this
 have e2 : ((fun x => xs[x]?) ∘ fun x => i + x) = fun m => xs[i + m]? := rfl
 rw [e2] at this
 rw [this]
theorem getItem_tuple_cut {t sl : Addr} {items : Array Value} {vl vu : Value} {lo hi : Option Int} {Q : Q3} (ht : IsTup s.heap t items) (hs : s.heap.IsSliceOf sl vl vu .none) (pl : IsPart vl lo) (pu : IsPart vu hi)
 (hw : ¬ (sIx items.size 0 lo = 0 ∧ sIx items.size items.size hi = items.size))
 (h : Q (.ref s.heap.objs.size) { s with heap := s.heap.push { cls := .type "tuple", data := .seq ((items.toList.drop (sIx items.size 0 lo)).take (sIx items.size items.size hi - sIx items.size 0 lo)).toArray } })
 (hsz : items.size ≤ sizeLine) : wpAny (model prog w) A (getItem (.ref t) (.ref sl)) Q E s := by
 have htake : sizeOk (.seq ((items.toList.drop (sIx items.size 0 lo)).take (sIx items.size items.size hi - sIx items.size 0 lo)).toArray) := by
  show ((items.toList.drop (sIx items.size 0 lo)).take (sIx items.size items.size hi - sIx items.size 0 lo)).toArray.size ≤ sizeLine
  rw [List.size_toArray, List.length_take, List.length_drop, Array.length_toList]
  omega
 have hj : sIx items.size items.size hi ≤ items.size := sIx_le _ _ (Nat.le_refl _) hi
 obtain ⟨os, hos, hcs, hds⟩ := id hs
 have hTs : s.TypeIs (.ref sl) "slice" := ⟨os, hos, hcs⟩
 unfold getItem
 try with_reducible refine wpAny_holding ?_
 first | refine wpAny_bind (wpAny_pure ?_) | skip
 refine wpAny_bind (wpAny_sequenceKey ht.typeIs (by decide) ?_)
 refine wpAny_bind (wpAny_callSpecial?_slot (name := Str.ofString "__getitem__") ht.typeIs PyProof.Rows.slot_tuple_getitem
  (wpAny_call_entry PyProof.Rows.slot_tuple_getitem ht.typeIs entry_tuple_getitem ?_ (args_tuple_getitem _ _)))
 show wpAny _ _ (Builtin.Tuple.tupleItemsOf (.ref t) >>= _) _ _ s
 refine wpAny_bind (tupleItemsOf_ ht ?_)
 refine wpAny_bind (wpAny_typeOf hTs ?_)
 rw [if_pos (by decide)]
 refine wpAny_bind (Qdi hs pl pu ?_)
 have hno : ¬ ((((sIx items.size 0 lo : Nat) : Int) == 0 && (1 : Int) == 1 && (sIx items.size items.size hi - sIx items.size 0 lo) == items.size) = true) := by
  intro q
  rw [Bool.and_eq_true, Bool.and_eq_true] at q
  have q1 : ((sIx items.size 0 lo : Nat) : Int) = 0 := eq_of_beq q.1.1
  have q2 : sIx items.size items.size hi - sIx items.size 0 lo = items.size := eq_of_beq q.2
  exact hw ⟨by omega, by omega⟩
 show wpAny _ _ (if (((sIx items.size 0 lo : Nat) : Int) == 0 && (1 : Int) == 1 && (sIx items.size items.size hi - sIx items.size 0 lo) == items.size) = true then _ else _) _ _ s
 rw [if_neg hno, Qlw]
 first
  | exact wpAny_bind (m := Builtin.Tuple.tupleExact _) (wpAny_newObj_type (wpAny_pure ⟨_, rfl, wpAny_pure h⟩) htake)
  | exact wpAny_bind (m := Builtin.Tuple.tupleExact _) (wpAny_newObj_type (wpAny_bind (wpAny_pure (wpAny_pure ⟨_, rfl, wpAny_pure h⟩))) htake)
  | exact wpAny_bind (wpAny_bind (m := Builtin.Tuple.tupleExact _) (wpAny_newObj_type (wpAny_pure (wpAny_pure ⟨_, rfl, wpAny_pure h⟩)) htake))
  | exact wpAny_bind (wpAny_bind (m := Builtin.Tuple.tupleExact _) (wpAny_newObj_type (wpAny_pure ⟨_, rfl, wpAny_pure h⟩) htake))
end
end HT
namespace L2
open PySem PySem.Spec PyProof.Rows
abbrev TO := St → Hp → (Option Int → Hp → Prop) → Prop
def PO (X : Cx) (e : Option Expr) (t : TO) : Prop :=
 ∀ (pins : Q4) (s : Shared) (σ : St) (H : Hp) (Q : Option Int → Hp → Prop), Inv X pins σ H s → t σ H Q →
   wpAny (model X.prog X.w) X.A (evalPart e X.env) (fun u s' => ∃ o H', Inv X pins σ H' s' ∧ IsPart u o ∧ Q o H') X.xe s
def tNoPart : TO := fun _ H Q => Q none H
def tPart (t : TE) : TO := fun σ H Q => t σ H fun x H1 => ∃ i, x = .int i ∧ Q (some i) H1
section
variable {X : Cx} {e : Expr} {te : TE} {lo hi : Option Expr} {tl th : TO} {pos p2 : Pos}
theorem Qco : PO X none tNoPart := by
 intro pins s σ H Q I h
 rw [evalPart_none]
 exact wpAny_pure ⟨none, H, I, .none, h⟩
theorem Qb3 (h : PE X e te) : PO X (some e) (tPart te) := by
 intro pins s σ H Q I hw
 rw [evalPart_some]
 refine thn (h pins s σ H _ I hw) fun u s1 ⟨x, H1, I1, r1, q1⟩ => ?_
 obtain ⟨i, rfl, q⟩ := q1
 obtain ⟨t, rfl⟩ := r1
 exact ⟨some i, H1, I1, .int i t, q⟩
def SlR (X : Cx) (r : V → Option Int → Option Int → Hp → VK → Prop) : Prop :=
 ∀ (pins : Q4) (s : Shared) (σ : St) (H : Hp) (x : V) (v vl vu : Value) (lo hi : Option Int) (sl : Addr) (Q : VK), Inv X pins σ H s → RelV x v → s.heap.IsSliceOf sl vl vu .none → IsPart vl lo → IsPart vu hi → r x lo hi H Q →
   ∃ T id, typeLookup (.type T) "__getitem__" = pure (some (.builtin id)) ∧ s.TypeIs v T ∧ wpAny (model X.prog X.w) X.A (getItem v (.ref sl)) (EP X pins σ Q) X.xe s
def tSl (r : V → Option Int → Option Int → Hp → VK → Prop) (te : TE) (tl th : TO) : TE := fun σ H Q => te σ H fun x H1 => tl σ H1 fun l H2 => th σ H2 fun u H3 => r x l u H3 Q
theorem Qb1 {r : V → Option Int → Option Int → Hp → VK → Prop} (hr : SlR X r) (he : PE X e te) (hl : PO X lo tl) (hu : PO X hi th) : PE X (.Subscript e (.Slice lo hi none p2) pos) (tSl r te tl th) := by
 intro pins s σ H Q I h
 refine Subscript_ (thn (he pins s σ H _ I h) fun v s1 ⟨x, H1, I1, r1, q1⟩ => ?_)
 refine wpAny_Slice (thn (hl pins s1 σ H1 _ I1 q1) fun vl s2 ⟨l, H2, I2, pl, q2⟩ => thn (hu pins s2 σ H2 _ I2 q2) fun vu s3 ⟨u, H3, I3, pu, q3⟩ => ?_)
 rw [evalPart_none]
 refine wpAny_pure ?_
 have I4 : Inv X pins σ H3 { s3 with heap := s3.heap.push { cls := .type "slice", data := .fields #[vl, vu, .none] } } := I3.kept (t' := s3.toks) fun b ob q => Heap.get?_push_of_some _ q
 obtain ⟨T, id, hT, ht, hg⟩ := hr pins { s3 with heap := s3.heap.push { cls := .type "slice", data := .fields #[vl, vu, .none] } } σ H3 x v vl vu l u s3.heap.objs.size Q I4 r1 (Heap.IsSliceOf.new ..) pl pu q3
 show wpAny (model X.prog X.w) X.A (subscriptTail e (.Slice lo hi none p2) v (.ref s3.heap.objs.size)) (EP X pins σ Q) X.xe { s3 with heap := s3.heap.push { cls := .type "slice", data := .fields #[vl, vu, .none] } }
 exact tail_any (ops := [.ref s3.heap.objs.size, v]) ht hT hg (by with_unfolding_all rfl)
def cutV (xs : List V) (lo hi : Option Int) : List V := (xs.drop (HT.sIx xs.length 0 lo)).take (HT.sIx xs.length xs.length hi - HT.sIx xs.length 0 lo)
theorem Qd8 (xs : List V) (lo hi : Option Int) : (cutV xs lo hi).length ≤ xs.length := by
 unfold cutV
 rw [List.length_take, List.length_drop]
 omega
def rSlT (K : Q5) : V → Option Int → Option Int → Hp → VK → Prop := fun x lo hi H Q => ∃ a xs, x = .ref a ∧ SqT K H a xs ∧
 ¬ (HT.sIx xs.length 0 lo = 0 ∧ HT.sIx xs.length xs.length hi = xs.length) ∧ ∀ p, H p = none → Q (.ref p) (upd H p (.tup (cutV xs lo hi)))
theorem sl_tup : SlR X (rSlT X.K) := by
 intro pins s σ H x v vl vu lo hi sl Q I rx hs pl pu h
 obtain ⟨a, xs, rfl, hx, hw, q⟩ := h
 cases rx
 obtain ⟨its, r, ht, hz⟩ := I.tuple hx
 have hlen : its.toArray.size = xs.length := by rw [List.size_toArray]; exact r.length.symm
 refine ⟨"tuple", _, PyProof.Rows.slot_tuple_getitem.lookup, ht.typeIs, ?_⟩
 refine HT.getItem_tuple_cut ht hs pl pu (by rw [hlen]; exact hw) ?_ (by rw [hlen]; exact hz)
 rw [hlen]
 refine ⟨.ref s.heap.objs.size, _, I.laid (t' := s.toks) (o := .tup (cutV xs lo hi)) (fun b ob q => Heap.get?_push_of_some _ q) (Nat.le_refl _) ?_, rfl, q _ (I.hok.fresh (Nat.le_refl _))⟩
 exact ⟨Nat.le_trans (Qd8 xs lo hi) hz, _, (r.drop (HT.sIx xs.length 0 lo)).take (HT.sIx xs.length xs.length hi - HT.sIx xs.length 0 lo), IsTup.new _ _⟩
def rCatT (K : Q5) : R2 := fun x y H Q => ∃ a b xs ys, x = .ref a ∧ y = .ref b ∧ SqT K H a xs ∧ SqT K H b ys ∧ xs ≠ [] ∧ xs.length + ys.length ≤ sizeLine ∧
 (ys = [] → Q (.ref a) H) ∧ (ys ≠ [] → ∀ p, H p = none → Q (.ref p) (upd H p (.tup (xs ++ ys))))
theorem Vals.Qg0 {xs : List V} {us : List Value} (r : Vals xs us) : us = [] ↔ xs = [] := by
 cases r with
 | nil => simp
 | cons _ _ => simp
theorem Qoj : OpR X (binaryOp .Add) (rCatT X.K) := by
 intro pins s σ H x y v u Q I rx ry h
 obtain ⟨a, b, xs, ys, rfl, rfl, ha, hb, hx, hz, q1, q2⟩ := h
 cases rx
 cases ry
 obtain ⟨its, r1, p1, _⟩ := I.tuple ha
 obtain ⟨its2, r2, p2, _⟩ := I.tuple hb
 refine HT.cat_tup p1 p2 (fun z => hx (r1.Qg0.mp z)) (fun z => ⟨.ref a, H, I, rfl, q1 (r2.Qg0.mp z)⟩) (fun z => ?_) (by rw [← r1.length, ← r2.length]; exact hz)
 refine ⟨.ref s.heap.objs.size, _, I.laid (t' := s.toks) (o := .tup (xs ++ ys)) (fun b ob q => Heap.get?_push_of_some _ q) (Nat.le_refl _) ?_, rfl, q2 (fun w => z (r2.Qg0.mpr w)) _ (I.hok.fresh (Nat.le_refl _))⟩
 exact ⟨by rw [List.length_append]; exact hz, _, r1.append r2, IsTup.new _ _⟩
end
end L2
namespace L2
open PySem PySem.Spec PyProof.Rows
def ixN (n : Nat) (i : Int) : Option Nat := if 0 ≤ i then (if i < n then some i.toNat else none) else if -(n : Int) ≤ i then some (i + n).toNat else none
def atI {α : Type} (xs : List α) (i : Int) : Option α := (ixN xs.length i).bind fun j => xs[j]?
theorem Qou {n : Nat} {i : Int} {j : Nat} (h : ixN n i = some j) : seqIndex? i n = some j ∧ j < n ∧ -(n : Int) ≤ i ∧ i < n := by
 unfold ixN at h
 by_cases h0 : 0 ≤ i
 ·rw [if_pos h0] at h
  by_cases h1 : i < n
  ·rw [if_pos h1] at h
   have e : i.toNat = j := Option.some.inj h
   exact ⟨by rw [seqIndex_of h0 h1, e], by omega, by omega, h1⟩
  ·rw [if_neg h1] at h; cases h
 ·rw [if_neg h0] at h
  by_cases h1 : -(n : Int) ≤ i
  ·rw [if_pos h1] at h
   have e : (i + n).toNat = j := Option.some.inj h
   exact ⟨by rw [seqIndex_neg (by omega) h1, e], by omega, h1, by omega⟩
  ·rw [if_neg h1] at h; cases h
theorem Qhb {α : Type} {xs : List α} {i : Int} {v : α} (h : atI xs i = some v) : ∃ j, seqIndex? i xs.length = some j ∧ xs[j]? = some v ∧ j < xs.length ∧ -(xs.length : Int) ≤ i ∧ i < xs.length := by
 unfold atI at h
 cases e : ixN xs.length i with
 | none => rw [e] at h; cases h
 | some j =>
   rw [e] at h
   obtain ⟨h1, h2, h3, h4⟩ := Qou e
   exact ⟨j, h1, h, h2, h3, h4⟩
theorem Qct {α : Type} {xs : List α} {j : Nat} {v : α} (h : xs[j]? = some v) : atI xs (j : Int) = some v := by
 have hj : j < xs.length := (List.getElem?_eq_some_iff.mp h).1
 have e : ixN xs.length (j : Int) = some j := by
  unfold ixN
  rw [if_pos (by omega), if_pos (by omega)]; simp
 unfold atI; rw [e]; exact h
def PlainIx (b : Expr) : Prop := ∀ o i, subscripted b false o i = operate [o, i] (getItem o i)
def IxR (X : Cx) (r : R2) : Prop :=
 ∀ (value slice : Expr) (pins : Q4) (s : Shared) (σ : St) (H : Hp) (x y : V) (v u : Value) (Q : VK), Inv X pins σ H s → RelV x v → RelV y u → r x y H Q →
   subscripted slice false v u = operate [v, u] (getItem v u) → wpAny (model X.prog X.w) X.A (subscriptTail value slice v u) (EP X pins σ Q) X.xe s
def MtR (X : Cx) (id : String) (r : V → List V → Hp → VK → Prop) : Prop :=
 ∀ (pins : Q4) (s : Shared) (σ : St) (H : Hp) (x : V) (xs : List V) (v : Value) (us : List Value) (Q : VK), Inv X pins σ H s → RelV x v → Vals xs us → r x xs H Q →
   wpAny (model X.prog X.w) X.A (call (.builtin id) (v :: us)) (EP X pins σ Q) X.xe s
section
variable {X : Cx} {a b : Expr} {ta tb : TE} {pos : Pos}
theorem IxR.or {r r' : R2} (h : IxR X r) (h' : IxR X r') : IxR X (fun x y H Q => r x y H Q ∨ r' x y H Q) := by
 intro value slice pins s σ H x y v u Q I rx ry q hs
 rcases q with q | q
 ·exact h value slice pins s σ H x y v u Q I rx ry q hs
 ·exact h' value slice pins s σ H x y v u Q I rx ry q hs
theorem Qax {r : R2} (hr : IxR X r) (ha : PE X a ta) (hb : PE X b tb) (hs : PlainIx b) : PE X (.Subscript a b pos) (tOp r ta tb) := by
 intro pins s σ H Q I h
 exact Subscript_ (binT ha hb I h fun v u s2 x y H2 I2 rx ry q => hr a b pins s2 σ H2 x y v u Q I2 rx ry q (hs _ _))
def rIxL (K : Q5) : R2 := fun x y H Q => ∃ p xs i v, x = .ref p ∧ y = .int i ∧ SqL K H p xs ∧ atI xs i = some v ∧ Q v H
def rIxT (K : Q5) : R2 := fun x y H Q => ∃ p xs i v, x = .ref p ∧ y = .int i ∧ SqT K H p xs ∧ atI xs i = some v ∧ Q v H
def rIxS : R2 := fun x y H Q => ∃ z i c, x = .str z ∧ y = .int i ∧ z.length ≤ sizeLine ∧ atI z.cps.toList i = some c ∧ Q (.str ⟨#[c]⟩) H
theorem Qot : IxR X (rIxL X.K) := by
 intro value slice pins s σ H x y v u Q I rx ry h hs
 obtain ⟨p, xs, i, z, rfl, rfl, hq, he, q⟩ := h
 cases rx
 obtain ⟨t, rfl⟩ := ry
 obtain ⟨its, r, pl, hz⟩ := I.list hq
 obtain ⟨j, h1, h2, h3, h4, h5⟩ := Qhb he
 obtain ⟨w, ew, rw'⟩ := r.get h2
 have hl := r.length
 have hn := line63
 have fin : EP X pins σ Q w s := ⟨z, H, I, rw', q⟩
 by_cases h0 : 0 ≤ i
 ·have hj : i.toNat = j := by
   rw [seqIndex_of h0 h5] at h1
   exact Option.some.inj h1
  exact item_listR pl.isList h0 (by omega) (by rw [hj]; simpa using ew) fin hs
 ·have hj : (i + (its.toArray.size : Int)).toNat = j := by
   rw [seqIndex_neg (by omega) h4] at h1
   rw [List.size_toArray, ← hl]
   exact Option.some.inj h1
  exact subscriptTail_builtinR (x := w) pl.isList.typeIs slot_list_getitem.lookup
   (wpAny_getItem_list_neg (Q := fun r s' => r = w ∧ EP X pins σ Q r s') pl.isList (by omega) (by rw [List.size_toArray] <;> omega) (by omega) (by rw [hj]; simpa using ew) ⟨rfl, fin⟩) hs
theorem ix_tup : IxR X (rIxT X.K) := by
 intro value slice pins s σ H x y v u Q I rx ry h hs
 obtain ⟨p, xs, i, z, rfl, rfl, hq, he, q⟩ := h
 cases rx
 obtain ⟨t, rfl⟩ := ry
 obtain ⟨its, r, pl, hz⟩ := I.tuple hq
 obtain ⟨j, h1, h2, h3, h4, h5⟩ := Qhb he
 obtain ⟨w, ew, rw'⟩ := r.get h2
 have hl := r.length
 have hn := line63
 have fin : EP X pins σ Q w s := ⟨z, H, I, rw', q⟩
 exact subscriptTail_builtinR (x := w) pl.typeIs slot_tuple_getitem.lookup
  (getItem_tuple (j := j) (Q := fun r s' => r = w ∧ EP X pins σ Q r s') pl (by omega) (by omega) (by rw [List.size_toArray, ← hl]; exact h1) (by simpa using ew) ⟨rfl, fin⟩) hs
theorem ix_str : IxR X rIxS := by
 intro value slice pins s σ H x y v u Q I rx ry h hs
 obtain ⟨z, i, c, rfl, rfl, hz, he, q⟩ := h
 obtain ⟨t, rfl⟩ := rx
 obtain ⟨t', rfl⟩ := ry
 obtain ⟨j, h1, h2, h3, h4, h5⟩ := Qhb he
 have hl : z.cps.toList.length = z.length := by simp [Str.length]
 rw [hl] at h1 h4 h5
 have hn := line63
 exact tail_any (typeIs_str s z t) slot_str_getitem.lookup (getItem_str (c := c) (by
  have e1 : decide (i < -(2 ^ 63 : Int)) = false := decide_eq_false (by omega)
  have e2 : decide (i ≥ 2 ^ 63) = false := decide_eq_false (by omega)
  rw [e1, e2, Bool.or_false]) (by rw [h1]; simpa using h2) ⟨.str ⟨#[c]⟩, H, I.tok _, ⟨_, rfl⟩, q⟩) hs
def rIx (K : Q5) : R2 := fun x y H Q => rIxL K x y H Q ∨ rIxT K x y H Q ∨ rIxS x y H Q
theorem Qaw : IxR X (rIx X.K) := Qot.or (ix_tup.or ix_str)
theorem Qfr (lo hi : Option Int) (n : Nat) : (sliceBounds lo hi none n).1 = ((HT.sIx n 0 lo : Nat) : Int) ∧ (sliceBounds lo hi none n).2.1 = ((HT.sIx n n hi : Nat) : Int) ∧ (sliceBounds lo hi none n).2.2 = 1 := by
 refine ⟨?_, ?_, rfl⟩
 ·cases lo with
  | none => simp [sliceBounds, HT.sIx]
  | some i =>
    simp only [sliceBounds, HT.sIx, Option.getD_none, show (1 : Int) > 0 by decide, if_true]
    by_cases h : i < 0
    ·simp only [h, if_true] <;> omega
    ·simp only [h, if_false] <;> omega
 ·cases hi with
  | none => simp [sliceBounds, HT.sIx]
  | some i =>
    simp only [sliceBounds, HT.sIx, Option.getD_none, show (1 : Int) > 0 by decide, if_true]
    by_cases h : i < 0
    ·simp only [h, if_true] <;> omega
    ·simp only [h, if_false] <;> omega
theorem Qey (its : List Value) (lo hi : Option Int) : slicePick its.toArray lo hi none = ((its.drop (HT.sIx its.length 0 lo)).take (HT.sIx its.length its.length hi - HT.sIx its.length 0 lo)).toArray := by
 obtain ⟨h1, h2, h3⟩ := Qfr lo hi its.toArray.size
 unfold slicePick
 rw [h1, h2, h3]
 simp only [sliceRange_one, pick_run, List.size_toArray] <;> rfl
def rSlL (K : Q5) : V → Option Int → Option Int → Hp → VK → Prop := fun x lo hi H Q => ∃ a xs, x = .ref a ∧ SqL K H a xs ∧ ∀ p, H p = none → Q (.ref p) (upd H p (.lst (cutV xs lo hi)))
theorem Qc8 : SlR X (rSlL X.K) := by
 intro pins s σ H x v vl vu lo hi sl Q I rx hs pl pu h
 obtain ⟨a, xs, rfl, hx, q⟩ := h
 cases rx
 obtain ⟨its, r, ht, hz⟩ := I.list hx
 have hlen := r.length
 refine ⟨"list", _, slot_list_getitem.lookup, ht.isList.typeIs, ?_⟩
 refine wpAny_getItem_list_slice ht.isList hs pl pu .none (by simp) ?_ (by rw [List.size_toArray] <;> omega)
 rw [Qey, ← hlen]
 refine ⟨.ref s.heap.objs.size, _, I.laid (t' := s.toks) (o := .lst (cutV xs lo hi)) (fun b ob q => Heap.get?_push_of_some _ q) (Nat.le_refl _) ?_, rfl, q _ (I.hok.fresh (Nat.le_refl _))⟩
 exact ⟨Nat.le_trans (Qd8 xs lo hi) hz, _, 0, (r.drop (HT.sIx xs.length 0 lo)).take (HT.sIx xs.length xs.length hi - HT.sIx xs.length 0 lo), Heap.get?_push_size _ rfl⟩
theorem Qa5 : CallR X (.builtin "len") (fun xs H Q => ∃ p ys, xs = [.ref p] ∧ (SqL X.K H p ys ∨ SqT X.K H p ys) ∧ Q (.int ys.length) H) := by
 intro pins s σ H xs us Q I r h
 obtain ⟨p, ys, rfl, hq, q⟩ := h
 obtain ⟨u, rfl, rx⟩ := vals1 r
 cases rx
 have hn := line63
 rcases hq with hq | hq
 ·obtain ⟨its, r', pl, hz⟩ := I.list hq
  have hlen := r'.length
  exact Calls.call_len_list pl.isList (by simp only [List.size_toArray] <;> omega) ⟨.int ys.length, H, I.tok _, ⟨s.toks + 1, by rw [List.size_toArray, hlen]⟩, q⟩
 ·obtain ⟨its, r', pl, hz⟩ := I.tuple hq
  have hlen := r'.length
  exact len_tuple pl (by simp only [List.size_toArray] <;> omega) ⟨.int ys.length, H, I.tok _, ⟨s.toks + 1, by rw [List.size_toArray, hlen]⟩, q⟩
theorem Qcr : CallR X (.type "list") (fun xs H Q => ∃ p ys, xs = [.ref p] ∧ (SqL X.K H p ys ∨ SqT X.K H p ys) ∧ ∀ l, H l = none → Q (.ref l) (upd H l (.lst ys))) := by
 intro pins s σ H xs us Q I r h
 obtain ⟨p, ys, rfl, hq, q⟩ := h
 obtain ⟨u, rfl, rx⟩ := vals1 r
 cases rx
 have fin : ∀ (its : List Value), Vals ys its → ys.length ≤ sizeLine → ∀ (h' : Heap) (c' : Nat), (∀ b o', s.heap.get? b = some o' → h'.get? b = some o') →
  h'.get? s.heap.objs.size = some { cls := .type "list", dict := none, data := .seq its.toArray c', slots := #[] } → EP X pins σ Q (.ref s.heap.objs.size) { s with heap := h' } := fun its r' hz h' c' kp e =>
  ⟨.ref s.heap.objs.size, _, I.laid (t' := s.toks) kp (Nat.le_refl _) (show ObjOk X.prog X.w _ h' _ (.lst ys) from ⟨hz, its, c', r', e⟩), rfl, q _ (I.hok.fresh (Nat.le_refl _))⟩
 rcases hq with hq | hq
 ·obtain ⟨its, r', pl, hz⟩ := I.list hq
  have hlen := r'.length
  obtain ⟨o, ho, hc, n, hd⟩ := pl.isList
  exact call_list_seq p (.inl rfl) ho hc hd (fun h' c' kp e => fin its r' hz h' c' kp e) (by simp only [List.size_toArray] <;> omega)
 ·obtain ⟨its, r', pl, hz⟩ := I.tuple hq
  have hlen := r'.length
  obtain ⟨o, ho, hc, n, hd⟩ := pl
  exact call_list_seq p (.inr rfl) ho hc hd (fun h' c' kp e => fin its r' hz h' c' kp e) (by simp only [List.size_toArray] <;> omega)
theorem Qff : CallR X (.type "tuple") (fun xs H Q => ∃ p ys, xs = [.ref p] ∧ ((SqL X.K H p ys ∧ ∀ l, H l = none → Q (.ref l) (upd H l (.tup ys))) ∨ (SqT X.K H p ys ∧ Q (.ref p) H))) := by
 intro pins s σ H xs us Q I r h
 obtain ⟨p, ys, rfl, h⟩ := h
 obtain ⟨u, rfl, rx⟩ := vals1 r
 cases rx
 rcases h with ⟨hq, q⟩ | ⟨hq, q⟩
 ·obtain ⟨its, r', pl, hz⟩ := I.list hq
  have hlen := r'.length
  refine call_tuple_list pl.isList (fun h' kp => ?_) (by simp only [List.size_toArray] <;> omega)
  have I1 : Inv X pins σ H { s with heap := h' } := I.kept (t' := s.toks) kp
  have I2 : Inv X pins σ (upd H h'.objs.size (.tup ys)) { s with heap := h'.push { cls := .type "tuple", data := .seq its.toArray } } :=
   I1.laid (t' := s.toks) (fun b o e => Heap.get?_push_of_some _ e) (Nat.le_refl _) (show ObjOk X.prog X.w _ _ _ (.tup ys) from ⟨hz, its, r', IsTup.new _ _⟩)
  exact ⟨.ref h'.objs.size, _, I2, rfl, q _ (I1.hok.fresh (Nat.le_refl _))⟩
 ·obtain ⟨its, r', pl, hz⟩ := I.tuple hq
  exact call_tuple_same pl ⟨.ref p, H, I, rfl, q⟩
def tyV (K : Q5) (T : String) (x : V) (H : Hp) : Prop := match x with
 | .str _ => T = "str"
 | .int _ => T = "int"
 | .ref p => (T = "list" ∧ ∃ xs, SqL K H p xs) ∨ (T = "tuple" ∧ ∃ o, K.lookup p = some o ∧ o.cls = .type "tuple" ∧ o.dict = none) ∨
  (T = "dict" ∧ ((∃ kvs, H p = some (.dK kvs)) ∨ ∃ kvs, H p = some (.dT kvs))) ∨ (T = "set" ∧ ∃ S n, H p = some (.set S n))
 | _ => False
theorem Qm0 {pins : Q4} {σ : St} {H : Hp} {s : Shared} {T : String} {x : V} {v : Value} (I : Inv X pins σ H s) (r : RelV x v) (ty : tyV X.K T x H) :
 s.TypeIs v T ∧ ∀ a, v = .ref a → ∃ ob, s.heap.get? a = some ob ∧ ob.dict = none := by
 cases x with
 | str z =>
   obtain ⟨t, rfl⟩ := r
   cases (show T = "str" from ty)
   exact ⟨typeIs_str s z t, fun _ e => nomatch e⟩
 | int i =>
   obtain ⟨t, rfl⟩ := r
   cases (show T = "int" from ty)
   exact ⟨typeIs_int s i t, fun _ e => nomatch e⟩
 | ref p =>
   cases r
   rcases ty with ⟨rfl, xs, hq⟩ | ⟨rfl, o, hk, hc, hd⟩ | ⟨rfl, hk⟩ | ⟨rfl, S, n, hk⟩
   ·obtain ⟨its, _, pl, _⟩ := I.list hq
    refine ⟨pl.isList.typeIs, fun a e => ?_⟩
    cases e
    obtain ⟨o, n, e, c, hd, _⟩ := pl
    exact ⟨o, e, hd⟩
   ·refine ⟨⟨o, I.kIn p o hk, hc⟩, fun a e => ?_⟩
    cases e
    exact ⟨o, I.kIn _ o hk, hd⟩
   ·have z : ∃ o, s.heap.get? p = some o ∧ o.ExactDict := by
     rcases hk with ⟨kvs, hk⟩ | ⟨kvs, hk⟩
     ·obtain ⟨_, _, _, _, o, _, _, e, ex, _⟩ := I.hok p _ hk
      exact ⟨o, e, ex⟩
     ·obtain ⟨_, _, _, _, o, _, _, e, ex, _⟩ := I.hok p _ hk
      exact ⟨o, e, ex⟩
    obtain ⟨o, e, ex⟩ := z
    refine ⟨⟨o, e, ex.1⟩, fun a e2 => ?_⟩
    cases e2
    exact ⟨o, e, ex.2.1⟩
   ·obtain ⟨o, _, _, _, e, ex, _⟩ := I.hok p _ hk
    refine ⟨⟨o, e, ex.1⟩, fun a e2 => ?_⟩
    cases e2
    exact ⟨o, e, ex.2.1⟩
 | _ => exact False.elim ty
def tBM0 (K : Q5) (T : String) (r : V → List V → Hp → VK → Prop) (to : TE) : TE := fun σ H Q => to σ H fun x H1 => tyV K T x H1 ∧ r x [] H1 Q
def tBM (K : Q5) (T : String) (r : V → List V → Hp → VK → Prop) (to : TE) (t : TA) : TE := fun σ H Q => to σ H fun x H1 => tyV K T x H1 ∧ t σ H1 fun xs H2 => r x xs H2 Q
variable {o e : Expr} {es : List Expr} {to : TE} {t : TA} {name : Str} {apos cpos : Pos} {T id : String} {r : V → List V → Hp → VK → Prop}
theorem Qjv (pa : PlainAttrs T) (slot : Slot T name id) (hty : typeOf (.builtin id) = pure (.type "method_descriptor")) (hm : MtR X id r) (ho : PE X o to)
 (hbase : attributeBase o name X.env (eval o X.env) = eval o X.env := by rfl) (hline : (apos.endLine == cpos.line) = true := by rfl) : PE X (.Call (.Attribute o name apos) [] [] cpos) (tBM0 X.K T r to) := by
 intro pins s σ H Q I h
 refine wpAny_Call_method0_late hbase hline (thn (ho pins s σ H _ I h) fun v s1 ⟨x, H1, I1, r1, ty, q1⟩ => ?_)
 obtain ⟨h1, h2⟩ := Qm0 I1 r1 ty
 exact ⟨T, id, pa, slot, hty, h1, h2, Calls.callWith_builtin rfl (PySem.evalArgs_none (hm pins s1 σ H1 x [] v [] Q I1 r1 .nil q1))⟩
theorem Qc1 (pa : PlainAttrs T) (slot : Slot T name id) (hty : typeOf (.builtin id) = pure (.type "method_descriptor")) (hm : MtR X id r) (ho : PE X o to) (ha : PA X (e :: es) t)
 (hbase : attributeBase o name X.env (eval o X.env) = eval o X.env := by rfl)
 (hfew : ((backTo cpos (starEach (e :: es) X.env)).all (fun x => !x.1) && (backToKw cpos (keywordEach [] X.env)).all (fun x => x.1.isSome)
  && decide ((e :: es).length + ([] : List Keyword).length + (if ([] : List Keyword).isEmpty then 0 else 1) < 30)) = true := by rfl)
 (hline : (apos.endLine == cpos.line) = true := by rfl) (hs : starEach (e :: es) X.env = (false, eval e X.env) :: starEach es X.env := by rfl) (hplain : (backTo cpos (starEach es X.env)).any (·.1) = false := by rfl) :
 PE X (.Call (.Attribute o name apos) (e :: es) [] cpos) (tBM X.K T r to t) := by
 intro pins s σ H Q I h
 refine wpAny_Call_method_late hbase hfew hline rfl (thn (ho pins s σ H _ I h) fun v s1 ⟨x, H1, I1, r1, ty, q1⟩ => ?_)
 obtain ⟨h1, h2⟩ := Qm0 I1 r1 ty
 refine ⟨T, id, pa, slot, hty, h1, h2, ?_⟩
 have hA := ha cpos pins s1 σ H1 _ I1 q1
 rw [hs] at hA ⊢
 refine Calls.callWith_builtin (by show (false || (backTo cpos (starEach es X.env)).any (·.1)) = false; rw [hplain] <;> rfl) (Calls.evalArgs_plain ?_)
 exact thn hA fun us s2 ⟨vs, H2, I2, r2, q2⟩ => hm pins s2 σ H2 x vs v us Q I2 r1 r2 q2
end
end L2
namespace L2
open PySem PySem.Spec PyProof.Rows
def MtM (X : Cx) (id : String) (r : V → List V → Hp → VK → Prop) : Prop :=
 ∀ (pins : Q4) (s : Shared) (σ : St) (H : Hp) (x : V) (xs : List V) (v : Value) (us : List Value) (Q : VK), Inv X pins σ H s → RelV x v → Vals xs us → r x xs H Q →
   wpAny (model X.prog X.w) X.A (call (.builtin id) (v :: us)) (EP X pins σ Q) X.xe s
theorem Vals.one : ∀ {x : V} {us : List Value}, Vals [x] us → ∃ u, us = [u] ∧ RelV x u
 | _, _, .cons r .nil => ⟨_, rfl, r⟩
section
variable {X : Cx} {pins : Q4} {σ : St} {H : Hp} {s : Shared} {l b : Addr} {xs ys zs : List V}
theorem Inv.lset {its its' : List Value} {n : Nat} {f : Array Value → Array Value} {t' : Nat} (I : Inv X pins σ H s) (hH : H l = some (.lst xs))
 (e : s.heap.get? l = some { cls := .type "list", data := .seq its.toArray n }) (hf : f its.toArray = its'.toArray) (hv : Vals ys its') (hz : ys.length ≤ sizeLine) :
 Inv X pins σ (upd H l (.lst ys)) { s with heap := s.heap.update l (Obj.mapSeq f), toks := t' } := by
 have q := PySem.IsL.update e f
 rw [hf] at q
 refine I.write (x := l) (e := l) (by rw [hH]; exact trivial) (.inl rfl) (fun b' u hb hu => (Heap.get?_update_other s.heap (Obj.mapSeq f) (Ne.symm hb)).trans hu) ⟨_, q⟩ ?_
 exact ⟨hz, its', _, hv, q⟩
theorem Inv.lnew {its : List Value} {t' : Nat} (I : Inv X pins σ H s) (hv : Vals ys its) (hz : ys.length ≤ sizeLine) :
 Inv X pins σ (upd H s.heap.objs.size (.lst ys)) { s with heap := s.heap.push { cls := .type "list", data := .seq its.toArray }, toks := t' } :=
 I.laid (fun _ _ q => Heap.get?_push_of_some _ q) (Nat.le_refl _) ⟨hz, its, 0, hv, Heap.get?_push_size _ rfl⟩
theorem Inv.fresh (I : Inv X pins σ H s) : H s.heap.objs.size = none := I.hok.fresh (Nat.le_refl _)
theorem Inv.lstM (I : Inv X pins σ H s) (hH : H l = some (.lst xs)) : xs.length ≤ sizeLine ∧ ∃ (its : List Value) (n : Nat), Vals xs its ∧ xs.length = its.length ∧ s.heap.get? l = some { cls := .type "list", data := .seq its.toArray n } := by
 obtain ⟨z, its, n, r, e⟩ := I.hok l _ hH
 exact ⟨z, its, n, r, r.length, e⟩
end
section
variable {X : Cx}
def rAppend : V → List V → Hp → VK → Prop := fun x vs H Q => ∃ l xs y, x = .ref l ∧ vs = [y] ∧ H l = some (.lst xs) ∧ xs.length < sizeLine ∧ Q .non (upd H l (.lst (xs ++ [y])))
theorem Qbj : MtM X "list.append" rAppend := by
 intro pins s σ H x vs v us Q I rx rv h
 obtain ⟨l, xs, y, rfl, rfl, hH, hz, q⟩ := h
 cases rx
 obtain ⟨u, rfl, ru⟩ := rv.one
 obtain ⟨z, its, n, r, hl, e⟩ := I.lstM hH
 refine call_meets F.slot_list_append ⟨_, e, rfl⟩ F.entry_list_append (F.args_list_append_2 _ _) (PySem.list_append l its.toArray n u (by rw [List.size_toArray]; omega)) ⟨e, ?_⟩
 refine ⟨.non, _, I.lset (its' := its ++ [u]) hH e (by simp) (r.append (.cons ru .nil)) ?_, rfl, q⟩
 rw [List.length_append, List.length_singleton]
 omega
def rCat : R2 := fun x y H Q => ∃ l b xs zs, x = .ref l ∧ y = .ref b ∧ H l = some (.lst xs) ∧ H b = some (.lst zs) ∧ xs.length + zs.length ≤ sizeLine ∧ ∀ p, H p = none → Q (.ref p) (upd H p (.lst (xs ++ zs)))
theorem Qht : OpR X (binaryOp .Add) rCat := by
 intro pins s σ H x y v u Q I rx ry h
 obtain ⟨l, b, xs, zs, rfl, rfl, hH, hB, hz, q⟩ := h
 cases rx
 cases ry
 obtain ⟨z, its, n, r, hl, e⟩ := I.lstM hH
 obtain ⟨z2, its2, n2, r2, hl2, e2⟩ := I.lstM hB
 refine PySem.P.add_list e e2 ?_ (by rw [List.size_toArray, List.size_toArray]; omega)
 have ea : its.toArray ++ its2.toArray = (its ++ its2).toArray := by simp
 rw [ea]
 exact ⟨.ref _, _, I.lnew (t' := s.toks) (r.append r2) (by rw [List.length_append]; omega), rfl, q _ I.fresh⟩
end
section
variable {prog : Program} {w : World} {A : Around} {E : Q3} {s : Shared}
end
section
variable {X : Cx}
end
end L2
namespace L2
open PySem PySem.Spec PyProof.Rows
section
variable {κ : Type} [DecidableEq κ]
def valV (kvs : List (κ × V)) (k : κ) : Option V := (kvs.find? fun kv => decide (kv.1 = k)).map (·.2)
def putK (kvs : List (κ × V)) (k : κ) (v : V) : List (κ × V) :=
 if (kvs.any fun kv => decide (kv.1 = k)) = true then kvs.map (fun kv => if kv.1 = k then (kv.1, v) else kv) else kvs ++ [(k, v)]
theorem Qbm {p : κ × V} {r : List (κ × V)} {k : κ} (e : p.1 = k) : valV (p :: r) k = some p.2 := by simp [valV, List.find?_cons, e]
theorem Qbn {p : κ × V} {r : List (κ × V)} {k : κ} (e : ¬ p.1 = k) : valV (p :: r) k = valV r k := by simp [valV, List.find?_cons, e]
theorem Qci (k : κ) : ∀ kvs : List (κ × V), (kvs.any fun kv => decide (kv.1 = k)) = (valV kvs k).isSome
 | [] => rfl
 | p :: r => by
   rw [List.any_cons]
   by_cases e : p.1 = k
   ·simp only [Qbm e, decide_eq_true e, Bool.true_or, Option.isSome_some]
   ·rw [Qbn e, decide_eq_false e, Bool.false_or]; exact Qci k r
theorem Qhe (k j : κ) (y : V) : ∀ kvs : List (κ × V), valV (kvs.map fun kv => if kv.1 = k then (kv.1, y) else kv) j = (valV kvs j).map fun x => if j = k then y else x
 | [] => rfl
 | p :: r => by
   have ih := Qhe k j y r
   rw [List.map_cons]
   by_cases h : p.1 = k
   ·rw [if_pos h]
    by_cases e : p.1 = j
    ·rw [Qbm (p := (p.1, y)) e, Qbm e, Option.map_some, if_pos (e.symm.trans h)]
    ·rw [Qbn (p := (p.1, y)) e, Qbn e, ih]
   ·rw [if_neg h]
    by_cases e : p.1 = j
    ·rw [Qbm (p := p) e, Qbm e, Option.map_some, if_neg (fun z => h (e.trans z))]
    ·rw [Qbn (p := p) e, Qbn e, ih]
theorem Qfi (k j : κ) (y : V) : ∀ kvs : List (κ × V), valV kvs k = none → valV (kvs ++ [(k, y)]) j = if j = k then some y else valV kvs j
 | [], _ => by
   by_cases e : k = j
   ·rw [if_pos e.symm]; exact Qbm (p := (k, y)) e
   ·rw [if_neg (fun z => e z.symm)]; exact Qbn (p := (k, y)) e
 | p :: r, hn => by
   rw [List.cons_append]
   have hk : ¬ p.1 = k := fun z => by rw [Qbm z] at hn; cases hn
   rw [Qbn hk] at hn
   have ih := Qfi k j y r hn
   by_cases e : p.1 = j
   ·rw [Qbm e, Qbm e, if_neg (fun z => hk (e.trans z))]
   ·rw [Qbn e, Qbn e, ih]
theorem Qca (kvs : List (κ × V)) (k j : κ) (y : V) : valV (putK kvs k y) j = if j = k then some y else valV kvs j := by
 unfold putK
 by_cases a : (kvs.any fun kv => decide (kv.1 = k)) = true
 ·rw [if_pos a, Qhe]
  rw [Qci] at a
  by_cases e : j = k
  ·obtain ⟨x, hx⟩ := Option.isSome_iff_exists.mp a
   rw [if_pos e, e, hx, Option.map_some, if_pos rfl]
  ·rw [if_neg e]
   cases valV kvs j with
   | none => rfl
   | some x => rw [Option.map_some, if_neg e]
 ·rw [if_neg a]
  refine Qfi k j y kvs ?_
  rw [Qci] at a
  cases q : valV kvs k with
  | none => rfl
  | some x => rw [q] at a; exact (a rfl).elim
theorem Qbs (kvs : List (κ × V)) (k : κ) (v : V) : (putK kvs k v).length ≤ kvs.length + 1 := by
 unfold putK
 split
 ·rw [List.length_map]; omega
 ·rw [List.length_append, List.length_cons, List.length_nil]; omega
theorem Qlu {kvs : List (κ × V)} {k : κ} (v : V) (h : valV kvs k = none) : putK kvs k v = kvs ++ [(k, v)] := by
 unfold putK
 rw [Qci, h]
 exact if_neg (by decide)
theorem RelO.Qd4 {o : Option V} {u : Option Value} (r : RelO o u) : o.isSome = u.isSome := by
 cases o with
 | none => cases u with
   | none => rfl
   | some _ => exact (show False from r).elim
 | some _ => cases u with
   | none => exact (show False from r).elim
   | some _ => rfl
theorem RelO.getD {o : Option V} {u : Option Value} {d : V} {d' : Value} (r : RelO o u) (rd : RelV d d') : RelV (o.getD d) (u.getD d') := by
 cases o with
 | none => cases u with
   | none => exact rd
   | some _ => exact (show False from r).elim
 | some _ => cases u with
   | none => exact (show False from r).elim
   | some _ => exact r
theorem KV.val {kvs : List (κ × V)} {vs : List (κ × Value)} (r : KV kvs vs) (k : κ) : RelO (valV kvs k) (valueAt vs k) := by
 unfold KV at r
 induction r with
 | nil => exact True.intro
 | @cons p q ps qs h t ih =>
   obtain ⟨h1, h2⟩ := h
   by_cases e : p.1 = k
   ·have e' : q.1 = k := h1.symm.trans e
    have b : valueAt (q :: qs) k = some q.2 := by simp [valueAt, List.find?_cons, e']
    rw [Qbm e, b]; exact h2
   ·have e' : ¬ q.1 = k := fun z => e (h1.trans z)
    have b : valueAt (q :: qs) k = valueAt qs k := by simp [valueAt, List.find?_cons, e']
    rw [Qbn e, b]; exact ih
theorem KV.any {kvs : List (κ × V)} {vs : List (κ × Value)} (r : KV kvs vs) (k : κ) : (kvs.any fun kv => decide (kv.1 = k)) = vs.any fun kv => decide (kv.1 = k) := by
 unfold KV at r
 induction r with
 | nil => rfl
 | cons h t ih => rw [List.any_cons, List.any_cons, ih, h.1]
theorem KV.repl {kvs : List (κ × V)} {vs : List (κ × Value)} (r : KV kvs vs) (k : κ) {y : V} {u : Value} (ry : RelV y u) :
 KV (kvs.map fun kv => if kv.1 = k then (kv.1, y) else kv) (vs.map fun kv => if kv.1 = k then (kv.1, u) else kv) := by
 unfold KV at r ⊢
 induction r with
 | nil => exact .nil
 | @cons p q ps qs h t ih =>
   rw [List.map_cons, List.map_cons]
   refine .cons ?_ ih
   obtain ⟨h1, h2⟩ := h
   by_cases e : p.1 = k
   ·rw [if_pos e, if_pos (h1.symm.trans e)]; exact ⟨h1, ry⟩
   ·rw [if_neg e, if_neg (fun z => e (h1.trans z))]; exact ⟨h1, h2⟩
theorem KV.put {kvs : List (κ × V)} {vs : List (κ × Value)} (r : KV kvs vs) (k : κ) {y : V} {u : Value} (ry : RelV y u) : KV (putK kvs k y) (stored vs k u) := by
 unfold putK stored
 rw [r.any k]
 by_cases e : (vs.any fun kv => decide (kv.1 = k)) = true
 ·rw [if_pos e, if_pos e]; exact r.repl k ry
 ·rw [if_neg e, if_neg e]; exact Paired.snoc r ⟨rfl, ry⟩
theorem KV.length {kvs : List (κ × V)} {vs : List (κ × Value)} (r : KV kvs vs) : kvs.length = vs.length := Paired.length r
end
theorem Qiu {P : Program} {w : World} {k : Key} {u : Value} (r : RelV (kV k) u) : (mixKind P w).is k u = true := by
 cases k with
 | inl i => obtain ⟨t, e⟩ := (show ∃ t, u = Value.int i t from r); subst e; exact Qg2 P w i t
 | inr x => obtain ⟨t, e⟩ := (show ∃ t, u = Value.str x t from r); subst e; exact Qg1 P w x t
theorem Qf9 {P : Program} {w : World} : ∀ {ks : List Key} {us : List Value}, Vals (ks.map kV) us → ItemsAre (mixKind P w) ks us
 | [], _, r => by rw [List.map_nil] at r; cases r; exact .nil
 | k :: ks, _, r => by
   rw [List.map_cons] at r
   cases r with
   | cons h t => exact .cons (Qiu h) (Qf9 t)
abbrev KT (H : Hp) : List (List Key × V) → List (List Key × Addr × Value) → Prop := Paired fun p q => p.1 = q.1 ∧ H q.2.1 = some (.tup (p.1.map kV)) ∧ RelV p.2 q.2.2
theorem KT.val {H : Hp} {kvs : List (List Key × V)} {xs : List (List Key × Addr × Value)} (r : KT H kvs xs) (k : List Key) : RelO (valV kvs k) ((atKey xs k).map (·.2)) := by
 induction r with
 | nil => exact True.intro
 | @cons p q ps qs h t ih =>
   obtain ⟨h1, _, h2⟩ := h
   by_cases e : p.1 = k
   ·have e' : q.1 = k := h1.symm.trans e
    have b : atKey (q :: qs) k = some q.2 := by simp [atKey, List.find?_cons, e']
    rw [Qbm e, b]; exact h2
   ·have e' : ¬ q.1 = k := fun z => e (h1.trans z)
    have b : atKey (q :: qs) k = atKey qs k := by simp [atKey, List.find?_cons, e']
    rw [Qbn e, b]; exact ih
theorem KT.repl {H : Hp} {kvs : List (List Key × V)} {xs : List (List Key × Addr × Value)} (r : KT H kvs xs) (k : List Key) {y : V} {u : Value} (ry : RelV y u) :
 KT H (kvs.map fun kv => if kv.1 = k then (kv.1, y) else kv) (xs.map (putAt k u)) := by
 induction r with
 | nil => exact .nil
 | @cons p q ps qs h t ih =>
   rw [List.map_cons, List.map_cons]
   refine .cons ?_ ih
   obtain ⟨h1, h2, h3⟩ := h
   unfold putAt
   by_cases e : p.1 = k
   ·rw [if_pos e, if_pos (h1.symm.trans e)]; exact ⟨h1, h2, ry⟩
   ·rw [if_neg e, if_neg (fun z => e (h1.trans z))]; exact ⟨h1, h2, h3⟩
theorem KT.put {H : Hp} {kvs : List (List Key × V)} {xs : List (List Key × Addr × Value)} (r : KT H kvs xs) (k : List Key) {b : Addr} {y : V} {u : Value} (hb : H b = some (.tup (k.map kV))) (ry : RelV y u) :
 KT H (putK kvs k y) (storedH xs k b u) := by
 have e : (kvs.any fun kv => decide (kv.1 = k)) = (atKey xs k).isSome := by
  rw [Qci, (r.val k).Qd4, Option.isSome_map]
 unfold putK storedH
 rw [e]
 by_cases q : (atKey xs k).isSome = true
 ·rw [if_pos q, if_pos q]; exact r.repl k ry
 ·rw [if_neg q, if_neg q]; exact Paired.snoc r ⟨rfl, hb, ry⟩
theorem KT.keeps {H H' : Hp} {kvs : List (List Key × V)} {xs : List (List Key × Addr × Value)} (r : KT H kvs xs) (ht : ∀ b ys, H b = some (.tup ys) → H' b = some (.tup ys)) : KT H' kvs xs :=
 Paired.mapP r fun _ _ z => ⟨z.1, ht _ _ z.2.1, z.2.2⟩
section
variable {P : Program} {w : World} {H : Hp} {h : Heap} {a : Addr}
theorem rd_of {u : HO} (ok : HOk P w H h) (e : Rd H a u) : ObjOk P w H h a u := e.ok ok
theorem Qiz {kvs : List (Key × V)} (ok : HOk P w H h) (e : Rd H a (.dK kvs)) : kvs.length ≤ sizeLine ∧ (a == sysModules) = false ∧ ∃ vs, KV kvs vs ∧ h.DictOf (mixKind P w) a vs :=
 show ObjOk P w H h a (.dK kvs) from rd_of ok e
theorem Qg7 {kvs : List (Key × V)} (ok : HOk P w H h) (e : H a = some (.dK kvs)) : kvs.length ≤ sizeLine ∧ (a == sysModules) = false ∧ ∃ vs, KV kvs vs ∧ h.DictOf (mixKind P w) a vs := Qiz ok (.inl e)
theorem Qf8 {ks : List Key} (ok : HOk P w H h) (e : H a = some (.tup (ks.map kV))) : (tupleKind (mixKind P w)).is h ks a := by
 obtain ⟨_, its, r, o, h1, h2, n, h3⟩ := (show ObjOk P w H h a (.tup (ks.map kV)) from ok a _ e)
 exact ⟨o, its.toArray, n, h1, h2, h3, by simpa using Qf9 r⟩
theorem Qiy {kvs : List (List Key × V)} (ok : HOk P w H h) (e : Rd H a (.dT kvs)) : kvs.length ≤ sizeLine ∧ (a == sysModules) = false ∧
 ∃ xs, KT H kvs xs ∧ h.DictOfH (tupleKind (mixKind P w)) a xs := by
 obtain ⟨z, y, xs, r, o, es, ep, h1, h2, h3, h4, h5⟩ := (show ObjOk P w H h a (.dT kvs) from rd_of ok e)
 refine ⟨z, y, xs, r, o, es, ep, h1, h2, h3, h4, fun x hx => ?_, h5⟩
 have all : ∀ {l : List (List Key × V)} {m : List (List Key × Addr × Value)}, KT H l m → ∀ x ∈ m, (tupleKind (mixKind P w)).is h x.1 x.2.1 := by
  intro l m q
  induction q with
  | nil => intro x hx; exact nomatch hx
  | @cons p q ps qs hq t ih =>
    intro x hx
    rcases List.mem_cons.mp hx with e | hx
    ·subst e
     exact Qf8 ok (by rw [← hq.1]; exact hq.2.1)
    ·exact ih x hx
 exact all r x hx
theorem dt_of {kvs : List (List Key × V)} (ok : HOk P w H h) (e : H a = some (.dT kvs)) : kvs.length ≤ sizeLine ∧ (a == sysModules) = false ∧
 ∃ xs, KT H kvs xs ∧ h.DictOfH (tupleKind (mixKind P w)) a xs := Qiy ok (.inl e)
end
def DGet (H : Hp) (a : Addr) (y : V) (r : Option V) : Prop :=
 (∃ kvs k, Rd H a (.dK kvs) ∧ y = kV k ∧ r = valV kvs k) ∨ ∃ kvs k b, Rd H a (.dT kvs) ∧ y = .ref b ∧ H b = some (.tup (k.map kV)) ∧ r = valV kvs k
def DPut (H : Hp) (a : Addr) (y v : V) (H' : Hp) : Prop :=
 (∃ kvs k, H a = some (.dK kvs) ∧ y = kV k ∧ kvs.length < sizeLine ∧ H' = upd H a (.dK (putK kvs k v))) ∨
 ∃ kvs k b, H a = some (.dT kvs) ∧ y = .ref b ∧ H b = some (.tup (k.map kV)) ∧ kvs.length < sizeLine ∧ H' = upd H a (.dT (putK kvs k v))
theorem DGet.k {H : Hp} {a : Addr} {kvs : List (Key × V)} {k : Key} (e : H a = some (.dK kvs)) : DGet H a (kV k) (valV kvs k) := .inl ⟨kvs, k, .inl e, rfl, rfl⟩
theorem DGet.t {H : Hp} {a b : Addr} {kvs : List (List Key × V)} {k : List Key} (e : H a = some (.dT kvs)) (eb : H b = some (.tup (k.map kV))) : DGet H a (.ref b) (valV kvs k) := .inr ⟨kvs, k, b, .inl e, rfl, eb, rfl⟩
theorem DPut.k {H : Hp} {a : Addr} {kvs : List (Key × V)} {k : Key} {v : V} (e : H a = some (.dK kvs)) (hl : kvs.length < sizeLine) : DPut H a (kV k) v (upd H a (.dK (putK kvs k v))) := .inl ⟨kvs, k, e, rfl, hl, rfl⟩
theorem DPut.t {H : Hp} {a b : Addr} {kvs : List (List Key × V)} {k : List Key} {v : V} (e : H a = some (.dT kvs)) (eb : H b = some (.tup (k.map kV))) (hl : kvs.length < sizeLine) :
 DPut H a (.ref b) v (upd H a (.dT (putK kvs k v))) := .inr ⟨kvs, k, b, e, rfl, eb, hl, rfl⟩
section
variable {X : Cx} {pins : Q4} {σ : St} {H : Hp} {s : Shared} {a : Addr} {y v : V} {u r : Value} {o : Option V} {A : Around} {E : Q3}
theorem Inv.big (I : Inv X pins σ H s) : sysModules < s.heap.objs.size := by
 have h : mainGlobals < s.heap.objs.size := (I.mod.glob.keeps I.bk).lt
 exact Nat.lt_trans (by decide) h
theorem Qk7 {Q : Q3} (hu : A.units + 1 < cLine) (I : Inv X pins σ H s) (g : DGet H a y (some v)) (ry : RelV y u) (h : ∀ w' s', Inv X pins σ H s' → RelV v w' → Q w' s') :
 wpAny (model X.prog X.w) A (getItem (.ref a) u) Q E s := by
 rcases g with ⟨kvs, k, e, ey, l⟩ | ⟨kvs, k, b, e, ey, eb, l⟩
 ·subst ey
  obtain ⟨z, hd, vs, rel, dd⟩ := Qiz I.hok e
  obtain ⟨w', hw, rw'⟩ := RelO.Qgq (v := v) (o := valueAt vs k) (by rw [l]; exact rel.val k)
  exact wpAny_getItem_of (Qiu ry) dd.mapOf hw (h w' _ (I.tok _) rw')
 ·subst ey
  cases (show u = Value.ref b from ry)
  obtain ⟨z, hd, xs, rel, dd⟩ := Qiy I.hok e
  obtain ⟨w', hw, rw'⟩ := RelO.Qgq (v := v) (o := (atKey xs k).map (·.2)) (by rw [l]; exact rel.val k)
  obtain ⟨p, hp, hp2⟩ := Option.map_eq_some_iff.mp hw
  refine wpAny_getItem_heap (tupleKind_room_in1 hu) (Qf8 I.hok eb) dd hp ?_
  rw [hp2]
  exact h w' _ (I.tok _) rw'
theorem d_in {Q : Q3} (hu : A.units + 1 < cLine) (I : Inv X pins σ H s) (g : DGet H a y o) (ry : RelV y u) (h : ∀ s', Inv X pins σ H s' → Q (.bool o.isSome) s') :
 wpAny (model X.prog X.w) A (compareOp .In u (.ref a)) Q E s := by
 rcases g with ⟨kvs, k, e, ey, l⟩ | ⟨kvs, k, b, e, ey, eb, l⟩
 ·subst ey
  obtain ⟨z, hd, vs, rel, dd⟩ := Qiz I.hok e
  refine wpAny_in_of (Qiu ry) hd dd.mapOf ?_
  rw [← (rel.val k).Qd4, ← l]
  exact h _ (I.tok _)
 ·subst ey
  cases (show u = Value.ref b from ry)
  obtain ⟨z, hd, xs, rel, dd⟩ := Qiy I.hok e
  refine wpAny_in_heap (tupleKind_room_in1 hu) (Qf8 I.hok eb) hd dd ?_
  have q := (rel.val k).Qd4
  rw [Option.isSome_map] at q
  rw [← q, ← l]
  exact h _ (I.tok _)
theorem Qk5 {h' : Heap} {t' : Nat} {ob : HO} (I : Inv X pins σ H s) (mu : Mut (H a)) (hs : Heap.SameBut a s.heap h') (he : ∃ q, h'.get? a = some q) (new : ObjOk X.prog X.w (upd H a ob) h' a ob) :
 Inv X pins σ (upd H a ob) { s with heap := h', toks := t' } :=
 I.write (x := a) (e := a) mu (.inl rfl) (fun b q hb z => (hs.2 b hb).trans z) he new
theorem Qns {P : Program} {w : World} {H' : Hp} {h' : Heap} {kvs : List (Key × V)} {vs : List (Key × Value)} (z : kvs.length ≤ sizeLine) (hd : (a == sysModules) = false) (rel : KV kvs vs) (dd : h'.DictOf (mixKind P w) a vs) :
 ObjOk P w H' h' a (.dK kvs) := ⟨z, hd, vs, rel, dd⟩
theorem Qk6 {H' : Hp} {Q : Unit → Shared → Prop} (hu : A.units + 1 < cLine) (I : Inv X pins σ H s) (g : DPut H a y v H') (ry : RelV y u) (rv : RelV v r) (h : ∀ s', Inv X pins σ H' s' → Q () s') :
 wpAny (model X.prog X.w) A (setItem (.ref a) u r) Q E s := by
 rcases g with ⟨kvs, k, e, ey, l, eH⟩ | ⟨kvs, k, b, e, ey, eb, l, eH⟩
 ·subst ey eH
  obtain ⟨z, hd, vs, rel, dd⟩ := Qg7 I.hok e
  have hz : vs.length ≤ sizeLine := by rw [← rel.length]; exact z
  have hl : (putK kvs k v).length ≤ sizeLine := by have := Qbs kvs k v; omega
  refine wpAny_setItem_pairs (hsz := hz) (Qiu ry) dd fun h' dd' hs => h _ ?_
  have he : ∃ q, h'.get? a = some q := let ⟨q, _, _, hq, _⟩ := dd'; ⟨q, hq⟩
  exact Qk5 I (by rw [e]; exact True.intro) hs he (Qns hl hd (rel.put k rv) dd')
 ·subst ey eH
  cases (show u = Value.ref b from ry)
  obtain ⟨z, hd, xs, rel, dd⟩ := dt_of I.hok e
  have hz : xs.length ≤ sizeLine := by rw [← Paired.length rel]; exact z
  have hl : (putK kvs k v).length ≤ sizeLine := by have := Qbs kvs k v; omega
  refine wpAny_setItem_heap (hsz := hz) (tupleKind_room_in1 hu) (Qf8 I.hok eb) dd fun h' dd' hs => h _ ?_
  obtain ⟨q, es, ep, hq, h2, h3, h4, _, h5⟩ := dd'
  refine Qk5 I (by rw [e]; exact True.intro) hs ⟨q, hq⟩ ⟨hl, hd, _, (rel.put k eb rv).keeps fun c ys ec => ?_, q, es, ep, hq, h2, h3, h4, h5⟩
  rw [Qah (Qbd ec e (fun z => nomatch z))]
  exact ec
end
section
variable {X : Cx} {pins : Q4} {σ : St} {H : Hp} {s : Shared} {a : Addr} {kvs : List (Key × V)} {k : Key} {u : Value} {A : Around} {E : Q3}
end
def NoSl (i : Expr) : Prop := ∀ ov iv, subscripted i false ov iv = operate [ov, iv] (getItem ov iv)
theorem Qn2 {prog : Program} {w : World} {A : Around} {E : Q3} {s : Shared} {env : Env} {value slice : Expr} {pos : Pos} {T id : String} {Q : Q3}
 (hl : typeLookup (.type T) "__getitem__" = pure (some (.builtin id))) (hs : NoSl slice)
 (h : wpAny (model prog w) A (eval value env) (fun o s₁ => wpAny (model prog w) A (eval slice env) (fun i s₂ => s₂.TypeIs o T ∧ wpAny (model prog w) A (getItem o i) Q E s₂) E s₁) E s) :
 wpAny (model prog w) A (eval (.Subscript value slice pos) env) Q E s := by
 refine Subscript_ (wpAny_mono h (fun o s₁ h₁ => wpAny_mono h₁ (fun i s₂ h₂ => ?_) fun _ _ x => x) fun _ _ x => x)
 obtain ⟨hT, h₂⟩ := h₂
 unfold subscriptTail
 refine wpAny_bind ?_
 rw [getitemInPython_of_ne hT.not_modules]
 refine wpAny_bind (wpAny_specialOf hT hl ?_)
 have fin : wpAny (model prog w) A (subscripted slice false o i) (fun r s₃ => wpAny (model prog w) A (letTemporaryGo value o r >>= fun _ => pure r) Q E s₃) E s₂ := by
  rw [hs o i]
  exact wpAny_operating (wpAny_mono h₂ (fun r s₃ h₃ => wpAny_bind (wpAny_letTemporaryGo (wpAny_pure h₃))) fun _ _ x => x)
 first
  | exact wpAny_pure (wpAny_bind fin)
  | exact wpAny_bind (wpAny_pure (wpAny_bind fin))
  | exact wpAny_bind fin
theorem Qg8 {X : Cx} {pins : Q4} {σ : St} {H : Hp} {s : Shared} {a : Addr} {y : V} {o : Option V} (I : Inv X pins σ H s) (g : DGet H a y o) : s.TypeIs (.ref a) "dict" := by
 rcases g with ⟨kvs, k, e, _, _⟩ | ⟨kvs, k, b, e, _, _, _⟩
 ·obtain ⟨_, _, vs, _, dd⟩ := Qiz I.hok e
  exact dd.typeIs
 ·obtain ⟨_, _, xs, _, dd⟩ := Qiy I.hok e
  exact dd.typeIs
def tDGet (td ty : TE) : TE := fun σ H Q => td σ H fun x H1 => ty σ H1 fun y H2 => ∃ a v, x = .ref a ∧ DGet H2 a y (some v) ∧ Q v H2
def tDIn (ty td : TE) : TE := fun σ H Q => ty σ H fun y H1 => td σ H1 fun x H2 => ∃ a o, x = .ref a ∧ DGet H2 a y o ∧ Q (.bl o.isSome) H2
def sDPut (td ty tv : TE) : TS := fun D σ H => tv σ H fun v H1 => td σ H1 fun x H2 => ty σ H2 fun y H3 => ∃ a H4, x = .ref a ∧ DPut H3 a y v H4 ∧ D.nx σ H4
section
variable {X : Cx} {o i e value : Expr} {pos pos' tpos : Pos} {td ty tv : TE}
theorem Qbp (hu : X.A.units + 1 < cLine) (ho : PE X o td) (hi : PE X i ty) (hs : NoSl i) : PE X (.Subscript o i pos) (tDGet td ty) := by
 intro pins s σ H Q I h
 refine Qn2 PySem.F.slot_dict_getitem.lookup hs (thn (ho pins s σ H _ I h) fun u s1 ⟨x, H1, I1, rx, q1⟩ => thn (hi pins s1 σ H1 _ I1 q1) fun iv s2 ⟨y, H2, I2, ry, a, v, ex, g, q2⟩ => ?_)
 subst ex
 obtain rfl : u = Value.ref a := rx
 exact ⟨Qg8 I2 g, Qk7 hu I2 g ry fun w' s3 I3 rw' => ⟨v, H2, I3, rw', q2⟩⟩
theorem pc_din (hu : X.A.units + 1 < cLine) (hi : PE X i ty) (ho : PE X o td) : PC X .In i o (tDIn ty td) := by
 intro pins s σ H Q I h
 refine thn (hi pins s σ H _ I h) fun iv s1 ⟨y, H1, I1, ry, q1⟩ => thn (ho pins s1 σ H1 _ I1 q1) fun u s2 ⟨x, H2, I2, rx, a, ov, ex, g, q2⟩ => ?_
 subst ex
 obtain rfl : u = Value.ref a := rx
 exact d_in hu I2 g ry fun s3 I3 => ⟨.bl ov.isSome, H2, I3, rfl, q2⟩
theorem Qb7 (hu : X.A.units + 1 < cLine) (ho : PE X o td) (hi : PE X i ty) (hv : PE X value tv) (hs : swapsWith value (some (.Subscript o i pos')) pos.line X.env = pure false) :
 PS X (.Assign [.Subscript o i pos'] value pos) (sDPut td ty tv) := by
 intro pins s σ H D I h
 refine wpAny_Assign_Subscript (thn (hv pins s σ H _ I h) fun r s1 ⟨v, H1, I1, rv, q1⟩ => thn (ho pins s1 σ H1 _ I1 q1) fun u s2 ⟨x, H2, I2, rx, q2⟩ => thn (hi pins s2 σ H2 _ I2 q2) fun iv s3 ⟨y, H3, I3, ry, a, H4, ex, g, q3⟩ => ?_) hs
 subst ex
 obtain rfl : u = Value.ref a := rx
 exact Qk6 hu I3 g ry rv fun s4 I4 => ⟨σ, H4, I4, q3⟩
end
theorem Qmp {P : Program} {w : World} {H : Hp} (h : Heap) (hb : sysModules < h.objs.size) : ObjOk P w H (h.push { cls := .type "dict", data := .dict #[] }) h.objs.size (.dK []) :=
 ⟨Nat.zero_le _, beq_eq_false_iff_ne.mpr (Ne.symm (Nat.ne_of_lt hb)), [], .nil, Heap.DictOf.new h⟩
theorem Qmn {P : Program} {w : World} {H : Hp} (h : Heap) (hb : sysModules < h.objs.size) : ObjOk P w H (h.push { cls := .type "dict", data := .dict #[] }) h.objs.size (.dT []) :=
 ⟨Nat.zero_le _, beq_eq_false_iff_ne.mpr (Ne.symm (Nat.ne_of_lt hb)), [], .nil, _, #[], 0, Heap.get?_push_size _ rfl, ⟨rfl, rfl, rfl⟩, rfl, rfl, List.nodup_nil⟩
def tDNewK : TE := fun _ H Q => ∀ p, H p = none → Q (.ref p) (upd H p (.dK []))
def tDNewT : TE := fun _ H Q => ∀ p, H p = none → Q (.ref p) (upd H p (.dT []))
section
variable {X : Cx} {pos : Pos}
theorem Qcu : PE X (.Dict [] [] pos) tDNewK := fun pins s σ H Q I h =>
 wpAny_Dict_empty ⟨.ref s.heap.objs.size, _, I.laid (a := s.heap.objs.size) (o := .dK []) (t' := s.toks) (fun _ _ q => Heap.get?_push_of_some _ q) (Nat.le_refl _) (Qmp s.heap I.big), rfl, h _ (I.hok.fresh (Nat.le_refl _))⟩
theorem Qdn : PE X (.Dict [] [] pos) tDNewT := fun pins s σ H Q I h =>
 wpAny_Dict_empty ⟨.ref s.heap.objs.size, _, I.laid (a := s.heap.objs.size) (o := .dT []) (t' := s.toks) (fun _ _ q => Heap.get?_push_of_some _ q) (Nat.le_refl _) (Qmn s.heap I.big), rfl, h _ (I.hok.fresh (Nat.le_refl _))⟩
end
structure M1 (X : Cx) (o : Expr) (m : Str) (apos : Pos) (e : Expr) (cpos : Pos) : Prop where
 base : attributeBase o m X.env (eval o X.env) = eval o X.env
 few : ((backTo cpos (starEach [e] X.env)).all (fun x => !x.1) && (backToKw cpos (keywordEach [] X.env)).all (fun x => x.1.isSome)
  && decide (([e] : List Expr).length + ([] : List Keyword).length + (if ([] : List Keyword).isEmpty then 0 else 1) < 30)) = true
 line : (apos.endLine == cpos.line) = true
 trees : backTo cpos (starEach [e] X.env) = [(false, eval e X.env)]
structure M2 (X : Cx) (o : Expr) (m : Str) (apos : Pos) (e f : Expr) (cpos : Pos) : Prop where
 base : attributeBase o m X.env (eval o X.env) = eval o X.env
 few : ((backTo cpos (starEach [e, f] X.env)).all (fun x => !x.1) && (backToKw cpos (keywordEach [] X.env)).all (fun x => x.1.isSome)
  && decide (([e, f] : List Expr).length + ([] : List Keyword).length + (if ([] : List Keyword).isEmpty then 0 else 1) < 30)) = true
 line : (apos.endLine == cpos.line) = true
 trees : backTo cpos (starEach [e, f] X.env) = [(false, eval e X.env), (false, eval f X.env)]
def IsD (H : Hp) (a : Addr) : Prop := (∃ kvs, Rd H a (.dK kvs)) ∨ ∃ kvs, Rd H a (.dT kvs)
theorem isD_at {X : Cx} {pins : Q4} {σ : St} {H : Hp} {s : Shared} {a : Addr} (I : Inv X pins σ H s) (d : IsD H a) :
 s.TypeIs (.ref a) "dict" ∧ (∀ b, Value.ref a = .ref b → ∃ ob, s.heap.get? b = some ob ∧ ob.dict = none) ∧ (a == sysModules) = false := by
 rcases d with ⟨kvs, e⟩ | ⟨kvs, e⟩
 ·obtain ⟨_, hd, vs, _, dd⟩ := Qiz I.hok e
  refine ⟨dd.typeIs, fun b q => ?_, hd⟩
  cases q
  obtain ⟨ob, _, _, h1, h2, _⟩ := dd
  exact ⟨ob, h1, h2.2.1⟩
 ·obtain ⟨_, hd, xs, _, dd⟩ := Qiy I.hok e
  refine ⟨dd.typeIs, fun b q => ?_, hd⟩
  cases q
  obtain ⟨ob, _, _, h1, h2, _⟩ := dd
  exact ⟨ob, h1, h2.2.1⟩
section
variable {X : Cx} {pins : Q4} {σ : St} {H : Hp} {s : Shared} {a : Addr} {y d : V} {u r : Value} {o : Option V} {A : Around} {E : Q3}
theorem d_get2 {Q : Q3} (hu : A.units + 1 < cLine) (I : Inv X pins σ H s) (g : DGet H a y o) (ry : RelV y u) (rd : RelV d r) (h : ∀ w' s', Inv X pins σ H s' → RelV (o.getD d) w' → Q w' s') :
 wpAny (model X.prog X.w) A (call (.builtin "dict.get") [.ref a, u, r]) Q E s := by
 rcases g with ⟨kvs, k, e, ey, l⟩ | ⟨kvs, k, b, e, ey, eb, l⟩
 ·subst ey
  obtain ⟨z, hd, vs, rel, dd⟩ := Qiz I.hok e
  refine call_meetsIn PySem.F.slot_dict_get dd.typeIs PySem.F.entry_dict_get (PySem.F.args_dict_get_3 _ _ _) (meets_dict_get_default (mixKind X.prog X.w) a (Qiu ry) hd r) ⟨_, dd.mapOf, h _ _ (I.tok _) ?_⟩
  rw [l]
  exact (rel.val k).getD rd
 ·subst ey
  cases (show u = Value.ref b from ry)
  obtain ⟨z, hd, xs, rel, dd⟩ := Qiy I.hok e
  refine call_meetsIn PySem.F.slot_dict_get dd.typeIs PySem.F.entry_dict_get (PySem.F.args_dict_get_3 _ _ _) (meetsH_dict_get_default (tupleKind (mixKind X.prog X.w)) a b hd r) ⟨tupleKind_room_in1 hu, k, xs, Qf8 I.hok eb, dd, h _ _ (I.tok _) ?_⟩
  rw [l]
  exact (rel.val k).getD rd
end
def tDGet2 (td ty tx : TE) : TE := fun σ H Q => td σ H fun x H1 => ∃ a, x = .ref a ∧ IsD H1 a ∧ ty σ H1 fun y H2 => tx σ H2 fun z H3 => ∃ o, DGet H3 a y o ∧ Q (o.getD z) H3
section
variable {X : Cx} {o e f : Expr} {apos cpos : Pos} {td ty tx : TE}
theorem Qck (hu : X.A.units + 1 < cLine) (ho : PE X o td) (he : PE X e ty) (hf : PE X f tx) (m : M2 X o "get" apos e f cpos) : PE X (.Call (.Attribute o "get" apos) [e, f] [] cpos) (tDGet2 td ty tx) := by
 intro pins s σ H Q I h
 refine wpAny_Call_method m.base m.few m.line PySem.F.plainAttrs_dict PySem.F.slot_dict_get PySem.F.type_dict_get (thn (ho pins s σ H _ I h) fun u s1 ⟨x, H1, I1, rx, a, ex, d, q1⟩ => ?_)
 subst ex
 obtain rfl : u = Value.ref a := rx
 obtain ⟨t1, t2, _⟩ := isD_at I1 d
 refine ⟨t1, t2, ?_⟩
 rw [m.trees]
 refine Calls.callWith_builtin rfl (Calls.evalArgs_plain (Calls.spliced_cons (thn (he pins s1 σ H1 _ I1 q1) fun iv s2 ⟨y, H2, I2, ry, q2⟩ =>
  Calls.spliced_cons (thn (hf pins s2 σ H2 _ I2 q2) fun fv s3 ⟨z, H3, I3, rz, ov, g, q3⟩ => Calls.spliced_nil ?_))))
 exact d_get2 hu I3 g ry rz fun w' s4 I4 rw' => ⟨_, H3, I4, rw', q3⟩
end
section
variable {X : Cx} {pins : Q4} {σ : St} {H : Hp} {s : Shared} {a : Addr} {kvs : List (Key × V)} {A : Around} {E : Q3}
end
section
variable {X : Cx} {pins : Q4} {σ : St} {H : Hp} {s : Shared} {a : Addr} {y : V} {u : Value} {A : Around} {E : Q3}
end
end L2
namespace Att
open PySem PySem.W PySem.Calls PyProof.Rows
theorem Qd5 {P : Params} {h : Heap} : ∀ (ns : List Int) (vs : List Value), WellAll P h vs (ns.map WData.int) → IntsAre vs ns := by
 intro ns
 induction ns with
 | nil =>
   intro vs w
   rw [List.map_nil] at w
   cases w
   exact .nil
 | cons n ns ih =>
   intro vs w
   rw [List.map_cons] at w
   cases w with
   | cons a b =>
     cases a
     exact .cons _ _ (ih _ b)
theorem Qjg {l : OpenLaw} {n : Nat} (hn : l.most = some n) {P : Params} {h : Heap} {args : List WData} {vals : List Value}
 (hpre : l.row.toRowW.claim.pre args = true) (hwl : WellAll P h vals args) :
 ∃ a vs ns, vals = [Value.ref a] ∧ args = [WData.list (ns.map WData.int)] ∧ h.get? a = some { cls := .type "list", data := .seq vs.toArray } ∧ IntsAre vs ns ∧ ns.length ≤ n := by
 have hsh : WShape.hasAll [] args [.list .int] = true := (pre_splitW hpre).1
 have hc : l.pre.holds [] { args := args } = true := (pre_splitW hpre).2
 obtain ⟨d, r, rfl, h1, h2⟩ := hasAllW_cons hsh
 obtain rfl := hasAllW_nil h2
 obtain ⟨xs, rfl, h3⟩ := hasW_list h1
 obtain ⟨ns, rfl⟩ := items_int h3
 have hlen : ns.length ≤ n := by
  unfold OpenLaw.pre at hc
  have h4 : (WTm.not (.lt (.lit (.int (n : Int))) (.len (.arg 0)))).holds [] { args := [.list (ns.map .int)] } = true := by
   have h4 := (holds_andW hc).1
   rw [hn] at h4
   exact h4
  have h5 := condW_of h4 (w_not (w_lt w_lit (w_len_list (w_arg rfl))))
  rw [List.length_map] at h5
  refine Nat.le_of_not_lt fun q => ?_
  have q' : (n : Int) < ((ns.length : Nat) : Int) := by omega
  first
   | (rw [decide_eq_true q'] at h5; exact absurd h5 (by decide))
   | (simp at h5; omega)
 cases hwl with
 | cons w1 w2 =>
   cases w2
   cases w1 with
   | list ho hall => exact ⟨_, _, ns, rfl, rfl, ho, Qd5 ns _ hall, hlen⟩
theorem Qjt (l : OpenLaw) (args : List WData) : l.row.toRowW.claim.post args (.bool true) args = true :=
 postW_of (r := l.row.toRowW) (X := (true == true))
  (show WShape.has [] (.bool true) .bool = true by first | rfl | decide | simp [WShape.has, WShape.arms, WShape.armsAll])
  (show (WTm.eq .res (.lit (.bool true))).value [] { args := args, res := some (.bool true), after := args } = some (.bool (true == true)) from w_eq_bool (w_res rfl) w_lit) rfl
section
variable {prog : Program} {w : World} {A : Around} {E : Q3} {s : Shared} {K : Frag}
end
end Att
namespace L2
open PySem PySem.Spec PyProof.Rows
theorem Qfh : ∀ {vs : List Value} {ns : List Int}, IntsAre vs ns → Vals (ns.map V.int) vs
 | _, _, .nil => .nil
 | _, _, .cons n t h => .cons ⟨t, rfl⟩ (Qfh h)
def Only (H : Hp) : Prop := ∀ b, H b = none ∨ ∃ o xs, H b = some (.frz o (.lst xs))
theorem Qme {P : Program} {w : World} {K : Q5} {mg mb : Str → Option Value} {CX : CXT} {k : Nat} {fa a : Addr} {fd : FuncData} {x : Str} {sp : Sp} {s₁ : Shared} {vs : List Value} {ns : List Int}
 (KX : K.In s₁.heap) (hns : s₁.heap.Ns mainGlobals mg) (hb : s₁.heap.Ns builtinsNs mb) (hbb : ∀ x : Str, x ≠ "__name__" → mb x = bootBuiltins x) (hlim : s₁.heap.NoLimit) (hg : s₁.gens = #[])
 (ha : s₁.heap.get? a = some { cls := .type "list", data := .seq vs.toArray }) (hi : IntsAre vs ns) (hl : ns.length ≤ sizeLine) (hr : Room true k callerA)
 (F : ∀ base : Heap, K.In base → base.Ns mainGlobals mg → FnOk P w K mg base CX true k fa fd [x] sp) (hbind : ∀ (s : Shared) (u : Value), BindsTo s fd ⟨[u], []⟩ [(x, u)])
 (hsp : ∀ H : Hp, Only H → SqL K H a (ns.map V.int) → sp [.ref a] H (fun v _ => v = .bl true) fun _ _ _ => False)
 (hCX : ∀ H e s', CX [] H s₁ (fun _ _ _ => False) e s' → False) :
 codeAny (model P w) callerA (.call (.ref fa) ⟨[.ref a], []⟩) (fun r s' => r = .ok (.ret (.bool true)) ∧ OldK s₁.heap s'.heap ∧ s'.os = s₁.os ∧ AllBare s'.gens) s₁ := by
 have rv := Qfh hi
 have lenV := hi.length
 have core : ∀ H : Hp, Only H → SqL K H a (ns.map V.int) → HOk P w H s₁.heap → (∀ b, H b ≠ none → b = a) → (H a ≠ none → K.lookup a = none) →
  codeAny (model P w) callerA (.call (.ref fa) ⟨[.ref a], []⟩) (fun r s' => r = .ok (.ret (.bool true)) ∧ OldK s₁.heap s'.heap ∧ s'.os = s₁.os ∧ AllBare s'.gens) s₁ := by
  intro H hO hS hok hA hK
  have base_of : ∀ {b : Addr} {o : Obj}, s₁.heap.get? b = some o → H b = none → (hidT s₁.heap H).get? b = some o := fun e n => Qmi e n
  have noA : ∀ {b : Addr} {o : Obj} {es : Array DictEntry} {ep : Nat}, s₁.heap.get? b = some o → o.data = .dict es ep → H b = none := fun {b o es ep} e d => by
   cases q : H b with
   | none => rfl
   | some u =>
     have e' : b = a := hA b (by rw [q]; simp)
     subst e'
     rw [ha] at e; cases e
     have d' : Data.seq vs.toArray _ = Data.dict es ep := d
     cases d'
  have nsK : ∀ {b : Addr} {m : Str → Option Value}, s₁.heap.Ns b m → (hidT s₁.heap H).Ns b m := fun {b m} ⟨o, es, ep, e, d, r⟩ => ⟨o, es, ep, base_of e (noA e d), d, r⟩
  have hKb : K.In (hidT s₁.heap H) := fun b o e => base_of (KX b o e) (by
   cases q : H b with
   | none => rfl
   | some u =>
     have e' : b = a := hA b (by rw [q]; simp)
     subst e'
     rw [hK (by rw [q]; simp)] at e; cases e)
  have hM : Mod K mg (hidT s₁.heap H) := ⟨hKb, nsK hns, ⟨mb, nsK hb, hbb⟩, let ⟨mc, h1, h2⟩ := hlim; ⟨mc, nsK h1, h2⟩⟩
  have e0 : Env0 P w K mg (hidT s₁.heap H) callerA [] s₁ H := ⟨rfl, hM, fun b o e => Qol e, Nat.le_of_eq (Qkl _ _), trivial, fun b hb => absurd (show b ∈ ([] : List Addr) from hb) (by simp), hok, .of_eq hg⟩
  refine codeAny_mono ((F _ hKb (nsK hns)).run callerA [] s₁ H ⟨[.ref a], []⟩ [.ref a] [.ref a] _ _ hr e0 (hbind s₁ (.ref a)) (.cons rfl .nil) (hsp H hO hS)) fun r s' h => ?_
  cases r with
  | error e => exact (hCX H e s' h).elim
  | ok fl =>
    cases fl with
    | next => exact False.elim h
    | brk => exact False.elim h
    | cont => exact False.elim h
    | ret u =>
      obtain ⟨v, H', os, bare, un, hok', r', q⟩ := h
      have q' : v = .bl true := q
      subst q'
      obtain rfl : u = Value.bool true := r'
      refine ⟨rfl, OldK.of_keep fun b o e => ?_, os, bare⟩
      cases q : H b with
      | none => exact un.keep b o e q (by intro z; exact absurd (show b ∈ ([] : List Addr) from z) (by simp)) (by simp)
      | some u =>
        rcases hO b with z | ⟨ob, xs, z⟩
        ·rw [q] at z; cases z
        ·have z2 := un.frzs b ob _ z
         obtain ⟨e1, _⟩ := hok b _ z
         obtain ⟨e2, _⟩ := hok' b _ z2
         rw [e] at e1; cases e1
         exact e2
 cases hk : K.lookup a with
 | some o =>
   have e := KX a o hk
   rw [ha] at e
   cases e
   refine core (fun _ => none) (fun _ => .inl rfl) (.inr ⟨_, vs.toArray, _, hk, rfl, rfl, rfl, by rw [List.size_toArray, lenV]; exact hl, by simpa using rv⟩) (fun b u z => by have z' : (none : Option HO) = some u := z; cases z') (fun b z => absurd rfl z) fun z => absurd rfl z
 | none =>
   refine core (fun b => if b = a then some (.frz { cls := .type "list", data := .seq vs.toArray } (.lst (ns.map V.int))) else none) (fun b => ?_) (.inl (.inr ⟨{ cls := .type "list", data := .seq vs.toArray }, if_pos rfl⟩)) (fun b u z => ?_) (fun b z => ?_) fun _ => hk
   ·by_cases hb : b = a
    ·exact .inr ⟨_, _, if_pos hb⟩
    ·exact .inl (if_neg hb)
   ·by_cases hb : b = a
    ·have z' := (if_pos hb).symm.trans z
     cases z'
     subst hb
     exact ⟨ha, by rw [List.length_map]; exact hl, vs, _, rv, ha⟩
    ·have z' := (if_neg hb).symm.trans z
     cases z'
   ·by_cases hb : b = a
    ·exact hb
    ·exact absurd (if_neg hb) z
end L2
namespace L2
open PySem PySem.Spec PyProof.Rows
end L2
namespace L2
open PySem PySem.Spec PyProof.Rows
def inClass (s : Stmt) (j : Nat) : Stmt := match s with
 | .ClassDef _ _ _ body _ _ _ _ _ _ _ => body.getD j (.Pass ⟨0, 0, 0, 0⟩)
 | _ => .Pass ⟨0, 0, 0, 0⟩
def defArgs (s : Stmt) : Arguments := match s with
 | .FunctionDef _ a _ _ _ _ _ _ _ _ => a
 | _ => { posonlyargs := [], args := [], vararg := none, kwonlyargs := [], kw_defaults := [], kwarg := none, defaults := [] }
def defBody (s : Stmt) : List Stmt := match s with
 | .FunctionDef _ _ b _ _ _ _ _ _ _ => b
 | _ => []
def defScope (s : Stmt) : Scope := match s with
 | .FunctionDef _ _ _ _ _ _ sc _ _ _ => sc
 | _ => { kind := .function, names := [], isGenerator := false, isCoroutine := false }
abbrev CX0 : CXT := fun _ _ _ _ _ _ => False
abbrev E0 : XK := fun _ _ _ => False
theorem pass0 {X : Cx} : Passes CX0 X E0 := fun _ _ _ _ _ _ _ h => h.elim
structure Fun (K : Q5) (x qual : Str) (st : Stmt) (f : Addr) (fd : FuncData) : Prop where
 ex : ∃ (oc : Value) (od : Option Addr) (kV doc pm : Value) (an : Option Addr) (cdv ct : Value) (osl : Array Q6),
  fd = fnOf x qual (defArgs st) (defBody st) (defScope st) .none kV doc pm an cdv ct ∧ K.lookup f = some ⟨oc, od, .func fd, osl⟩ ∧ codeIn K cdv qual = true
 kp : keepIn K (.ref f) = true
section
variable {P : Program} {w : World} {K : Q5} {mg : Str → Option Value} {base : Heap}
end
theorem Qbl {cm : Bool} {A : Around} {k : Nat} (hr : Room cm k A) : A.units + 1 < cLine := Nat.lt_of_le_of_lt (Nat.add_le_add_left (by decide : 1 ≤ 64) _) hr.units
section
variable {X : Cx}
theorem pv (i : Nat) {x : Str} {pos : Pos} (hN : X.N[i]? = some x := by rfl) (hv : Vis X.env.scope x := by first | exact Or.inl rfl | exact Or.inr (Or.inl rfl) | exact Or.inr (Or.inr rfl)) (hd : (x == ("__debug__" : Str)) = false := by decide)
 (hcd : (x == ("__classdict__" : Str)) = false := by decide) : PE X (.Name x pos) (tVar i) := pe_var hN hv hd hcd
end
theorem iteF {A B : Prop} (h : B) : if false = true then A else B := by
 rw [if_neg Bool.false_ne_true]
 exact h
theorem iteT {A B : Prop} (h : A) : if true = true then A else B := by
 rw [if_pos rfl]
 exact h
def Same (H H' : Hp) : Prop := ∀ b o, H b = some o → H' b = some o
theorem Same.refl (H : Hp) : Same H H := fun _ _ h => h
theorem Same.trans {H H1 H2 : Hp} (a : Same H H1) (b : Same H1 H2) : Same H H2 := fun c o h => b c o (a c o h)
theorem Same.free {H H' : Hp} (e : Same H H') {l : Addr} (h : H' l = Option.none) : H l = Option.none := by
 cases q : H l with
 | none => rfl
 | some o =>
   rw [e l o q] at h
   cases h
theorem Same.seq {K : Q5} {H H' : Hp} {a : Addr} {xs : List V} (e : Same H H') (h : SqL K H a xs) : SqL K H' a xs := by
 rcases h with (h | ⟨o, h⟩) | h
 ·exact .inl (.inl (e _ _ h))
 ·exact .inl (.inr ⟨o, e _ _ h⟩)
 ·exact .inr h
section
variable {κ : Type} [DecidableEq κ]
end
end L2
namespace L3
open PySem
def Rec (h : Heap) (x : Addr) (C : Value) (dx : Option Addr) (tb : Value) : Prop :=
 ∃ oe vs, h.get? x = some oe ∧ oe.cls = C ∧ oe.dict = dx ∧ oe.data = .fields vs ∧ vs[1]? = some tb
def Tra (h : Heap) (T : Addr) (fl : Value) : Prop := ∃ oT ts, h.get? T = some oT ∧ oT.data = .fields ts ∧ ts[3]? = some fl
theorem Qeg (o : Obj) (f) : (o.mapFields f).dict = o.dict := by
 obtain ⟨c, d, dt, sl⟩ := o
 cases dt <;> rfl
structure Aft (S ch : List Addr) (h h' : Heap) : Prop where
 keep : ∀ b o, b ∉ S → b ∉ ch → h.get? b = some o → h'.get? b = some o
 slot : ∀ b o, b ∉ ch → h.get? b = some o → ∃ sl, h'.get? b = some { o with slots := sl }
 size : h.objs.size ≤ h'.objs.size
theorem Aft.refl (S ch : List Addr) (h : Heap) : Aft S ch h h := ⟨fun _ _ _ _ e => e, fun _ o _ e => ⟨o.slots, e⟩, Nat.le_refl _⟩
theorem Aft.trans {S ch : List Addr} {h1 h2 h3 : Heap} (a : Aft S ch h1 h2) (b : Aft S ch h2 h3) : Aft S ch h1 h3 where
 keep := fun c o hs hc e => b.keep c o hs hc (a.keep c o hs hc e)
 slot := fun c o hc e => by
  obtain ⟨s1, e1⟩ := a.slot c o hc e
  obtain ⟨s2, e2⟩ := b.slot c _ hc e1
  exact ⟨s2, e2⟩
 size := Nat.le_trans a.size b.size
theorem Aft.mono {S S' ch ch' : List Addr} {h h' : Heap} (a : Aft S ch h h') (hs : ∀ b, b ∈ S → b ∈ S') (hc : ∀ b, b ∈ ch → b ∈ ch') : Aft S' ch' h h' :=
 ⟨fun b o z1 z2 e => a.keep b o (fun q => z1 (hs b q)) (fun q => z2 (hc b q)) e, fun b o z e => a.slot b o (fun q => z (hc b q)) e, a.size⟩
section
variable {M : Model} {A : Around} {E : Q3} {s : Shared}
theorem Qgs {T : Addr} {oT : Obj} {ts : Array Value} {i : Nat} {v : Value} {Q : Unit → Shared → Prop} (hT : s.heap.get? T = some oT) (hd : oT.data = .fields ts) (hi : i < ts.size)
 (h : ∀ h', Aft [] [T] s.heap h' → h'.get? T = some (oT.mapFields (·.setIfInBounds i v)) → Q () { s with heap := h' }) : wpAny M A (setField (.ref T) i v) Q E s := by
 refine wpAny_setField hT hd hi (h _ ⟨fun b o _ hb e => ?_, fun b o hb e => ⟨o.slots, ?_⟩, ?_⟩ ?_)
 ·rw [Heap.get?_update_other _ _ (fun z => hb (by simp [z]))]; exact e
 ·rw [Heap.get?_update_other _ _ (fun z => hb (by simp [z]))]; exact e
 ·exact Nat.le_of_eq (Heap.size_after_update ..).symm
 ·exact Heap.get?_update_self _ hT (Obj.isFreed_of_fields (Obj.data_mapFields hd _))
theorem Qj1 {base : Heap} {env : Env} {outer : List Env} {L x : Addr} {oe : Obj} {vs : Array Value} {head : Value} {hadNext : Bool} {Q : Unit → Shared → Prop}
 (hfr : A.frames = some (env :: outer)) (hl : s.heap.FunFrames base (env :: outer)) (hf : env.frame = some L) (he : s.heap.get? x = some oe) (hd : oe.data = .fields vs) (hsz : 1 < vs.size)
 (h : ∀ h' T, Aft ((env :: outer).filterMap (·.frame)) [x] s.heap h' → s.heap.objs.size ≤ T → Rec h' x oe.cls oe.dict (.ref T) → Tra h' T (rawInt L) → Q () { s with heap := h' }) :
 wpAny M A (do let a ← frameOf env; let pl ← entryPlaceOf L hadNext; let b ← EntryCells.newEntry head a .none (rawInt L) .none pl; setField (.ref x) 1 b) Q E s := by
 have hne : x ∉ (env :: outer).filterMap (·.frame) := fun hm => by
  obtain ⟨_, o, ho, hnf⟩ := hl.mem hm
  rw [he] at ho
  cases ho
  exact hnf vs hd
 refine wpAny_bind (wpAny_frameOf_fun hfr hl hf fun h1 hs1 => ?_)
 refine wpAny_bind (wpAny_entryPlaceOf fun pl hpl => ?_)
 unfold EntryCells.newEntry newFields
 refine wpAny_bind (wpAny_newObj_type ?_ (hpl.sizeOk5 _ _ _ _ _))
 have he1 : h1.get? x = some oe := (hs1.2.1 x hne).trans he
 refine Qgs (Heap.get?_push_of_some _ he1) hd hsz fun h' a hx => ?_
 have hTx : h1.objs.size ≠ x := Nat.ne_of_gt (Heap.lt_size he1)
 refine h h' h1.objs.size ⟨fun b o hb hc e => ?_, fun b o hc e => ?_, ?_⟩ (Nat.le_of_eq hs1.1.symm) ⟨_, _, hx, Obj.cls_mapFields _ _, Qeg _ _, Obj.data_mapFields hd _, by simp [hsz]⟩ ?_
 ·exact a.keep b o (by simp) hc (Heap.get?_push_of_some _ ((hs1.2.1 b hb).trans e))
 ·obtain ⟨sl, e1⟩ := hs1.2.2 b o e
  exact ⟨sl, a.keep b _ (by simp) hc (Heap.get?_push_of_some _ e1)⟩
 ·refine Nat.le_trans ?_ a.size
  show s.heap.objs.size ≤ (h1.push _).objs.size
  rw [Heap.size_push, hs1.1]
  exact Nat.le_succ _
 ·refine ⟨_, _, a.keep _ _ (by simp) (by simp [hTx]) (Heap.get?_push_size h1 rfl), rfl, ?_⟩
  first | (simp; done) | (rcases hpl with rfl | ⟨_, _, _, _, _, _, _, rfl⟩ <;> simp)
theorem Ql2 {base : Heap} {env : Env} {outer : List Env} {L x : Addr} {C : Value} {dx : Option Addr} {Q : Unit → Shared → Prop}
 (hfr : A.frames = some (env :: outer)) (hl : s.heap.FunFrames base (env :: outer)) (hf : env.frame = some L) (r : Rec s.heap x C dx .none)
 (h : ∀ h' T, Aft ((env :: outer).filterMap (·.frame)) [x] s.heap h' → s.heap.objs.size ≤ T → Rec h' x C dx (.ref T) → Tra h' T (rawInt L) → Q () { s with heap := h' }) :
 wpAny M A (noteFrame (.ref x) env) Q E s := by
 obtain ⟨oe, vs, he, rfl, rfl, hd, h1⟩ := r
 unfold noteFrame
 simp only [hf]
 refine wpAny_bind (wpAny_field he hd h1 ?_)
 rw [if_neg (by decide)]
 exact Qj1 hfr hl hf he hd (Array.getElem?_eq_some_iff.mp h1).1 h
theorem Ql3 {base : Heap} {env : Env} {outer : List Env} {L x T : Addr} {C : Value} {dx : Option Addr} {fl : Value} {Q : Unit → Shared → Prop}
 (hfr : A.frames = some (env :: outer)) (hl : s.heap.FunFrames base (env :: outer)) (hf : env.frame = some L) (r : Rec s.heap x C dx (.ref T)) (hx : T ≠ x) (t : Tra s.heap T fl)
 (h : ∀ h' T' fl', Aft ((env :: outer).filterMap (·.frame)) [x, T] s.heap h' → (T' = T ∨ s.heap.objs.size ≤ T') → Rec h' x C dx (.ref T') → Tra h' T' fl' → Q () { s with heap := h' }) :
 wpAny M A (noteFrame (.ref x) env) Q E s := by
 obtain ⟨oe, vs, he, rfl, rfl, hd, h1⟩ := r
 obtain ⟨oT, ts, hT, hdT, h3⟩ := t
 unfold noteFrame
 simp only [hf]
 refine wpAny_bind (wpAny_field he hd h1 ?_)
 rw [if_pos (show (Value.ref T != Value.none) = true from by simp)]
 refine wpAny_bind (wpAny_field hT hdT h3 ?_)
 by_cases hb : (fl == rawInt L) = true
 ·rw [if_pos hb]
  exact wpAny_pure (h s.heap T fl (Aft.refl ..) (.inl rfl) ⟨oe, vs, he, rfl, rfl, hd, h1⟩ ⟨oT, ts, hT, hdT, h3⟩)
 rw [if_neg hb]
 refine wpAny_bind (Qgs hT hdT (Array.getElem?_eq_some_iff.mp h3).1 fun h2 a2 e2 => ?_)
 have nT : ∀ b o, s.heap.get? b = some o → (∀ ws, o.data ≠ .fields ws) → b ∉ [T] := fun b o e hn z => by
  have z' : b = T := by simpa using z
  rw [z', hT] at e
  cases e
  exact hn ts hdT
 refine Qj1 hfr (hl.of_keeps fun b o e hn => ⟨o, a2.keep b o (by simp) (nT b o e hn) e, rfl⟩) hf (a2.keep x oe (by simp) (by simp [Ne.symm hx]) he) hd (Array.getElem?_eq_some_iff.mp h1).1 fun h' T' a r' t' l => ?_
 refine h h' T' _ (Aft.trans (a2.mono (by simp) (by simp)) (a.mono (fun _ z => z) (by simp))) (.inr (Nat.le_trans a2.size r')) t' l
theorem Qd6 {x T : Addr} {C : Value} {dx : Option Addr} {fl : Value} {Q : Unit → Shared → Prop} (r : Rec s.heap x C dx (.ref T)) (hx : T ≠ x) (t : Tra s.heap T fl)
 (h : ∀ h', Aft [] [T] s.heap h' → Rec h' x C dx (.ref T) → Tra h' T .none → Q () { s with heap := h' }) : wpAny M A (setFlight (.ref x) none) Q E s := by
 obtain ⟨oe, vs, he, rfl, rfl, hd, h1⟩ := r
 obtain ⟨oT, ts, hT, hdT, h3⟩ := t
 unfold setFlight
 refine wpAny_bind (wpAny_field he hd h1 ?_)
 rw [if_pos (show (Value.ref T != Value.none) = true from by simp)]
 have h3' := (Array.getElem?_eq_some_iff.mp h3).1
 refine Qgs hT hdT h3' fun h2 a2 e2 => h h2 a2 ⟨oe, vs, a2.keep x oe (by simp) (by simp [Ne.symm hx]) he, rfl, rfl, hd, h1⟩ ⟨_, _, e2, Obj.data_mapFields hdT _, ?_⟩
 simp [h3']
end
end L3
namespace L3
open PySem
def Rds {α : Type} (M : Model) (h : Heap) (t : Sem α) (r : α) : Prop :=
 ∀ (A : Around) (Q : α → Shared → Prop) (E : Q3) (s : Shared), (∀ b o, h.get? b = some o → s.heap.get? b = some o) → Q r s → wpAny M A t Q E s
structure XC (h : Heap) (C : Addr) (bm : List Value) : Prop where
 at_ : ∃ nm q N bs sn sub ab col dd k0 k1 k2 k3 k5, h.get? C = some (excClassObj nm q C N bs bm true sn sub ab col dd k0 k1 k2 k3 k5 "ValueError.__new__")
 val : bm.contains (.type "ValueError") = true
 bas : bm.contains (.type "BaseException") = true
 ob : bm.contains (.type "object") = true
 noA : bm.contains (.type "AttributeError") = false
 noN : bm.contains (.type "NameError") = false
theorem XC.keeps {h h' : Heap} {C : Addr} {bm : List Value} (x : XC h C bm) (k : ∀ b o, h.get? b = some o → h'.get? b = some o) : XC h' C bm := by
 obtain ⟨⟨nm, q, N, bs, sn, sub, ab, col, dd, k0, k1, k2, k3, k5, e⟩, h1, h2, h3, h4, h5⟩ := x
 exact ⟨⟨nm, q, N, bs, sn, sub, ab, col, dd, k0, k1, k2, k3, k5, k _ _ e⟩, h1, h2, h3, h4, h5⟩
theorem Qcd {C : Addr} {bm : List Value} {T : String} {b : Bool} (h : bm.contains (.type T) = b) : (Value.ref C :: bm).contains (.type T) = b := by
 rw [List.contains_cons, h]
 cases b <;> rfl
section
variable {P : Program} {w : World} {A : Around} {E : Q3} {h : Heap} {g : Array GenState} {d : Drawn} {t : Nat} {os : OsState} {C : Addr} {bm : List Value}
theorem Qj3 {M : Model} {more : List Value} {Q : Unit → Shared → Prop} (x : XC h C bm) (hq : Q () ⟨h, g, d, t, os⟩) : wpAny M A (checkBuiltinCall "ValueError.__new__" ⟨.ref C :: more, []⟩) Q E ⟨h, g, d, t, os⟩ := by
 obtain ⟨⟨nm, q, N, bs, sn, sub, ab, col, dd, k0, k1, k2, k3, k5, cC⟩, val, bas, _, _, _⟩ := x
 have F := PySem.F.excBase_ValueError
 have c1 : (Value.ref C :: bm).contains (.type "ValueError") = true := Qcd val
 have star := F.noStar
 simp only [checkBuiltinCall, F.newKind, F.newSplit, F.newRow]
 repeat (first
  | refine wpAny_loadPart_at cC ?_
  | (refine wpAny_isSubtype_exc cC ?_; rw [c1])
  | refine wpAny_staticBase_exc cC ?_
  | refine wpAny_madeBy_exc cC ?_
  | simp only [bne_self_eq_false, Bool.false_eq_true, if_false]
  | wp_step)
 exact hq
theorem Qon {more : List Value} {R : Result → Shared → Prop} (x : XC h C bm)
 (hq : R (.ok (.ret (.ref (h.objs.size + 1)))) ⟨(h.push { cls := .type "tuple", data := .seq more.toArray }).push { cls := .ref C, data := .fields #[.ref h.objs.size, .none, .none, .none, .bool false, .none] }, g, d, t, os⟩)
 (hrest : more.length ≤ sizeLine) : codeAny (model P w) A (.builtin "ValueError.__new__" ⟨.ref C :: more, []⟩) R ⟨h, g, d, t, os⟩ := by
 obtain ⟨⟨nm, q, N, bs, sn, sub, ab, col, dd, k0, k1, k2, k3, k5, cC⟩, val, bas, _, noA, noN⟩ := x
 have F := PySem.F.excBase_ValueError
 have ends := F.ends
 have c1 : (Value.ref C :: bm).contains (.type "ValueError") = true := Qcd val
 have c2 : (Value.ref C :: bm).contains (.type "AttributeError") = false := Qcd noA
 have c3 : (Value.ref C :: bm).contains (.type "NameError") = false := Qcd noN
 refine codeAny_builtinAt F.entry ?_
 unfold Builtin.«BaseException.__new__»
 refine wpAt_bind ?_
 show wpAt _ _ _ (stack >>= _) _ _ _
 refine wpAt_bind (wpAt_stack fun p below => wpAt_of_wpAny ?_)
 wp_walk
 refine wpAt_of_wpAny ?_
 rw [F.owner]
 repeat (first
  | with_reducible refine wpAny_madeHere_exc F.canon cC ?_
  | with_reducible refine wpAny_loadPart_at cC ?_
  | (with_reducible refine wpAny_isSubtype_exc cC ?_; first | rw [c1] | rw [c2] | rw [c3])
  | wp_step)
 show R _ _
 rw [Heap.size_push]
 exact hq
theorem Qiv {M : Model} {e : Addr} {oe : Obj} {more : List Value} {Q : Unit → Shared → Prop} (x : XC h C bm) (he : h.get? e = some oe) (hc : oe.cls = .ref C) (hq : Q () ⟨h, g, d, t, os⟩) :
 wpAny M A (checkBuiltinCall "ValueError.__init__" ⟨.ref e :: more, []⟩) Q E ⟨h, g, d, t, os⟩ := by
 obtain ⟨⟨nm, q, N, bs, sn, sub, ab, col, dd, k0, k1, k2, k3, k5, cC⟩, val, _, _, _, _⟩ := x
 have F := PySem.F.excBase_ValueError
 have c1 : (Value.ref C :: bm).contains (.type "ValueError") = true := Qcd val
 have star := F.noStar
 simp only [checkBuiltinCall, F.initKind, F.initSplit, F.initRow]
 repeat (first
  | (with_reducible refine wpAny_loadPart_at he ?_; rw [hc])
  | with_reducible refine wpAny_loadPart_at cC ?_
  | (with_reducible refine wpAny_isSubtype_exc cC ?_; rw [c1])
  | wp_step)
 refine wpAny_onRaise ?_
 rw [show ∀ (a b : String) (n : Nat), Bind.check ⟨.positional, "*", "ValueError", .self, [⟨"args", .varPos, false⟩]⟩ a b n (List.map (fun x => x.fst) ({ pos := Value.ref e :: more } : Args).kw) = pure () from fun a b n => check_star_args _ _ _ _ _ _]
 exact wpAny_pure hq
theorem Qlb {iv : Value} {more : List Value} {Q : PySem.Fin → Shared → Prop} (x : XC h C bm) (li : Rds (model P w) h (typeLookup (.ref C) "__init__") (some iv))
 (hrest : more.length ≤ sizeLine)
 (hq : ∀ h' e, Heap.MadeExcOf h h' e (.ref C) more → h.objs.size ≤ e → wpAny (model P w) A (bindSpecial iv (.ref e)) (fun p s1 => wpAny (model P w) A (call p.1 (p.2 ++ more)) (fun r s2 => r = .none ∧ Q (.done (.ret (.ref e))) s2) E s1) E ⟨h', g, d, t, os⟩) :
 wpAny (model P w) A (Builtin.«type.__call__» ⟨.ref C :: more, []⟩) Q E ⟨h, g, d, t, os⟩ := by
 have x0 := x
 obtain ⟨⟨nm, q, N, bs, sn, sub, ab, col, dd, k0, k1, k2, k3, k5, cC⟩, val, bas, _, noA, noN⟩ := x
 have F := PySem.F.excBase_ValueError
 repeat (first
  | with_reducible refine wpAny_loadPart_at cC ?_
  | with_reducible refine wpAny_madeBy_exc cC ?_
  | wp_step)
 refine codeAny_call_builtin_code (Code.quiet_builtin _ F.quiet) (Qj3 x0 ?_)
 refine Qon x0 ?_ hrest
 show wpAny _ _ _ _ _ _
 have up : ∀ b o, h.get? b = some o → ((h.push { cls := .type "tuple", data := .seq more.toArray }).push { cls := .ref C, data := .fields #[.ref h.objs.size, .none, .none, .none, .bool false, .none] }).get? b = some o :=
  fun b o e => Heap.get?_push_of_some _ (Heap.get?_push_of_some _ e)
 have cC1 := up _ _ cC
 have here : ((h.push { cls := .type "tuple", data := .seq more.toArray }).push { cls := .ref C, data := .fields #[.ref h.objs.size, .none, .none, .none, .bool false, .none] }).get? (h.objs.size + 1) =
  some { cls := .ref C, data := .fields #[.ref h.objs.size, .none, .none, .none, .bool false, .none] } := by heap_get
 have c0 : (Value.ref C :: bm).contains (.ref C) = true := by simp
 unfold isInstance
 repeat (first
  | with_reducible refine wpAny_loadPart_at here ?_
  | (with_reducible refine wpAny_isSubtype_exc cC1 ?_; rw [c0])
  | wp_step)
 show wpAny _ _ (typeLookup (.ref C) _) _ _ _
 refine li _ _ _ _ up ?_
 refine wpAny_holding (wpAny_bind (wpAny_mono (hq _ (h.objs.size + 1) ⟨up, Heap.get?_none_of_le (Nat.le_succ _), h.objs.size, here, Heap.get?_none_of_le (Nat.le_refl _), ?_⟩ (Nat.le_succ _)) (fun p s1 h1 => ?_) fun _ _ z => z))
 ·exact Heap.get?_push_of_some _ (Heap.get?_push_at rfl rfl)
 ·obtain ⟨p1, p2⟩ := p
  refine wpAny_bind (wpAny_mono h1 (fun r s2 hr => ?_) fun _ _ z => z)
  obtain ⟨rfl, hQ⟩ := hr
  wp_walk
  exact hQ
end
end L3
namespace L3
open PySem
section
variable {P : Program} {w : World} {A : Around} {E : Q3} {h : Heap} {g : Array GenState} {d : Drawn} {t : Nat} {os : OsState} {C : Addr} {bm : List Value}
theorem Qi0 {iv : Value} {more : List Value} {Q : Q3} (x : XC h C bm) (li : Rds (model P w) h (typeLookup (.ref C) "__init__") (some iv)) (hrest : more.length ≤ sizeLine)
 (hq : ∀ h' e, Heap.MadeExcOf h h' e (.ref C) more → h.objs.size ≤ e → wpAny (model P w) (A.under (.builtin "type.__call__" ⟨.ref C :: more, []⟩)) (bindSpecial iv (.ref e))
  (fun p s1 => wpAny (model P w) (A.under (.builtin "type.__call__" ⟨.ref C :: more, []⟩)) (call p.1 (p.2 ++ more)) (fun r s2 => r = .none ∧ Q (.ref e) s2) E s1) E ⟨h', g, d, t, os⟩) :
 wpAny (model P w) A (call (.ref C) more) Q E ⟨h, g, d, t, os⟩ := by
 have x0 := x
 obtain ⟨⟨nm, q, N, bs, sn, sub, ab, col, dd, k0, k1, k2, k3, k5, cC⟩, _⟩ := x
 have f1 := tc_lookup
 have f2 := tc_bind (.ref C)
 have ty : (⟨h, g, d, t, os⟩ : Shared).TypeIs (.ref C) "type" := ⟨_, cC, rfl⟩
 refine wpAny_call (codeAny_of_tree ?_)
 show wpAny _ _ (callAny (.ref C) _) _ _ _
 repeat (any_goals (first
  | assumption
  | with_reducible refine wpAny_loadPart_at cC ?_
  | wp_step))
 refine ⟨rfl, ?_⟩
 exact codeAny_call_builtin_at (Code.quiet_builtin _ (by decide+kernel)) entry_typeCall (wpAny_check_type_call_sub cC (Qlb x0 li hrest fun h' e hm hs => hq h' e hm hs))
def Bare (s : Shared) (e C : Addr) : Prop := ∃ dx t, s.heap.get? e = some { cls := .ref C, dict := dx, data := .fields #[.ref t, .none, .none, .none, .bool false, .none] }
theorem Qft {env : Env} {s : Shared} {x : Sem Value} {Q : Flow → Shared → Prop} (hh : A.handled = none)
 (hx : wpAny (model P w) A x (fun v s1 => ∃ e, v = .ref e ∧ XC s1.heap C bm ∧ Bare s1 e C ∧ E (.ref e) s1) E s) : wpAny (model P w) A (raiseStmt env (some x) none) Q E s := by
 unfold raiseStmt
 refine wpAny_bind (wpAny_mono hx (fun v s1 h1 => ?_) fun _ _ z => z)
 obtain ⟨e, rfl, xc, ⟨dx, tt, he⟩, hE⟩ := h1
 obtain ⟨⟨nm, q, N, bs, sn, sub, ab, col, dd, k0, k1, k2, k3, k5, cC⟩, _, bas, _⟩ := xc
 have c1 : (Value.ref C :: bm).contains (.type "BaseException") = true := Qcd bas
 obtain ⟨hp, g1, d1, tk, os1⟩ := s1
 repeat (first
  | with_reducible refine wpAny_loadPart_at he ?_
  | with_reducible refine wpAny_loadPart_at cC ?_
  | (with_reducible refine wpAny_isSubtype_exc cC ?_; rw [c1])
  | wp_step)
 exact wpAny_raiseNew_none hh hE
theorem Qik {env : Env} {s : Shared} {x : Str} {np cpos pos : Pos} {args : List Expr} {iv : Value} {Q : Flow → Shared → Prop} (hh : A.handled = none) (hplain : (backTo cpos (starEach args env)).any (·.1) = false)
 (hx : wpAny (model P w) A (eval (.Name x np) env) (fun f s1 => f = .ref C ∧ wpAny (model P w) A (evalArgs (.ref C) true (backTo cpos (starEach args env)) [])
  (fun a s2 => a.kw = [] ∧ a.pos.length ≤ sizeLine ∧ XC s2.heap C bm ∧ Rds (model P w) s2.heap (typeLookup (.ref C) "__init__") (some iv) ∧
   ∀ h' e, Heap.MadeExcOf s2.heap h' e (.ref C) a.pos → s2.heap.objs.size ≤ e → wpAny (model P w) (A.under (.builtin "type.__call__" ⟨.ref C :: a.pos, []⟩)) (bindSpecial iv (.ref e))
     (fun p s3 => wpAny (model P w) (A.under (.builtin "type.__call__" ⟨.ref C :: a.pos, []⟩)) (call p.1 (p.2 ++ a.pos)) (fun r s4 => r = .none ∧ XC s4.heap C bm ∧ Bare s4 e C ∧ E (.ref e) s4) E s3) E { s2 with heap := h' }) E s1) E s) :
 wpAny (model P w) A (exec (.Raise (some (.Call (.Name x np) args [] cpos)) none pos) env) Q E s := by
 rw [arm_exec_Raise]
 have go : wpAny (model P w) A (eval (.Call (.Name x np) args [] cpos) env) (fun v s1 => ∃ e, v = .ref e ∧ XC s1.heap C bm ∧ Bare s1 e C ∧ E (.ref e) s1) E s := by
  refine wpAny_Call_ofName (wpAny_mono hx (fun f s1 h1 => ?_) fun _ _ z => z)
  obtain ⟨rfl, h1⟩ := h1
  unfold callWith
  refine wpAny_bind (wpAny_holding (wpAny_mono h1 (fun a s2 h2 => wpAny_bind (wpAny_standAt ?_)) fun _ _ z => z))
  obtain ⟨ap, ak⟩ := a
  obtain ⟨hkw, hlen, xc, li, h2⟩ := h2
  obtain rfl : ak = [] := hkw
  obtain ⟨hp, g1, d1, tk, os1⟩ := s2
  simp only [hplain]
  obtain ⟨⟨nm, q, N, bs, sn, sub, ab, col, dd, k0, k1, k2, k3, k5, cC⟩, _⟩ := id xc
  refine wpAny_bind (wpAny_keeperOf_exc cC ?_)
  refine wpAny_bind (Qi0 xc li hlen fun h' e hm hs => wpAny_mono (h2 h' e hm hs) (fun p s3 h3 => wpAny_mono h3 (fun r s4 h4 => ?_) fun _ _ z => z) fun _ _ z => z)
  exact ⟨h4.1, wpAny_bind (wpAny_holding (wpAny_point (wpAny_pure ⟨e, rfl, h4.2⟩)))⟩
 first
  | refine wpAny_bind (wpAny_standAt (Qft (C := C) (bm := bm) hh (wpAny_bind (wpAny_mono go (fun v s3 h3 => wpAny_bind (wpAny_standAt (wpAny_pure h3))) fun _ _ z => z))))
  | (simp only [evalOpt, Option.map]; refine wpAny_bind (wpAny_standAt (Qft (C := C) (bm := bm) hh (wpAny_bind (wpAny_mono go (fun v s3 h3 => wpAny_bind (wpAny_standAt (wpAny_pure h3))) fun _ _ z => z)))))
end
end L3
namespace L3
open PySem
section
variable {P : Program} {w : World} {A : Around} {E : Q3} {h h' : Heap} {g : Array GenState} {d : Drawn} {t : Nat} {os : OsState} {C : Addr} {bm : List Value}
theorem Qil {e : Addr} {more : List Value} {Q : Shared → Prop} (hm : Heap.MadeExcOf h h' e (.ref C) more) (xc : XC h' C bm) (hrest : more.length ≤ sizeLine)
 (hq : ∀ h2, Heap.MadeExcOf h h2 e (.ref C) more → (∀ b o, h.get? b = some o → h2.get? b = some o) → Q ⟨h2, g, d, t, os⟩) :
 wpAny (model P w) A (bindSpecial (.builtin "ValueError.__init__") (.ref e)) (fun p s1 => wpAny (model P w) A (call p.1 (p.2 ++ more)) (fun r s2 => r = .none ∧ Q s2) E s1) E ⟨h', g, d, t, os⟩ := by
 have F := PySem.F.excBase_ValueError
 obtain ⟨tt, he, htn, ht⟩ := hm.there
 refine wpAny_of_eq (F.init.bind _) ?_
 refine wpAny_call (codeAny_call_builtin F.init.plain F.initEntry (Qiv xc he rfl ?_))
 wp_walk
 refine ⟨rfl, hq _ ⟨fun b o hb => ?_, hm.new, h'.objs.size, ?_, ?_, ?_⟩ fun b o hb => ?_⟩
 ·have hb' := hm.keeps b o hb
  have hne : e ≠ b := fun z => by rw [← z, hm.new] at hb; cases hb
  rw [Heap.get?_update_other _ _ hne]
  exact Heap.get?_push_of_some _ hb'
 ·rw [Heap.get?_update_self _ (Heap.get?_push_of_some _ he) rfl]
  rfl
 ·cases q : h.get? h'.objs.size with
  | none => rfl
  | some o => exact absurd (Heap.lt_size (hm.keeps _ _ q)) (Nat.lt_irrefl _)
 ·rw [Heap.get?_update_other _ _ (Nat.ne_of_lt (Heap.lt_size he))]
  exact Heap.get?_push_size _ rfl
 ·have hb' := hm.keeps b o hb
  have hne : e ≠ b := fun z => by rw [← z, hm.new] at hb; cases hb
  rw [Heap.get?_update_other _ _ hne]
  exact Heap.get?_push_of_some _ hb'
end
end L3
namespace L3
open PySem Builtin Builtin.ObjectAttr
section
variable {P : Program} {w : World} {A : Around} {E : Q3} {h : Heap} {g : Array GenState} {d : Drawn} {t : Nat} {os : OsState} {C x : Addr} {bm : List Value}
 {mA : Str → Option Value} {name : Str} {v : Value} {B : String} {bmB : List Value}
theorem Rds.go {α : Type} {M : Model} {r : α} {u : Sem α} {s : Shared} {Q : α → Shared → Prop} (l : Rds M h u r) (k : ∀ b o, h.get? b = some o → s.heap.get? b = some o) (q : Q r s) : wpAny M A u Q E s := l A Q E s k q
end
end L3
namespace L3
open PySem Builtin Builtin.ObjectAttr
section
variable {P : Program} {w : World} {A : Around} {E : Q3} {h : Heap} {g : Array GenState} {d : Drawn} {t : Nat} {os : OsState} {C x dx : Addr} {bm : List Value}
 {mA : Str → Option Value} {name : Str} {v : Value} {o : Obj} {vs : Array Value}
theorem Qkp {M : Model} {nameV : Value} {Q : Unit → Shared → Prop} (xc : XC h C bm) (hx : h.get? x = some o) (hc : o.cls = .ref C) (hq : Q () ⟨h, g, d, t, os⟩) :
 wpAny M A (checkBuiltinCall "BaseException.__getattribute__" ⟨[.ref x, nameV], []⟩) Q E ⟨h, g, d, t, os⟩ := by
 obtain ⟨⟨nm, q, N, bs, sn, sub, ab, col, dd, k0, k1, k2, k3, k5, cC⟩, _, bas, _, _, _⟩ := xc
 have f1 : builtinKind "BaseException.__getattribute__" = some .slot := by decide+kernel
 have f2 : splitId "BaseException.__getattribute__" = some ("BaseException", "__getattribute__") := by decide+kernel
 have c1 : (Value.ref C :: bm).contains (.type "BaseException") = true := Qcd bas
 have ha := PySem.F.args_bexc_ga (.ref x) nameV
 simp only [checkBuiltinCall, f1, f2]
 refine wpAny_bind ?_
 unfold isInstance
 repeat (first
  | (with_reducible refine wpAny_loadPart_at hx ?_; rw [hc])
  | (with_reducible refine wpAny_isSubtype_exc cC ?_; rw [c1])
  | wp_step)
 exact hq
end
end L3
namespace L3
open PySem Builtin Builtin.ObjectAttr
section
variable {P : Program} {w : World} {A : Around} {E : Q3} {h : Heap} {g : Array GenState} {d : Drawn} {t : Nat} {os : OsState} {C x : Addr} {bm : List Value} {o : Obj}
theorem Qo8 {R : Result → Shared → Prop} (xc : XC h C bm) (hx : h.get? x = some o) (hc : o.cls = .ref C) (hq : R (.ok (.ret (.ref C))) ⟨h, g, d, t, os⟩) :
 codeAny (model P w) A (.call (.builtin "getset_descriptor.__get__") ⟨[.builtin "object.__class__", .ref x, .ref C], []⟩) R ⟨h, g, d, t, os⟩ := by
 obtain ⟨⟨nm, q, N, bs, sn, sub, ab, col, dd, k0, k1, k2, k3, k5, cC⟩, _, _, ob, _, _⟩ := xc
 have ty : (⟨h, g, d, t, os⟩ : Shared).TypeIs (.builtin "object.__class__") "getset_descriptor" := PySem.F.typeOf_object_class
 have c1 : (Value.ref C :: bm).contains (.type (".".intercalate ("object.__class__".cutAt '.').dropLast)) = true := by
  rw [PySem.F.owner_object_class]
  exact Qcd ob
 refine codeAny_call_builtin PySem.F.slot_gs_get.plain PySem.F.entry_gs_get (PySem.F.slot_gs_get.check _ _ _ _ _ _ _ _ ty (PySem.F.args_gs_get _ _ _) ?_)
 repeat (any_goals (first
  | assumption
  | (with_reducible refine wpAny_loadPart_at hx ?_; rw [hc])
  | (with_reducible refine wpAny_isSubtype_exc cC ?_; rw [c1])
  | wp_step))
 refine ⟨Code.quiet_builtin _ (by decide+kernel), codeAny_builtin PySem.F.entry_object_class ?_⟩
 repeat (any_goals (first
  | assumption
  | (with_reducible refine wpAny_loadPart_at hx ?_; rw [hc])
  | wp_step))
theorem Qk9 {tk : Tok} {Q : PySem.Fin → Shared → Prop} (xc : XC h C bm) (lc : Rds (model P w) h (typeLookup (.ref C) "__class__") (some (.builtin "object.__class__"))) (hx : h.get? x = some o) (hc : o.cls = .ref C)
 (hq : Q (.done (.ret (.ref C))) ⟨h, g, d, t, os⟩) : wpAny (model P w) A (Builtin.«object.__getattribute__» ⟨[.ref x, .str "__class__" tk], []⟩) Q E ⟨h, g, d, t, os⟩ := by
 have ty : (⟨h, g, d, t, os⟩ : Shared).TypeIs (.builtin "object.__class__") "getset_descriptor" := PySem.F.typeOf_object_class
 have f5 := PySem.F.typeOf_object_class
 have f6 := PySem.F.slot_gs_get.lookup
 have f7 := PySem.F.slot_gs_set.lookup
 repeat (any_goals (first
  | assumption
  | (with_reducible refine wpAny_loadPart_at hx ?_; rw [hc])
  | with_reducible refine Rds.go lc (fun _ _ z => z) ?_
  | wp_step))
 refine Qo8 xc hx hc ?_
 repeat (any_goals (first | assumption | wp_step))
theorem Qms {Q : Option Value → Shared → Prop} (FB : ExcAttrFacts "ValueError") (xc : XC h C bm) (lg : Rds (model P w) h (typeLookup (.ref C) "__getattribute__") (some (.builtin "BaseException.__getattribute__")))
 (lh : Rds (model P w) h (typeLookup (.ref C) "__getattr__") none) (lc : Rds (model P w) h (typeLookup (.ref C) "__class__") (some (.builtin "object.__class__"))) (hx : h.get? x = some o) (hc : o.cls = .ref C)
 (hq : Q (some (.ref C)) ⟨h, g, d, t + 1, os⟩) : wpAny (model P w) A (getAttr? (.ref x) "__class__") Q E ⟨h, g, d, t, os⟩ := by
 have f3 := FB.ga.bind (.ref x)
 have e0 : (false && onTheHeap (Value.builtin "BaseException.__getattribute__")) = false := rfl
 have e2 : (Value.builtin "BaseException.__getattribute__" == Value.builtin "object.__getattribute__") = false := by decide+kernel
 have e1 : (onTheHeap (Value.ref C) && Value.builtin "BaseException.__getattribute__" == Value.builtin "object.__getattribute__") = false := by rw [e2]; rfl
 unfold getAttr? getAttrBy?
 repeat (any_goals (first
  | assumption
  | (with_reducible refine wpAny_loadPart_at hx ?_; rw [hc])
  | with_reducible refine Rds.go lg (fun _ _ z => z) ?_
  | with_reducible refine Rds.go lh (fun _ _ z => z) ?_
  | wp_step))
 refine codeAny_call_builtin FB.ga.plain PySem.F.entry_bexc_ga (Qkp xc hx hc (Qk9 xc lc hx hc ?_))
 repeat (any_goals (first | assumption | wp_step))
end
end L3
namespace L2
open PySem PySem.Spec PyProof.Rows L3
def onlyVal : List Value → Bool
 | .ref _ :: r => onlyVal r
 | l => l == [.type "ValueError", .type "Exception", .type "BaseException", .type "object"]
def bmOf (K : Q5) (C : Addr) : List Value := match K.lookup C with
 | some ⟨_, _, .cls cd, _⟩ => cd.mro.tail
 | _ => []
def xclsIn (K : Q5) (C : Addr) : Bool := match K.lookup C with
 | some ⟨.type "type", _, .cls cd, sl⟩ => (match cd.mro, sl.toList with
   | .ref C' :: bm, [_, _, _, _, some (.builtin n), _] => C' == C && !cd.hasDel && cd.hasDict && n == "ValueError.__new__" && bm.contains (.type "ValueError") && bm.contains (.type "BaseException") && bm.contains (.type "object") && !bm.contains (.type "AttributeError") && !bm.contains (.type "NameError") && onlyVal bm
   | _, _ => false)
 | _ => false
theorem xc_of {K : Q5} {h : Heap} {C : Addr} (X : K.In h) (q : xclsIn K C = true) : XC h C (bmOf K C) ∧ onlyVal (bmOf K C) = true := by
 unfold xclsIn at q
 split at q
 ·rename_i dd cd sl ho
  split at q
  ·rename_i C' bm k0 k1 k2 k3 n k5 hm hs
   simp only [Bool.and_eq_true, beq_iff_eq, Bool.not_eq_true'] at q
   obtain ⟨⟨⟨⟨⟨⟨⟨⟨⟨rfl, hdel⟩, hhd⟩, rfl⟩, hv⟩, hb⟩, hob⟩, hA⟩, hN⟩, ho'⟩ := q
   have eb : bmOf K C' = bm := by
    unfold bmOf
    rw [ho]
    show cd.mro.tail = bm
    rw [hm]
    rfl
   obtain ⟨nm, bs, mro, ns, qn, hd, sn, sub, ab, col, del⟩ := cd
   dsimp only at hm hdel hhd
   subst hm hdel hhd
   have hsl : sl = #[k0, k1, k2, k3, some (.builtin "ValueError.__new__"), k5] := by
    obtain ⟨l⟩ := sl
    simp only at hs
    rw [hs]
   subst hsl
   rw [eb]
   exact ⟨⟨⟨nm, qn, ns, bs, sn, sub, ab, col, dd, k0, k1, k2, k3, k5, X _ _ ho⟩, hv, hb, hob, hA, hN⟩, ho'⟩
  ·cases q
 ·cases q
structure XCls (K : Q5) (C : Addr) : Prop where
 sh : xclsIn K C = true
 ga : findIn K (.ref C) "__getattribute__" = some (some (.builtin "BaseException.__getattribute__"))
 gh : findIn K (.ref C) "__getattr__" = some none
 sa : findIn K (.ref C) "__setattr__" = some (some (.builtin "object.__setattr__"))
 cl : findIn K (.ref C) "__class__" = some (some (.builtin "object.__class__"))
theorem Qhm {K : Q5} {M : Model} {h : Heap} {C : Addr} {name : Str} {r : Option Value} (X : K.In h) (e : findIn K (.ref C) name = some r) : Rds M h (typeLookup (.ref C) name) r := PySem.W.looks_findIn X e
theorem XCls.xc {K : Q5} {h : Heap} {C : Addr} (c : XCls K C) (X : K.In h) : XC h C (bmOf K C) := (xc_of X c.sh).1
section
variable {X : Cx} {pins : Q4} {σ : St} {H : Hp} {s : Shared} {h' : Heap}
theorem aft {ch : List Addr} (I : Inv X pins σ H s) (a : Aft (frs X.stack) ch s.heap h') (hc : ∀ b ∈ ch, FpOk X pins H b) : Inv X pins σ H { s with heap := h' } := by
 have nS : ∀ b, b ≠ X.env.locals → b ∉ X.fs → b ∉ frs X.stack := fun b h1 h2 z => (List.mem_cons.mp (I.stkSub b z)).elim h1 h2
 refine I.step (g' := s.gens) (d' := s.drawn) (t' := s.toks) (ch := ch) (fun b hb => ?_) (fun b o h1 h2 h3 e _ => a.keep b o (nS b h1 h2) h3 e) (fun b o _ _ h3 e _ => a.slot b o h3 e) (fun _ _ _ _ n => n)
  (fun b o h3 e => ?_) (fun _ _ e => e) (fun _ _ _ e => e) (fun b ps e => ⟨#[], by rw [e]; simp⟩) (fun m hm => ?_) (fun b u e => ?_) I.bare
 ·obtain ⟨_, f1, _, f3, f4, f5⟩ := hc b hb
  exact ⟨f3, f1, f4, f5⟩
 ·obtain ⟨sl, q⟩ := a.slot b o h3 e
  exact ⟨_, q⟩
 ·obtain ⟨o, es, ep, ho, r⟩ := hm
  obtain ⟨sl, q⟩ := a.slot _ o (fun z => (hc _ z).2.1 rfl) ho
  exact ⟨_, es, ep, q, r⟩
 ·refine (I.hok b u e).stay (fun c v hb q => a.keep c v (fun z => ?_) (fun z => ?_) q) (fun _ q => q) fun _ _ q => q
  ·rcases hb with rfl | hb
   ·rw [I.stkFree c z] at e; cases e
   ·rw [I.stkFree c z] at hb; cases hb
  ·rcases hb with rfl | hb
   ·rw [(hc c z).1] at e; cases e
   ·rw [(hc c z).1] at hb; cases hb
end
structure ExIn (X : Cx) (pins : Q4) (H : Hp) (s : Shared) (x : Addr) (C : Value) (dx : Option Addr) : Prop where
 own : FpOk X pins H x
 tr : Rec s.heap x C dx .none ∨ ∃ T fl, Rec s.heap x C dx (.ref T) ∧ T ≠ x ∧ Tra s.heap T fl ∧ FpOk X pins H T
def XeIs (X : Cx) (R : St → Prop) (Ek : XK) : Prop :=
 ∀ (pins : Q4) (σ : St) (H : Hp) (s : Shared) (x : Addr) (C : Value) (dx : Option Addr), Inv X pins σ H s → R σ → ExIn X pins H s x C dx → Ek C dx H → X.xe (.ref x) s
def CX1 (P : Program) (w : World) : CXT := fun outer H s E e s' =>
 ∃ (x : Addr) (C : Value) (dx : Option Addr) (T : Addr) (H' : Hp), e = .ref x ∧ s'.os = s.os ∧ AllBare s'.gens ∧ Un (frs outer) [] H H' s.heap s'.heap ∧ HOk P w H' s'.heap ∧ (s.heap.objs.size ≤ x ∧ H' x = none) ∧ (s.heap.objs.size ≤ T ∧ H' T = none) ∧ T ≠ x ∧
   Rec s'.heap x C dx (.ref T) ∧ Tra s'.heap T .none ∧ E C dx H'
section
variable {X : Cx}
theorem pass1 {R : St → Prop} {E : XK} (hx : XeIs X R E) {pins : Q4} {σ : St} {H : Hp} {s : Shared} {e : Value} {s' : Shared} (I : Inv X pins σ H s) (r : R σ) (h : CX1 X.prog X.w X.stack H s E e s') : X.xe e s' := by
 obtain ⟨x, C, dx, T, H', rfl, os, bare, un, hok, ⟨x1, x2⟩, ⟨t1, t2⟩, ne, rc, tr, q⟩ := h
 have I' : Inv X pins σ H' s' := I.call' os un hok bare (ch := []) (fun _ z => nomatch z)
 exact hx pins σ H' s' x C dx I' r ⟨I.fpOk x1 x2, .inr ⟨T, _, rc, ne, tr, I.fpOk t1 t2⟩⟩ q
end
theorem Qmy {P : Program} {w : World} {K : Q5} {mg : Str → Option Value} {base : Heap} {cm : Bool} {N : List Str} {qual : Str} {scope : Scope} {f : Addr} {cd : Value} {A : Around} {outer : List Env} {s : Shared} {H : Hp} {E : XK} :
 XeIs (cxOf (CX1 P w) cm P w K mg base N qual scope f cd A outer s H E) (fun _ => True) E := by
 intro pins σ H1 s1 x C dx I _ ex e
 show wpAny (model P w) (A.deeper (envOfC qual scope s.heap.objs.size f cd)) (leaving (envOfC qual scope s.heap.objs.size f cd) (.ref x)) (fun _ s2 => CX1 P w outer H s E (.ref x) s2) (fun e' s2 => CX1 P w outer H s E e' s2) s1
 have fin : ∀ (T : Addr) (h2 : Heap), Inv (cxOf (CX1 P w) cm P w K mg base N qual scope f cd A outer s H E) pins σ H1 { s1 with heap := h2 } → s.heap.objs.size ≤ T → H1 T = none → T ≠ x → Rec h2 x C dx (.ref T) → Tra h2 T .none → CX1 P w outer H s E (.ref x) { s1 with heap := h2 } := by
  intro T h2 J t1 t2 ne r t
  obtain ⟨f0, _, _, f3, _⟩ := ex.own
  have x1 : s.heap.objs.size ≤ x := f3.elim (fun z => absurd (show x ∈ ([] : List Addr) from z) (by simp)) id
  exact ⟨x, C, dx, T, H1, rfl, J.os, J.bare, J.base, J.hok, ⟨x1, f0⟩, ⟨t1, t2⟩, ne, r, t, e⟩
 unfold leaving
 rcases ex.tr with r | ⟨T0, fl0, r, ne0, t0, f0⟩
 ·refine wpAny_bind (Ql2 I.ok.frames I.stack rfl r fun h' T a sz r' t' => ?_)
  have xT : T ≠ x := by
   obtain ⟨oe, _, he, _⟩ := r
   exact fun z => absurd (Nat.lt_of_lt_of_le (Heap.lt_size he) (z ▸ sz)) (Nat.lt_irrefl _)
  have hT := I.hok.fresh sz
  have I1 := aft I a (by intro b hb; have : b = x := by simpa using hb
                         subst this; exact ex.own)
  refine Qd6 r' xT t' fun h2 a2 r2 t2 => ?_
  have I2 := aft (h' := h2) I1 (a2.mono (by simp) fun _ z => z) (by intro b hb; have : b = T := by simpa using hb
                                                                    subst this; exact I.fpOk sz hT)
  exact fin T h2 I2 (Nat.le_trans I.sz sz) hT xT r2 t2
 ·refine wpAny_bind (Ql3 I.ok.frames I.stack rfl r ne0 t0 fun h' T fl' a sz r' t' => ?_)
  have xT : T ≠ x := by
   obtain ⟨oe, _, he, _⟩ := r
   rcases sz with z0 | z0
   ·rw [z0]; exact ne0
   ·exact fun z => absurd (Nat.lt_of_lt_of_le (Heap.lt_size he) (z ▸ z0)) (Nat.lt_irrefl _)
  have fT : FpOk (cxOf (CX1 P w) cm P w K mg base N qual scope f cd A outer s H E) pins H1 T := by
   rcases sz with z0 | z0
   ·rw [z0]; exact f0
   ·exact I.fpOk z0 (I.hok.fresh z0)
  have I1 := aft I a (by intro b hb
                         rcases (show b = x ∨ b = T0 by simpa using hb) with z | z
                         ·subst z; exact ex.own
                         ·subst z; exact f0)
  refine Qd6 r' xT t' fun h2 a2 r2 t2 => ?_
  have I2 := aft (h' := h2) I1 (a2.mono (by simp) fun _ z => z) (by intro b hb; have : b = T := by simpa using hb
                                                                    subst this; exact fT)
  obtain ⟨g0, _, _, g3, _⟩ := fT
  exact fin T h2 I2 (g3.elim (fun z => absurd (show T ∈ ([] : List Addr) from z) (by simp)) id) g0 xT r2 t2
end L2
namespace L2
open PySem PySem.Spec PyProof.Rows L3
def tRaise (R : St → Prop) (C : Value) (ta : TA) (Ek : XK) : TS := fun _ σ H => ta σ H fun vs H1 => vs.length ≤ sizeLine ∧ R σ ∧ Ek C none H1
section
variable {X : Cx} {x : Str} {C : Addr} {np cpos pos : Pos} {e : Expr} {es : List Expr} {ta : TA} {R : St → Prop} {Ek : XK}
theorem Qfx (hc : X.calm = true) (hxe : XeIs X R Ek) (hg : Gl X x) (hm : X.mg x = some (.ref C)) (T : XCls X.K C) (hi : findIn X.K (.ref C) "__init__" = some (some (.builtin "ValueError.__init__"))) (ha : PA X (e :: es) ta)
 (hdb : (x == ("__debug__" : Str)) = false := by decide) (he : starEach (e :: es) X.env = (false, eval e X.env) :: starEach es X.env := by rfl) (hpl : (backTo cpos (starEach (e :: es) X.env)).any (·.1) = false := by rfl) :
 PS X (.Raise (some (.Call (.Name x np) (e :: es) [] cpos)) none pos) (tRaise R (.ref C) ta Ek) := by
 intro pins s σ H D I h
 refine Qik (C := C) (bm := bmOf X.K C) (iv := .builtin "ValueError.__init__") (I.ok.hd hc) hpl (Qd1 I hg hm ⟨rfl, ?_⟩ hdb)
 have hb : backTo cpos (starEach (e :: es) X.env) = (false, eval e X.env) :: backTo cpos (starEach es X.env) := by rw [he]; rfl
 rw [hb]
 refine Calls.evalArgs_plain ?_
 rw [← hb]
 refine thn (ha cpos pins s σ H _ I h) fun us s1 ⟨vs, H1, I1, r, hl, hR, hE⟩ => ?_
 have hlen : us.length ≤ sizeLine := by rw [← r.length]; exact hl
 refine ⟨rfl, hlen, T.xc I1.kIn, Qhm I1.kIn hi, fun h' x' hm' hs' => ?_⟩
 obtain ⟨hp, g, d, t, os⟩ := s1
 have KX : X.K.In h' := I1.kIn.keeps hm'.keeps
 refine Qil (bm := bmOf X.K C) hm' (T.xc KX) hlen fun h2 hm2 k2 => ?_
 have KX2 : X.K.In h2 := I1.kIn.keeps k2
 obtain ⟨tt, hx2, htn, ht⟩ := hm2.there
 have I2 : Inv X pins σ H1 ⟨h2, g, d, t, os⟩ := I1.kept (t' := t) k2
 exact ⟨T.xc KX2, ⟨none, tt, hx2⟩, hxe pins σ H1 _ x' (.ref C) none I2 hR ⟨I1.fpOk hs' (I1.hok.fresh hs'), .inl ⟨_, _, hx2, rfl, rfl, rfl, rfl⟩⟩ hE⟩
end
def tCallR (R : St → Prop) (sp : Sp) (dvs : List V) (E : XK) (t : TA) : TE := fun σ H Q => t σ H fun vs H1 => R σ ∧ sp (vs ++ dvs) H1 Q E
section
variable {X : Cx} {cm : Bool} {k : Nat} {f C : Addr} {fd : FuncData} {ps : List Str} {sp : Sp} {dvs : List V} {ds : List Value} {E : XK} {R : St → Prop} {x m : Str} {p pos apos : Pos} {e o : Expr} {es : List Expr} {ta : TE} {t : TA}
theorem Qn9 {pins : Q4} {σ : St} {H : Hp} {s : Shared} {Q : VK} {us : List Value} {vs : List V} (F : FnOk X.prog X.w X.K X.mg X.base (CX1 X.prog X.w) cm k f fd ps sp) (hr : Room cm k X.A) (hb : Binds X.K fd ps ds) (hd : Vals dvs ds) (hx : XeIs X R E)
 (I : Inv X pins σ H s) (r : Vals vs us) (hR : R σ) (h : sp (vs ++ dvs) H Q E) : wpAny (model X.prog X.w) X.A (call (.ref f) us) (EP X pins σ Q) X.xe s := by
 have r2 : Vals (vs ++ dvs) (us ++ ds) := r.append hd
 have hl : (us ++ ds).length = ps.length := by rw [← r2.length]; exact F.len _ _ _ _ h
 refine wpAny_call (codeAny_mono (F.run X.A X.stack s H ⟨us, []⟩ (us ++ ds) (vs ++ dvs) Q E hr I.env0 (hb s us I.kIn hl) r2 h) fun r s' hq => ?_)
 cases r with
 | error e => exact pass1 hx I hR hq
 | ok fl =>
   cases fl with
   | ret u => exact I.after hq
   | next => exact False.elim hq
   | brk => exact False.elim hq
   | cont => exact False.elim hq
theorem Qe7 (F : FnOk X.prog X.w X.K X.mg X.base (CX1 X.prog X.w) cm k f fd ps sp) (hr : Room cm k X.A) (hg : Gl X x) (hm : X.mg x = some (.ref f)) (hk : keepIn X.K (.ref f) = true) (hb : Binds X.K fd ps ds) (hd : Vals dvs ds) (hx : XeIs X R E)
 (ha : PA X (e :: es) t) (hdb : (x == ("__debug__" : Str)) = false := by decide) (he : starEach (e :: es) X.env = (false, eval e X.env) :: starEach es X.env := by rfl) (hpl : (backTo pos (starEach es X.env)).any (·.1) = false := by rfl) :
 PE X (.Call (.Name x p) (e :: es) [] pos) (tCallR R sp dvs E t) := by
 intro pins s σ H Q I h
 refine wpAny_Call_Name_kw (Qd1 I hg hm ?_ hdb)
 refine PySem.W.callWith_K (h₀ := X.base) I.ok.mod.kin hk (thn (ha pos pins s σ H _ I h) fun us s1 ⟨vs, H1, I1, r, hR, q⟩ => ⟨I1.kIn, ?_⟩) he hpl
 exact Qn9 F hr hb hd hx I1 r hR q
end
structure FunD (K : Q5) (x qual : Str) (st : Stmt) (f : Addr) (fd : FuncData) (dV : Value) : Prop where
 ex : ∃ (oc : Value) (od : Option Addr) (kV doc pm : Value) (an : Option Addr) (cdv ct : Value) (osl : Array Q6),
  fd = fnOf x qual (defArgs st) (defBody st) (defScope st) dV kV doc pm an cdv ct ∧ K.lookup f = some ⟨oc, od, .func fd, osl⟩ ∧ codeIn K cdv qual = true
 kp : keepIn K (.ref f) = true
section
variable {P : Program} {w : World} {K : Q5} {mg : Str → Option Value} {base : Heap} {cm : Bool}
theorem FunD.okX {x qual : Str} {st : Stmt} {f : Addr} {fd : FuncData} {dV : Value} {N ps : List Str} {k : Nat} {sp : Sp} (F : FunD K x qual st f fd dV) (S : FnScope N ps (defScope st)) (len : ∀ vs H Q E, sp vs H Q E → vs.length = ps.length)
 (hbody : ∀ (cdv : Value) (A : Around) (outer : List Env) (s : Shared) (H : Hp) (vs : List V) (Q : VK) (E : XK), Room cm k (A.deeper (envOfC qual (defScope st) s.heap.objs.size f cdv)) → sp vs H Q E →
  ∃ t, PSs (cxOf (CX1 P w) cm P w K mg base N qual (defScope st) f cdv A outer s H E) (defBody st) t ∧ t { nx := fun _ H' => Q .non H', rt := Q } (start N vs) H) : FnOk P w K mg base (CX1 P w) cm (k + 1) f fd ps sp := by
 obtain ⟨oc, od, kV, doc, pm, an, cdv, ct, osl, rfl, lk, hcd⟩ := F.ex
 exact fn_of lk hcd S len fun A outer s H vs Q E hr hsp => hbody cdv A outer s H vs Q E hr hsp
theorem FunD.ok {x qual : Str} {st : Stmt} {f : Addr} {fd : FuncData} {dV : Value} {N ps : List Str} {k : Nat} {sp : Sp} (F : FunD K x qual st f fd dV) (S : FnScope N ps (defScope st)) (len : ∀ vs H Q E, sp vs H Q E → vs.length = ps.length)
 (hbody : ∀ (cdv : Value) (A : Around) (outer : List Env) (s : Shared) (H : Hp) (vs : List V) (Q : VK) (E : XK), Room cm k (A.deeper (envOfC qual (defScope st) s.heap.objs.size f cdv)) → sp vs H Q E →
  ∃ t, PSs (cxOf CX0 cm P w K mg base N qual (defScope st) f cdv A outer s H E).nox (defBody st) t ∧ t { nx := fun _ H' => Q .non H', rt := Q } (start N vs) H) : FnOk P w K mg base CX0 cm (k + 1) f fd ps sp := by
 obtain ⟨oc, od, kV, doc, pm, an, cdv, ct, osl, rfl, lk, hcd⟩ := F.ex
 refine fn_of lk hcd S len fun A outer s H vs Q E hr hsp => ?_
 obtain ⟨t, h, q⟩ := hbody cdv A outer s H vs Q E hr hsp
 exact ⟨t, h.nox, q⟩
theorem FunD.binds {x qual : Str} {st : Stmt} {f : Addr} {fd : FuncData} {dV : Value} {ps : List Str} (F : FunD K x qual st f fd dV)
 (h : ∀ (kV doc pm : Value) (an : Option Addr) (cdv ct : Value) (us : List Value), us.length = ps.length → bindArgs (fnOf x qual (defArgs st) (defBody st) (defScope st) dV kV doc pm an cdv ct) ⟨us, []⟩ = pure (ps.zip us)) : Binds K fd ps [] := by
 obtain ⟨oc, od, kV, doc, pm, an, cdv, ct, osl, rfl, lk, hcd⟩ := F.ex
 exact .all (h kV doc pm an cdv ct)
theorem FunD.b1 {x qual : Str} {st : Stmt} {f : Addr} {fd : FuncData} {dV : Value} {ps : List Str} (F : FunD K x qual st f fd dV) (h : ∀ (kV doc pm : Value) (an : Option Addr) (cdv ct : Value) (us : List Value), us.length = ps.length → bindArgs (PySem.W.fnOf x qual (defArgs st) (defBody st) (defScope st) dV kV doc pm an cdv ct) ⟨us, []⟩ = pure (ps.zip us) := by exact fun _ _ _ _ _ _ us hl => match us, hl with | [_], _ => rfl) : Binds K fd ps [] := F.binds h
theorem FunD.b2 {x qual : Str} {st : Stmt} {f : Addr} {fd : FuncData} {dV : Value} {ps : List Str} (F : FunD K x qual st f fd dV) (h : ∀ (kV doc pm : Value) (an : Option Addr) (cdv ct : Value) (us : List Value), us.length = ps.length → bindArgs (PySem.W.fnOf x qual (defArgs st) (defBody st) (defScope st) dV kV doc pm an cdv ct) ⟨us, []⟩ = pure (ps.zip us) := by exact fun _ _ _ _ _ _ us hl => match us, hl with | [_, _], _ => rfl) : Binds K fd ps [] := F.binds h
theorem FunD.b3 {x qual : Str} {st : Stmt} {f : Addr} {fd : FuncData} {dV : Value} {ps : List Str} (F : FunD K x qual st f fd dV) (h : ∀ (kV doc pm : Value) (an : Option Addr) (cdv ct : Value) (us : List Value), us.length = ps.length → bindArgs (PySem.W.fnOf x qual (defArgs st) (defBody st) (defScope st) dV kV doc pm an cdv ct) ⟨us, []⟩ = pure (ps.zip us) := by exact fun _ _ _ _ _ _ us hl => match us, hl with | [_, _, _], _ => rfl) : Binds K fd ps [] := F.binds h
theorem FunD.b4 {x qual : Str} {st : Stmt} {f : Addr} {fd : FuncData} {dV : Value} {ps : List Str} (F : FunD K x qual st f fd dV) (h : ∀ (kV doc pm : Value) (an : Option Addr) (cdv ct : Value) (us : List Value), us.length = ps.length → bindArgs (PySem.W.fnOf x qual (defArgs st) (defBody st) (defScope st) dV kV doc pm an cdv ct) ⟨us, []⟩ = pure (ps.zip us) := by exact fun _ _ _ _ _ _ us hl => match us, hl with | [_, _, _, _], _ => rfl) : Binds K fd ps [] := F.binds h
theorem FunD.b5 {x qual : Str} {st : Stmt} {f : Addr} {fd : FuncData} {dV : Value} {ps : List Str} (F : FunD K x qual st f fd dV) (h : ∀ (kV doc pm : Value) (an : Option Addr) (cdv ct : Value) (us : List Value), us.length = ps.length → bindArgs (PySem.W.fnOf x qual (defArgs st) (defBody st) (defScope st) dV kV doc pm an cdv ct) ⟨us, []⟩ = pure (ps.zip us) := by exact fun _ _ _ _ _ _ us hl => match us, hl with | [_, _, _, _, _], _ => rfl) : Binds K fd ps [] := F.binds h
theorem Qao {x qual : Str} {st : Stmt} {f : Addr} {oc dV : Value} {od an : Option Addr} {osl : Array Q6} {kV doc pm cdv ct : Value} (l : K.lookup f = some ⟨oc, od, .func (fnOf x qual (defArgs st) (defBody st) (defScope st) dV kV doc pm an cdv ct), osl⟩)
 (c : codeIn K cdv qual = true) (k : keepIn K (.ref f) = true) : FunD K x qual st f (fnOf x qual (defArgs st) (defBody st) (defScope st) dV kV doc pm an cdv ct) dV := ⟨⟨oc, od, kV, doc, pm, an, cdv, ct, osl, rfl, l, c⟩, k⟩
end
end L2
namespace L2
open PySem PySem.Spec PyProof.Rows L3
def excO (x : Addr) (C : Value) (dx : Option Addr) : HO := .ext fun h => ∃ o vs, h.get? x = some o ∧ o.cls = C ∧ o.dict = dx ∧ o.data = .fields vs
theorem Qml {P : Program} {w : World} {H : Hp} {h : Heap} {x : Addr} {C : Value} {dx : Option Addr} (hok : HOk P w H h) (e : H x = some (excO x C dx)) : ∃ o vs, h.get? x = some o ∧ o.cls = C ∧ o.dict = dx ∧ o.data = .fields vs := by
 obtain ⟨q, _⟩ := (show ObjOk P w H h x (excO x C dx) from hok x _ e)
 exact q
section
variable {X : Cx} {pins pins' : Q4} {σ : St} {H : Hp} {s : Shared} {E : Q3} {D : Ends}
end
section
variable {X : Cx}
end
end L2
namespace L2
open PySem PySem.Spec PyProof.Rows L3
theorem Qmf {K : Q5} {x C : Addr} (T : XCls K C) : PySem.W.KitX K (.ref x) (.ref C) (fun h => ∃ o, h.get? x = some o ∧ o.cls = .ref C) where
 ty := fun M h _ p => by
  obtain ⟨o, e, c⟩ := p
  exact c ▸ (PySem.W.Looks.ld e).andThen .now
 it := fun M h X _ => by
  obtain ⟨⟨nm, q, N, bs, sn, sub, ab, col, dd, k0, k1, k2, k3, k5, cC⟩, _⟩ := T.xc X
  intro A Q E s k z
  unfold isType loadHead
  exact wpAny_bind (wpAny_loadPart (k _ _ cC) (wpAny_pure z))
 ne := fun h tp dd its n sl X htp => by
  obtain ⟨⟨nm, q, N, bs, sn, sub, ab, col, dd', k0, k1, k2, k3, k5, cC⟩, _⟩ := T.xc X
  refine Bool.eq_false_iff.mpr fun z => ?_
  have e : C = tp := Value.ref.inj (beq_iff_eq.mp z)
  subst e
  rw [cC] at htp
  have z2 := congrArg Obj.data (Option.some.inj htp)
  cases z2
 ca := fun {P w A E Q s} X p k => by
  obtain ⟨o, e, c⟩ := p
  obtain ⟨h, g, d, t, os⟩ := s
  exact Qms PySem.F.excAttr_ValueError (T.xc X) (Qhm X T.ga) (Qhm X T.gh) (Qhm X T.cl) e c k
inductive TyX (K : Q5) (H : Hp) : V → Value → Prop where
 | of {x : V} {t : Value} (e : TyOf K H x t) : TyX K H x t
 | exc {a C : Addr} {dx : Option Addr} (e : H a = some (excO a (.ref C) dx)) (T : XCls K C) : TyX K H (.ref a) (.ref C)
def clsV : V → Option Value
 | .ty n => some (.type n)
 | .ref a => some (.ref a)
 | _ => none
theorem Qo9 {c : V} {u t : Value} (e : clsV c = some u) (r : RelV c t) : t = u := by
 cases c with
 | ty n => cases e; exact r
 | ref a => cases e; exact r
 | _ => cases e
def rIs (K : Q5) : List V → Hp → VK → Prop := fun xs H Q => ∃ x c t u b, xs = [x, c] ∧ TyX K H x t ∧ clsV c = some u ∧ PySem.W.kitOne K t u = some b ∧ Q (.bl b) H
section
variable {X : Cx}
theorem Qlc : CallR X (.builtin "isinstance") (rIs X.K) := by
 intro pins s σ H xs us Q I r h
 obtain ⟨x, c, t, u, b, rfl, ty, hc, e, q⟩ := h
 cases r with
 | cons r1 r2 =>
   cases r2 with
   | cons r2 r3 =>
     cases r3
     rename_i v1 v2
     rw [Qo9 hc r2]
     cases ty with
     | of ty => exact Qki I r1 ty e fun tk => ⟨.bl b, H, I.tok _, rfl, q⟩
     | @exc a C dx ea T =>
       cases (show v1 = Value.ref a from r1)
       obtain ⟨o, vs, e1, e2, _⟩ := Qml I.hok ea
       exact PySem.W.kia_one (Qmf T) I.kIn ⟨o, e1, e2⟩ e (fun z => nomatch z) fun tk => ⟨.bl b, H, I.tok _, rfl, q⟩
end
section
variable {X : Cx} {e : Expr} {f : Str} {pos : Pos} {ta : TE}
end
end L2
namespace L2
open PySem PySem.Spec PyProof.Rows L3
section
variable {X : Cx} {pins : Q4} {σ : St} {H : Hp} {s : Shared} {A : Around} {E : Q3} {a C : Addr} {f : Str} {y : V} {u : Value} {Q : Unit → Shared → Prop}
end
section
variable {X : Cx} {o value : Expr} {f : Str} {pos pos' : Pos} {ta tv : TE}
end
section
variable {X : Cx} {cm : Bool} {k : Nat} {fI : Addr} {fd : FuncData} {ps : List Str} {sp : Sp} {x : Str} {C : Addr} {np cpos pos : Pos} {e : Expr} {es : List Expr} {ta : TA} {R : St → Prop} {Ek : XK}
end
end L2
namespace L2
open PySem PySem.Spec PyProof.Rows L3
section
variable {X : Cx}
theorem Qbe : OpR X (binaryOp .Mult) (rI IntMulOk fun i j => .int (i * j)) := opI fun _ _ _ _ _ _ _ hc q => mul_int q hc
theorem Qe8 : OpR X (binaryOp .FloorDiv) (rI (fun _ j => j ≠ 0 ∧ j.natAbs.log2 < 9000) fun i j => .int (i.fdiv j)) := opI fun _ _ _ _ _ _ _ hc q => floordiv_int hc.1 q (.inl (PyProof.noPylong_of_log2 hc.2))
theorem Qeb : CallR X (.builtin "abs") (fun xs H Q => ∃ i : Int, xs = [.int i] ∧ Q (.int (i.natAbs : Nat)) H) := by
 intro pins s σ H xs us Q I r h
 obtain ⟨i, rfl, q⟩ := h
 obtain ⟨u, rfl, t, rfl⟩ := vals1 r
 have e : (if i < 0 then -i else i) = ((i.natAbs : Nat) : Int) := by split <;> omega
 exact call_abs_int fun u tk => ⟨.int (if i < 0 then -i else i), H, I.tok _, ⟨_, rfl⟩, by rw [e]; exact q⟩
end
theorem Qha {x : Int} (lo : -(2 ^ 250 * 2 ^ 250 * 2 ^ 250 * 2 ^ 250) ≤ x) (hi : x ≤ 2 ^ 250 * 2 ^ 250 * 2 ^ 250 * 2 ^ 250) : Builtin.Int.intBits x ≤ 1001 := by
 refine PySem.intBits_le_iff.mpr ?_
 have e : (2 : Nat) ^ 1001 = 2 ^ 250 * 2 ^ 250 * 2 ^ 250 * 2 ^ 250 * 2 := by
  rw [show (1001 : Nat) = 250 + 250 + 250 + 250 + 1 from rfl, Nat.pow_add, Nat.pow_add, Nat.pow_add, Nat.pow_add]
 rw [e]
 omega
theorem Qf4 {y : Int} (h0 : y ≠ 0) (lo : -(2 ^ 250 * 2 ^ 250 * 2 ^ 250 * 2 ^ 250) ≤ y) (hi : y ≤ 2 ^ 250 * 2 ^ 250 * 2 ^ 250 * 2 ^ 250) : y ≠ 0 ∧ y.natAbs.log2 < 9000 := by
 have q := PySem.intBits_le_iff.mp (Qha lo hi)
 have n0 : y.natAbs ≠ 0 := by omega
 have := (Nat.log2_lt n0).mpr q
 exact ⟨h0, by omega⟩
theorem Qb9 {x y : Int} (l1 : -(2 ^ 250 * 2 ^ 250 * 2 ^ 250 * 2 ^ 250) ≤ x) (h1 : x ≤ 2 ^ 250 * 2 ^ 250 * 2 ^ 250 * 2 ^ 250) (l2 : -(2 ^ 250 * 2 ^ 250 * 2 ^ 250 * 2 ^ 250) ≤ y) (h2 : y ≤ 2 ^ 250 * 2 ^ 250 * 2 ^ 250 * 2 ^ 250) : IntMulOk x y :=
 PySem.IntMulOk.of_le (Qha l1 h1) (Qha l2 h2) (by decide)
theorem decT {p : Prop} [Decidable p] {A B : Prop} (h : p) (k : A) : if decide p = true then A else B := by rw [if_pos (decide_eq_true h)]; exact k
theorem decF {p : Prop} [Decidable p] {A B : Prop} (h : ¬ p) (k : B) : if decide p = true then A else B := by rw [if_neg (by simpa using h)]; exact k
theorem dec2 {p : Prop} [Decidable p] {A B : Prop} (h1 : p → A) (h2 : ¬ p → B) : if decide p = true then A else B := by
 by_cases h : p
 ·exact decT h (h1 h)
 ·exact decF h (h2 h)
theorem ndecT {p : Prop} [Decidable p] {A B : Prop} (h : ¬ p) (k : A) : if (!decide p) = true then A else B := by rw [if_pos (by simp [h])]; exact k
theorem ndecF {p : Prop} [Decidable p] {A B : Prop} (h : p) (k : B) : if (!decide p) = true then A else B := by rw [if_neg (by simp [h])]; exact k
theorem ndec2 {p : Prop} [Decidable p] {A B : Prop} (h1 : ¬ p → A) (h2 : p → B) : if (!decide p) = true then A else B := by
 by_cases h : p
 ·exact ndecF h (h2 h)
 ·exact ndecT h (h1 h)
end L2
namespace L2
open PySem PySem.Spec PyProof.Rows L3
theorem Qcw : bootBuiltins "len" = some (.builtin "len") := by decide+kernel
theorem Qlg : bootBuiltins "abs" = some (.builtin "abs") := by decide+kernel
theorem Qc4 : bootBuiltins "isinstance" = some (.builtin "isinstance") := by decide+kernel
theorem bt_int : bootBuiltins "int" = some (.type "int") := by decide+kernel
theorem Qmv : bootBuiltins "tuple" = some (.type "tuple") := by decide+kernel
theorem Qcs : bootBuiltins "list" = some (.type "list") := by decide+kernel
def Def (K : Q5) (mg : Str → Option Value) (x : Str) (st : Stmt) (dV : Value) : Prop := ∃ f fd, FunD K x x st f fd dV ∧ mg x = some (.ref f)
def Cal (P : Program) (w : World) (K : Q5) (mg : Str → Option Value) (base : Heap) (CX : CXT) (cm : Bool) (k : Nat) (x : Str) (ps : List Str) (ds : List V) (sp : Sp) : Prop :=
 ∃ f fd dvs, FnOk P w K mg base CX cm k f fd ps sp ∧ mg x = some (.ref f) ∧ keepIn K (.ref f) = true ∧ Binds K fd ps [] ∧ Vals ds dvs ∧ Binds K fd ps dvs
theorem FunD.bindsD {K : Q5} {x qual : Str} {st : Stmt} {f T : Addr} {fd : FuncData} {ps : List Str} {ds : List Value} {items : Array Value} {od : Option Addr} {n : Nat} {sl : Array Q6} (F : FunD K x qual st f fd (.ref T))
 (lT : K.lookup T = some ⟨.type "tuple", od, .seq items n, sl⟩) (m : Nat) (hm : m + ds.length = ps.length)
 (h : ∀ (kV doc pm : Value) (an : Option Addr) (cdv ct : Value) (us : List Value), us.length = m →
  ∃ k, bindArgs (fnOf x qual (defArgs st) (defBody st) (defScope st) (.ref T) kV doc pm an cdv ct) ⟨us, []⟩ = seqItems? (.ref T) >>= k ∧ k (some items) = pure (ps.zip (us ++ ds))) : Binds K fd ps ds := by
 obtain ⟨oc, od', kV, doc, pm, an, cdv, ct, osl, rfl, lk, hcd⟩ := F.ex
 intro s us KX hl
 obtain ⟨k, h1, h2⟩ := h kV doc pm an cdv ct us (by rw [List.length_append] at hl; omega)
 exact BindsTo.of_defaults rfl (KX _ _ lT) rfl h1 h2
end L2
namespace L2
open PySem PySem.Spec PyProof.Rows L3
theorem Qi3 {X : Cx} : XeIs X (fun _ => True) E0 := fun _ _ _ _ _ _ _ _ _ _ z => z.elim
end L2
namespace L2
open PySem PySem.Spec PyProof.Rows L3
end L2
namespace L2
open PySem PySem.Spec PyProof.Rows L3
def eqPl : V → Bool
 | .byt _ => false
 | .flt _ => false
 | _ => true
theorem Qgc {A : Around} {s : Shared} {x : V} {v u : Value} (hp : eqPl x = true) (r : RelV x v) (r' : RelV x u) : SeqAt.EqAt A s v u true := by
 cases x with
 | non => cases r; cases r'; exact SeqAt.EqAt.same _
 | bl b => cases r; cases r'; exact SeqAt.EqAt.same _
 | int i =>
   obtain ⟨t, rfl⟩ := r
   obtain ⟨t', rfl⟩ := r'
   have := SeqAt.EqAt.int_int (A := A) (s := s) i t i t'
   rw [beq_self_eq_true] at this
   exact this
 | str i =>
   obtain ⟨t, rfl⟩ := r
   obtain ⟨t', rfl⟩ := r'
   have := SeqAt.EqAt.str_str (A := A) (s := s) i t i t'
   rw [beq_self_eq_true] at this
   exact this
 | byt b => cases hp
 | flt b => cases hp
 | ref a => cases r; cases r'; exact SeqAt.EqAt.same _
 | ty n => cases r; cases r'; exact SeqAt.EqAt.same _
theorem Qc5 : ∀ {xs : List V} {us : List Value}, Vals xs us → ∀ j (h : j < us.length), ∃ x, xs[j]? = some x ∧ RelV x us[j] := by
 intro xs us r
 induction r with
 | nil => intro j h; cases h
 | cons r rr ih =>
   intro j h
   cases j with
   | zero => exact ⟨_, rfl, r⟩
   | succ j => exact ih j (by simpa using h)
end L2
namespace L2
open PySem PySem.Spec PyProof.Rows L3
def Cx.inC (X : Cx) (scope : Scope) (cl : List (Str × Addr)) (C : Addr) (s2 : Shared) (H2 : Hp) (fp : List Addr) (N' : List Str) (xe : Q3) : Cx :=
 { X with N := N', s₀ := s2, H₀ := H2, env := compEnvC scope cl C X.env, outer := X.stack, ex := fp, fn := fun _ => false, pn := [], xe := xe }
def tLC (wi : TI) (te : TE) (js : List Nat) : TE := fun σ H Q => wi σ H fun J H1 => ∃ W : Nat → Nat → List V → Hp → Prop, (∃ m, W 0 m [] H1) ∧ ∀ i m ys H, W i m ys H →
 (J.stop i H ∧ ∀ l, H l = none → Q (.ref l) (upd H l (.lst ys))) ∨ (J.go i H ∧ ys.length < sizeLine ∧ ∃ N : VK, (∀ y H2, N y H2 → ∃ m', m' < m ∧ W (i + 1) m' (ys ++ [y]) H2) ∧ ∀ x H', J.yld i H x H' → te (some x :: js.map (fun j => σ.getD j none)) H' N)
section
variable {X : Cx}
structure LcOk (X : Cx) (x : Str) (scope : Scope) (cl : List (Str × Addr)) (js : List Nat) : Prop where
 clos : closureFor scope X.env = pure cl
 sub : ∀ y c, cl.lookup y = some c → X.env.cells.lookup y = some c
 kind : scope.kind = .function
 cell : ∀ y ∈ scope.names, y.2 ≠ .cell
 names : ∀ y ∈ scope.names, y.2 = .local → scope.names.lookup y.1 = some .local
 loc : scope.names.lookup x = some .local
 has : ∀ y, (((relabel scope X.env).names.lookup y = some .cell) ∨ ((relabel scope X.env).names.lookup y = some .free)) → ∃ c, cl.lookup y = some c
 nd : (x :: js.map (fun j => X.N.getD j "")).Nodup
 fr : ∀ j ∈ js, ∃ y, X.N[j]? = some y ∧ X.env.kindOf y = some .cell ∧ (relabel scope X.env).names.lookup y = some .cell ∧ ∃ c, cl.lookup y = some c
theorem Inv.inC {x : Str} {scope : Scope} {cl : List (Str × Addr)} {js : List Nat} {pins : Q4} {σ : St} {H2 : Hp} {s2 : Shared} {fp : List Addr} {C D : Addr} {h1 : Heap} {xe : Q3} {oD : Obj} {m0 : Str → Option Value}
 (L : LcOk X x scope cl js) (I2 : Inv X pins σ H2 s2) (f2 : ∀ b ∈ fp, FpOk X pins H2 b) (fo : ∀ b ∈ fp, ∃ o, s2.heap.get? b = some o) (hC : s2.heap.objs.size ≤ C) (hD : s2.heap.objs.size ≤ D) (hDC : D ≠ C)
 (old : ∀ b o, s2.heap.get? b = some o → h1.get? b = some o) (hns : h1.Ns C m0) (hoD : h1.get? D = some oD) (hdD : ∀ v, oD.data ≠ .cell v) {t' : Nat} :
 Inv (X.inC scope cl C s2 H2 fp (x :: js.map (fun j => X.N.getD j "")) xe) [(D, oD)] (none :: js.map (fun j => σ.getD j none)) H2 { s2 with heap := h1, toks := t' } where
 ok := {
  mod := I2.ok.mod
  kind := L.kind
  glob := I2.ok.glob
  blt := I2.ok.blt
  above := hC
  inj := fun a b c e1 e2 => I2.ok.inj a b c (L.sub a c e1) (L.sub b c e2)
  has := fun y hy => L.has y hy
  cab := fun _ _ z => nomatch z
  hd := I2.ok.hd
  frames := I2.ok.frames
  stk := .inl rfl
  exf := fun b hb => by
   obtain ⟨o, e⟩ := fo b hb
   refine ⟨Nat.ne_of_lt (Nat.lt_of_lt_of_le (Heap.lt_size e) hC), fun y c e' => ?_⟩
   exact (f2 b hb).2.2.2.2.1 y c (L.sub y c e')
  bs := fun b o e => I2.bs b o e
  bsz := Nat.le_trans I2.ok.bsz I2.sz
  noex := fun b o e hb => by
   rcases (f2 b hb).2.2.2.1 with z | z
   ·exact I2.ok.noex b o e z
   ·exact absurd (Nat.lt_of_lt_of_le (Heap.lt_size e) (Nat.le_trans I2.ok.bsz z)) (Nat.lt_irrefl _)
  exfs := fun b hb z => by
   rcases List.mem_cons.mp (I2.stkSub b z) with e | e
   ·exact (f2 b hb).2.1 e
   ·exact (f2 b hb).2.2.1 e
  funs := I2.stack
  frf := I2.stkFree }
 os := rfl
 bare := I2.bare
 base := Un.kept old
 loc := by
  refine ⟨m0, hns, fun i y v e1 e2 e3 => ?_⟩
  cases i with
  | zero => cases e2
  | succ k =>
    have e1' : (js.map (fun j => X.N.getD j ""))[k]? = some y := e1
    have e2' : (js.map (fun j => σ.getD j none))[k]? = some (some v) := e2
    rw [List.getElem?_map] at e1' e2'
    cases hj : js[k]? with
    | none => rw [hj] at e1'; cases e1'
    | some j =>
      rw [hj] at e1' e2'
      obtain ⟨y', n1, n2, n3, c, n4⟩ := L.fr j (List.mem_of_getElem? hj)
      have e1'' : X.N.getD j "" = y := Option.some.inj e1'
      have e2'' : σ.getD j none = some v := Option.some.inj e2'
      have : y' = y := by
       rw [List.getD, n1] at e1''
       exact e1''
      subst this
      have hσ : σ[j]? = some (some v) := by
       rw [List.getD] at e2''
       cases q : σ[j]? with
       | none => rw [q] at e2''; cases e2''
       | some z => rw [q] at e2''; exact congrArg some e2''
      obtain ⟨m, hn, hl⟩ := I2.loc
      obtain ⟨u, r, l⟩ := hl j y' v n1 hσ (.inr (.inl n2))
      refine ⟨u, r, ?_⟩
      rcases l with ⟨k1, _⟩ | ⟨_, c', k2, k3⟩
      ·rw [n2] at k1; cases k1
      ·have : c' = c := by
        have := L.sub _ _ n4
        rw [k2] at this
        exact Option.some.inj this
       subst this
       obtain ⟨o, ho, hd⟩ := k3
       exact .inr ⟨.inl n3, c', n4, o, old _ _ ho, hd⟩
 cell := fun y c e => by
  obtain ⟨v, o, ho, hd⟩ := I2.cell y c (L.sub y c e)
  exact ⟨v, o, old _ _ ho, hd⟩
 free := I2.hok.fresh hC
 freeC := fun y c e => I2.freeC y c (L.sub y c e)
 pin := fun p hp => by
  have e : p = (D, oD) := by simpa [Cx.inC] using hp
  subst e
  refine ⟨hoD, I2.hok.fresh hD, hDC, fun z => ?_, hdD⟩
  rcases List.mem_cons.mp (I2.stkSub D z) with e | e
  ·exact absurd I2.lt (by rw [← e]; exact Nat.not_lt.mpr hD)
  ·exact I2.nofs hD e
 hok := I2.hok.kept old
 len := by simp [Cx.inC]
theorem Qor {elt iter : Expr} {x : Str} {px pos cpos : Pos} {scope : Scope} {cl : List (Str × Addr)} {wi : TI} {te : TE} {js : List Nat} {use : Option (Value → Sem Unit)} {Qc : Q3} {pins : Q4} {s : Shared} {σ : St} {H : Hp} {Q : VK}
 (hc : X.calm = true) (L : LcOk X x scope cl js) (hi : PI X (.Name x px) iter wi) (G : Cx → Prop)
 (he : ∀ C s2 H2 fp xe, G (X.inC scope cl C s2 H2 fp (x :: js.map (fun j => X.N.getD j "")) xe) → PE (X.inC scope cl C s2 H2 fp (x :: js.map (fun j => X.N.getD j "")) xe) elt te)
 (hG : ∀ (C D : Addr) (s2 : Shared) (H2 : Hp) (fp : List Addr), Inv X pins σ H2 s2 → (∀ b ∈ fp, FpOk X pins H2 b) → (∀ b ∈ fp, ∃ o, s2.heap.get? b = some o) → s2.heap.objs.size < C →
  G (X.inC scope cl C s2 H2 fp (x :: js.map (fun j => X.N.getD j "")) (notedBy (model X.prog X.w) X.A (compEnvC scope cl C X.env) fun e s' => compPost (model X.prog X.w) X.A X.xe use Qc (.ref D) C (.error e) s')))
 (hs : ∀ z, foldedSetIterable iter X.env z = pure z) (I : Inv X pins σ H s) (h : tLC wi te js σ H Q)
 (fin : ∀ (D C : Addr) (H4 : Hp) (s4 : Shared) (m : Str → Option Value), s4.heap.Ns C m → FpOk X pins H4 C → (∀ h', Heap.SameBut C s4.heap h' → Inv X pins σ H4 { s4 with heap := h' }) → Q (.ref D) H4 → compPost (model X.prog X.w) X.A X.xe use Qc (.ref D) C (.ok .next) s4) :
 wpAny (model X.prog X.w) X.A (comprehension (.ListComp elt [⟨.Name x px, iter, [], 0⟩] scope pos) scope X.env cpos (newList []) false (eval iter X.env) use) Qc X.xe s := by
 refine wpAny_comprehension_free (cl := cl) (use := use) rfl hs L.clos L.kind L.names ?_
 refine thn (hi pins s σ H _ I h) fun v s1 h1 => thn h1 fun itv s2 h2 => ?_
 obtain ⟨it, fp, tn, J, H2, e, I2, T, st2, f2, W, ⟨k0, w0⟩, turn⟩ := h2
 subst e
 refine wpAny_newObj_type (wpAny_newFunctionEnv L.cell (by intro y hy; simp at hy) (fun h₁ hns₁ hsb₁ => ?_) L.kind)
 dsimp only at hns₁ hsb₁ ⊢
 generalize hH2 : s2.heap.push { cls := .type "list", dict := none, data := .seq ([] : List Value).toArray } = Hp2 at hns₁ hsb₁ ⊢
 have hC : Hp2.objs.size = s2.heap.objs.size + 1 := by rw [← hH2, Heap.size_push]
 generalize hD0 : s2.heap.objs.size = D at hC ⊢
 generalize hC0 : Hp2.objs.size = C at hC hns₁ hsb₁ ⊢
 have hDC : D ≠ C := by omega
 have below : ∀ b, b < D → b ≠ C := fun b hb => by omega
 have old : ∀ b o, s2.heap.get? b = some o → h₁.get? b = some o := fun b o e =>
  hsb₁.extBut b o (below b (by rw [← hD0]; exact Heap.lt_size e)) (Heap.get?_push_of_some _ (hH2 ▸ Heap.get?_push_of_some _ e))
 have hacc : h₁.get? D = some { cls := .type "list", data := .seq ([] : List Value).toArray 0 } := by
  subst hD0
  exact hsb₁.extBut _ _ hDC (Heap.get?_push_of_some _ (hH2 ▸ Heap.get?_push_size _ rfl))
 have fo : ∀ b ∈ fp, ∃ o, s2.heap.get? b = some o := fun b hb => let ⟨o, e, _⟩ := T.obj _ _ st2 b hb; ⟨o, e⟩
 have flt : ∀ b ∈ fp, b < D := fun b hb => let ⟨o, e⟩ := fo b hb; by rw [← hD0]; exact Heap.lt_size e
 have st1 : tn 0 h₁ := T.keep _ _ _ st2 fun b hb o e => old b o e
 have gx := hG C D s2 H2 fp I2 f2 fo (by omega)
 let R := compPost (model X.prog X.w) X.A X.xe use Qc (.ref D) C
 let xe := notedBy (model X.prog X.w) X.A (compEnvC scope cl C X.env) fun e s' => R (.error e) s'
 let X' := X.inC scope cl C s2 H2 fp (x :: js.map (fun j => X.N.getD j "")) xe
 have I0 : ∀ {t' : Nat}, Inv X' [(D, _)] (none :: js.map (fun j => σ.getD j none)) H2 { s2 with heap := h₁, toks := t' } := fun {t'} =>
  Inv.inC L I2 f2 fo (by omega) (by omega) hDC old hns₁ hacc (fun v z => by cases z)
 have fpk : ∀ {pD : Q4} {H' : Hp}, (∀ p ∈ pD, p.1 = D) → (∀ b ∈ fp, H' b = none) → ∀ b ∈ fp, FpOk X' pD H' b := fun {pD H'} hp hn b hb => by
  refine ⟨hn b hb, below b (flt b hb), fun z => ?_, .inl hb, fun y c e => (f2 b hb).2.2.2.2.1 y c (L.sub y c e), fun p hp' z => ?_⟩
  ·rcases List.mem_cons.mp (I2.stkSub b z) with e | e
   ·exact (f2 b hb).2.1 e
   ·exact (f2 b hb).2.2.1 e
  ·have q := hp p (by simpa [X', Cx.inC] using hp')
   have := flt b hb
   rw [← z, q] at this
   exact Nat.lt_irrefl _ this
 have loop : ∀ s3 : Shared, (∃ k i ys H' its n σ0, Inv X' [(D, { cls := .type "list", data := .seq (its : List Value).toArray n })] (σ0 :: js.map (fun j => σ.getD j none)) H' s3 ∧ tn i s3.heap ∧ (∀ b ∈ fp, H' b = none) ∧ W i k ys H' ∧ Vals ys its ∧ ys.length ≤ sizeLine) →
  codeAny (model X.prog X.w) X.A (.compLoop (.ListComp elt [⟨.Name x px, iter, [], 0⟩] scope pos) 0 (.ref it) (.ref D) (compEnvC scope cl C X.env)) R s3 := by
  rintro s3 ⟨k, hk⟩
  refine codeAny_loop rfl (fun k s3 => ∃ i ys H' its n σ0, Inv X' [(D, { cls := .type "list", data := .seq (its : List Value).toArray n })] (σ0 :: js.map (fun j => σ.getD j none)) H' s3 ∧ tn i s3.heap ∧ (∀ b ∈ fp, H' b = none) ∧ W i k ys H' ∧ Vals ys its ∧ ys.length ≤ sizeLine) (fun k s3 hI => ?_) k hk
  obtain ⟨i, ys, H3, its, n, σ0, I3, st3, fr3, w3, vy, hz⟩ := hI
  show wpAny _ _ ((compTurn (.ListComp elt [⟨.Name x px, iter, [], 0⟩] scope pos) 0 (.ref it) (.ref D) (compEnvC scope cl C X.env)).onRaise (fun x => do noteFrame x (compEnvC scope cl C X.env); theTreesLotGoes x)) _ _ s3
  refine wpAny_noted ?_
  rw [compTurn_list1]
  have hpD : ∀ {o : Obj}, ∀ p ∈ [(D, o)], p.1 = D := fun p hp => by rw [List.mem_singleton.mp hp]
  refine wpAny_bind (wpAny_standAt (wpAny_bind ?_))
  rcases turn i k ys H3 w3 with ⟨stop, qn⟩ | ⟨go, hlen, N, hN, step⟩
  ·refine thn (T.done X' rfl rfl rfl hc i _ s3 _ H3 xe I3 (fpk hpD fr3) st3 stop) fun r s4 ⟨hr, I4⟩ => ?_
   subst hr
   refine wpAny_pure ?_
   obtain ⟨m, hn, _⟩ := I4.loc
   obtain ⟨eD, nD, _⟩ := I4.pin (D, _) (List.mem_append_right _ (List.mem_singleton.mpr rfl))
   have fC : FpOk X pins (upd H3 D (.lst ys)) C := I2.fpOk (by omega) (by
    rw [Qah (Ne.symm hDC)]
    exact I4.free)
   refine fin D C (upd H3 D (.lst ys)) s4 m hn fC (fun h' sb => ?_) (qn D nD)
   obtain ⟨hh, g, d, t, os'⟩ := s4
   obtain rfl : os' = s2.os := I4.os
   have kp : ∀ b o, b ≠ C → hh.get? b = some o → h'.get? b = some o := fun b o hb e => (sb.2 b hb).trans e
   have lt2 : ∀ b o, s2.heap.get? b = some o → b ≠ C ∧ b ≠ D := fun b o e => by
    have q : b < D := by rw [← hD0]; exact Heap.lt_size e
    exact ⟨below b q, Nat.ne_of_lt q⟩
   have B : Un (frs X.stack) fp H2 H3 s2.heap hh := I4.base
   have hDn : H3 D = none := nD
   have I5 : Inv X pins σ (upd H3 D (.lst ys)) { s2 with heap := h', gens := g, drawn := d, toks := t } := by
    refine I2.call (h' := h') (g' := g) (d' := d) (t' := t) (ch := fp) ⟨?_, ?_, ?_, ?_, ?_, ?_, ?_⟩ ?_ I4.bare ?_
    ·exact fun b o e n hb hx => kp b o (lt2 b o e).1 (B.keep b o e n hb hx)
    ·intro b o e n hb hx
     obtain ⟨sl, q⟩ := B.slot b o e n hb hx
     exact ⟨sl, kp b _ (lt2 b o e).1 q⟩
    ·intro b o e n hx
     rw [Qah (lt2 b o e).2]
     exact B.free b o e n hx
    ·intro b o e hx
     obtain ⟨o', q⟩ := B.there b o e hx
     exact ⟨o', kp b o' (lt2 b o e).1 q⟩
    ·intro b xs e
     have q := B.tups b xs e
     rw [Qah (Qai q hDn)]
     exact q
    ·intro b o u e
     have q := B.frzs b o u e
     rw [Qah (Qai q hDn)]
     exact q
    ·intro b ps e
     obtain ⟨more, q⟩ := B.tbls b ps e
     exact ⟨more, by rw [Qah (Qai q hDn)]; exact q⟩
    ·intro b u e
     by_cases hb : b = D
     ·subst hb
      rw [Qab] at e
      cases e
      exact ⟨hz, its, n, vy, kp _ _ hDC eD⟩
     ·rw [Qah hb] at e
      have nC : ∀ c o, H3 c = some o → c ≠ C := fun c o q => Qai q I4.free
      refine (I4.hok b u e).stay (fun c v hc' q => kp c v ?_ q) (fun c q => by rw [Qah (Qai q hDn)]; exact q) fun c xs q => by rw [Qah (Qai q hDn)]; exact q
      rcases hc' with z | z
      ·rw [z]; exact nC b u e
      ·exact nC c _ z
    ·intro b hb
     obtain ⟨_, f1, _, f3, f4, f5⟩ := f2 b hb
     exact ⟨f3, f1, f4, f5⟩
   exact I5
  ·refine thn (T.item X' rfl rfl rfl hc i _ s3 _ H3 xe I3 (fpk hpD fr3) st3 go) fun r s4 ⟨u, hr, h4⟩ => ?_
   subst hr
   refine wpAny_bind (thn h4 fun _ s5 ⟨xv, H5, I5, r5, y5, st5, fr5⟩ => ?_)
   have I5' := I5.pinned (fpk hpD fr5) (T.obj _ _ st5)
   refine wpAny_bind (thn (Qak (X := X') (i := 0) L.nd rfl (Or.inl (lookup_relabel_local L.loc)) (Or.inr (lookup_relabel_local L.loc)) _ s5 _ H5 xv u (fun σ6 H6 => σ6 = some xv :: js.map (fun j => σ.getD j none) ∧ H6 = H5) I5' r5 ⟨rfl, rfl⟩) fun _ s6 ⟨σ6, H6, I6, e6, e6'⟩ => ?_)
   subst e6 e6'
   refine wpAny_bind (wpAny_bind (thn (he C s2 H2 fp xe gx _ s6 _ _ _ I6 (step xv _ y5)) fun y s7 ⟨yv, H7, I7, ry, n7⟩ => ?_))
   obtain ⟨m', hm, w7⟩ := hN yv H7 n7
   have I7' := I7.unpinned
   obtain ⟨eD, nD, neC, nfs, _⟩ := I7'.pin (D, _) (List.mem_append_right _ (List.mem_singleton.mpr rfl))
   have eD' : s7.heap.get? D = some { cls := .type "list", data := .seq its.toArray n } := eD
   have lv := vy.length
   refine wpAny_bind (call_meets F.slot_list_append ⟨_, eD', rfl⟩ F.entry_list_append (F.args_list_append_2 _ _) (PySem.list_append D its.toArray n y (by rw [List.size_toArray]; omega)) ⟨eD', ?_⟩)
   refine wpAny_pure (wpAny_pure ⟨rfl, m', hm, i + 1, ys ++ [yv], H7, its ++ [y], ?_⟩)
   have q := PySem.IsL.update eD' (fun a : Array Value => a.push y)
   have I8 : Inv X' [] (some xv :: js.map (fun j => σ.getD j none)) H7 { s7 with heap := s7.heap.update D (Obj.mapSeq (fun a : Array Value => a.push y)) } :=
    (I7'.Qcp (pins' := []) (fun p hp => nomatch hp)).turned (t' := s7.toks) (it := D) (fun b o hb e => (Heap.get?_update_other s7.heap _ (Ne.symm hb)).trans e) nD neC (.inr (by show s2.heap.objs.size ≤ D; omega))
     (fun z c e w => by
      obtain ⟨v', o', ho', _⟩ := I2.cell z c (L.sub z c e)
      have := Heap.lt_size ho'
      rw [w, hD0] at this
      exact Nat.lt_irrefl _ this) (fun p hp => nomatch hp)
   have pinf : ∀ b ∈ fp, ∀ o, s5.heap.get? b = some o → s7.heap.get? b = some o ∧ H7 b = none := fun b hb o e => by
    have z := I7.pin (b, o) (List.mem_append_right _ (List.mem_append_right _ (Qbu hb e)))
    exact ⟨z.1, z.2.1⟩
   obtain ⟨n', q'⟩ : ∃ n', (s7.heap.update D (Obj.mapSeq (fun a : Array Value => a.push y))).get? D = some { cls := .type "list", data := .seq (its ++ [y]).toArray n' } := by
    rw [show (its ++ [y]).toArray = its.toArray.push y by simp]
    exact ⟨_, q⟩
   refine ⟨n', some xv, I8.Qcp fun p hp => ?_, ?_, fun b hb => ?_, w7, vy.append (.cons ry .nil), by rw [List.length_append, List.length_singleton]; omega⟩
   ·rw [List.mem_singleton.mp hp]
    exact ⟨q', nD, neC, nfs, fun v z => by cases z⟩
   ·refine T.keep _ _ _ st5 fun b hb o e => ?_
    have hb' : D ≠ b := fun z => by
     have := flt b hb
     rw [← z] at this
     exact Nat.lt_irrefl _ this
    exact (Heap.get?_update_other s7.heap _ hb').trans (pinf b hb o e).1
   ·obtain ⟨o, e, _⟩ := T.obj _ _ st5 b hb
    exact (pinf b hb o e).2
 have start : ∀ {t' : Nat}, ∃ k i ys H' its n σ0, Inv X' [(D, { cls := .type "list", data := .seq (its : List Value).toArray n })] (σ0 :: js.map (fun j => σ.getD j none)) H' { s2 with heap := h₁, toks := t' } ∧ tn i h₁ ∧ (∀ b ∈ fp, H' b = none) ∧ W i k ys H' ∧ Vals ys its ∧ ys.length ≤ sizeLine := fun {t'} =>
  ⟨k0, 0, [], H2, [], 0, none, I0, st1, fun b hb => (f2 b hb).1, w0, .nil, Nat.zero_le _⟩
 exact codeAny_compStart_list (loop _ start) (T.self X.A 0 _ _ _ st1 (loop _ start))
theorem Qe5 {elt iter : Expr} {x : Str} {px pos : Pos} {scope : Scope} {cl : List (Str × Addr)} {wi : TI} {te : TE} (js : List Nat) (hc : X.calm = true) (L : LcOk X x scope cl js) (hi : PI X (.Name x px) iter wi)
 (he : ∀ C s2 H2 fp xe, PE (X.inC scope cl C s2 H2 fp (x :: js.map (fun j => X.N.getD j "")) xe) elt te)
 (hs : ∀ z, foldedSetIterable iter X.env z = pure z := by intro _; rfl) :
 PE X (.ListComp elt [⟨.Name x px, iter, [], 0⟩] scope pos) (tLC wi te js) := by
 intro pins s σ H Q I h
 rw [eval_ListComp]
 exact Qor (use := none) hc L hi (fun _ => True) (fun C s2 H2 fp xe _ => he C s2 H2 fp xe) (fun _ _ _ _ _ _ _ _ _ => trivial) hs I h fun D C H4 s4 m hn _ I4 q => ⟨m, hn, fun h' sb => ⟨.ref D, H4, I4 h' sb, rfl, q⟩⟩
end
end L2
namespace L2
open PySem PySem.Spec PyProof.Rows L3
theorem Qcm {K : Q5} {a : Addr} {xs : List V} {T : V → Hp → VK → Prop} {R : Addr → Hp → List V → Prop} {H : Hp} (Pv : Nat → List V → Hp → Prop) (h0 : Pv 0 [] H) (hn : xs.length ≤ sizeLine) (hl : ∀ i ys H, i ≤ xs.length → Pv i ys H → SqL K H a xs ∧ ys.length = i)
 (hs : ∀ i x ys H, xs[i]? = some x → Pv i ys H → T x H fun y H2 => Pv (i + 1) (ys ++ [y]) H2) (hd : ∀ ys H, Pv xs.length ys H → ∀ l, H l = none → R l H ys) :
 ∃ W : Nat → Nat → List V → Hp → Prop, (∃ m, W 0 m [] H) ∧ ∀ i m ys H, W i m ys H →
   ((Itl K a).stop i H ∧ ∀ l, H l = none → R l H ys) ∨ ((Itl K a).go i H ∧ ys.length < sizeLine ∧ ∃ N : VK, (∀ y H2, N y H2 → ∃ m', m' < m ∧ W (i + 1) m' (ys ++ [y]) H2) ∧ ∀ x H', (Itl K a).yld i H x H' → T x H' N) := by
 refine ⟨fun i m ys H => m = xs.length - i ∧ i ≤ xs.length ∧ Pv i ys H, ⟨xs.length, by simp, Nat.zero_le _, h0⟩, ?_⟩
 rintro i m ys H ⟨rfl, hi, p⟩
 obtain ⟨q, hy⟩ := hl i ys H hi p
 by_cases hlt : i < xs.length
 ·refine .inr ⟨⟨xs, xs[i], q, by simp [hlt]⟩, by omega, fun y H2 => Pv (i + 1) (ys ++ [y]) H2, fun y H2 p' => ⟨xs.length - (i + 1), by omega, rfl, hlt, p'⟩, fun x H' ⟨e, y⟩ => ?_⟩
  subst e
  exact hs i x ys _ (y xs q) p
 ·have e : i = xs.length := by omega
  subst e
  exact .inl ⟨⟨xs, q, Nat.le_refl _⟩, hd ys H p⟩
theorem Qg5 : ∀ {ns : List Int} {its : List Value}, Vals (ns.map V.int) its → IntsAre its ns
 | [], _, .nil => .nil
 | n :: r, _, .cons ⟨t, e⟩ rr => by
   subst e
   exact .cons n t (Qg5 rr)
theorem Qie : ∀ {bs : List Bool} {its : List Value}, Vals (bs.map V.bl) its → LSm.BoolsAre its bs
 | [], _, .nil => .nil
 | n :: r, _, .cons e rr => by
   cases e
   exact .cons n (Qie rr)
section
variable {X : Cx}
theorem Qid {k : Nat} (hr : Room true k X.A) : CallR X (.builtin "sum") (fun xs H Q => ∃ (p : Addr) (ns : List Int), xs = [.ref p] ∧ SqL X.K H p (ns.map V.int) ∧ Q (.int ns.sum) H) := by
 intro pins s σ H xs us Q I r h
 obtain ⟨p, ns, rfl, hq, q⟩ := h
 obtain ⟨u, rfl, rx⟩ := vals1 r
 cases rx
 obtain ⟨its, r', pl, hz⟩ := I.list hq
 have hi := Qg5 r'
 obtain ⟨xs, hx⟩ := hi.allInts.items
 have hl' : s.heap.IsList p (intItems xs) := hx ▸ pl.isList
 refine sum_intListG (hr.hd rfl) hl' fun h' tk t' hk => ?_
 have e1 : ns = xs.toList.map (·.1) := by
  rw [← nums_intItems, ← hx]
  exact (show numsOf its.toArray.toList = ns from hi.numsOf).symm
 have e2 : preSum (numAt xs) xs.size = ns.sum := by
  rw [preSum_eq, List.take_of_length_le (by simp), e1]
 rw [e2]
 exact ⟨.int ns.sum, H, I.kept hk, ⟨t', rfl⟩, q⟩
end
theorem Qba {env : Env} {k : NameKind} : ∀ {names : List (Str × NameKind)} {y : Str}, (∀ z ∈ names, z.2 ≠ .free) → (∀ z ∈ names, z.2 ≠ k) → (names.map fun (n, k) => if (k == NameKind.free && env.scope.kind == .function && env.kindOf n == some .cell) then (n, NameKind.cell) else (n, k)).lookup y = some k → False
 | [], _, _, _, h => by simp at h
 | (n, k') :: r, y, hf, hk, h => by
   have e : (k' == NameKind.free) = false := by simpa using hf (n, k') List.mem_cons_self
   rw [List.map_cons] at h
   simp only [e, Bool.false_and, Bool.false_eq_true, if_false] at h
   rw [List.lookup_cons] at h
   cases hx : y == n with
   | true => rw [hx] at h; exact hk (n, k') List.mem_cons_self (Option.some.inj h)
   | false => rw [hx] at h; exact Qba (fun z hz => hf z (List.mem_cons_of_mem _ hz)) (fun z hz => hk z (List.mem_cons_of_mem _ hz)) h
theorem LcOk.plain {X : Cx} {x : Str} {scope : Scope} (hfree : ∀ y ∈ scope.names, y.2 ≠ .free) (hcell : ∀ y ∈ scope.names, y.2 ≠ .cell) (hkind : scope.kind = .function) (hnames : ∀ y ∈ scope.names, y.2 = .local → scope.names.lookup y.1 = some .local)
 (hloc : scope.names.lookup x = some .local) : LcOk X x scope [] [] where
 clos := closureFor_none hfree
 sub := fun _ _ e => nomatch e
 kind := hkind
 cell := hcell
 names := hnames
 loc := hloc
 has := fun y h => by
  rcases h with h | h
  ·exact (Qba hfree hcell h).elim
  ·exact (Qba hfree hfree h).elim
 nd := by simp
 fr := fun _ h => nomatch h
theorem Qnu : bootBuiltins "sum" = some (.builtin "sum") := by decide+kernel
theorem Qgh : bootBuiltins "sorted" = some (.builtin "sorted") := by decide+kernel
end L2
namespace L2
open PySem PySem.Spec PyProof.Rows L3
theorem Qbr {env : Env} {k : NameKind} (hk : k = .cell ∨ k = .free) : ∀ {names : List (Str × NameKind)} {y : Str}, (∀ z ∈ names, z.2 ≠ .cell) → (names.map fun (n, k) => if (k == NameKind.free && env.scope.kind == .function && env.kindOf n == some .cell) then (n, NameKind.cell) else (n, k)).lookup y = some k → ∃ z ∈ names, z.1 = y ∧ z.2 = .free
 | [], _, _, h => by simp at h
 | (n, k') :: r, y, hc, h => by
   rw [List.map_cons] at h
   have fst : (if (k' == NameKind.free && env.scope.kind == .function && env.kindOf n == some .cell) = true then (n, NameKind.cell) else (n, k')).1 = n := by split <;> rfl
   cases hx : y == n with
   | true =>
     have e : y = n := eq_of_beq hx
     subst e
     by_cases hf : k' = .free
     ·exact ⟨(y, k'), List.mem_cons_self, rfl, hf⟩
     ·exfalso
      have e : (k' == NameKind.free) = false := by simpa using hf
      simp only [e, Bool.false_and, Bool.false_eq_true, if_false] at h
      rw [List.lookup_cons] at h
      rw [hx] at h
      have h' : k' = k := Option.some.inj h
      rcases hk with z | z
      ·exact hc (y, k') List.mem_cons_self (h'.trans z)
      ·exact hf (h'.trans z)
   | false =>
     rw [List.lookup_cons] at h
     rw [fst, hx] at h
     obtain ⟨z, m, q⟩ := Qbr hk (fun z hz => hc z (List.mem_cons_of_mem _ hz)) h
     exact ⟨z, List.mem_cons_of_mem _ m, q⟩
theorem Qer {cl : List (Str × Addr)} {y : Str} (h : y ∈ cl.map (·.1)) : ∃ c, cl.lookup y = some c := by
 induction cl with
 | nil => cases h
 | cons p r ih =>
   rw [List.lookup_cons]
   cases hx : y == p.1 with
   | true => exact ⟨_, rfl⟩
   | false =>
     rcases List.mem_cons.mp h with e | e
     ·rw [e, beq_self_eq_true] at hx; cases hx
     ·exact ih e
theorem Qiq {cl : List (Str × Addr)} {y : Str} {c : Addr} (h : cl.lookup y = some c) : (y, c) ∈ cl := by
 induction cl with
 | nil => cases h
 | cons p r ih =>
   rw [List.lookup_cons] at h
   cases hx : y == p.1 with
   | true =>
     rw [hx] at h
     have e := eq_of_beq hx
     have e2 : p.2 = c := Option.some.inj h
     rw [show p = (y, c) by rw [e, ← e2]]
     exact List.mem_cons_self
   | false => rw [hx] at h; exact List.mem_cons_of_mem _ (ih h)
theorem LcOk.free {X : Cx} {x : Str} {scope : Scope} {cl : List (Str × Addr)} {js : List Nat} (fns : List Str) (hclos : closureFor scope X.env = pure cl) (hf : cl.map (·.1) = fns) (hsub : ∀ p ∈ cl, X.env.cells.lookup p.1 = some p.2) (hcell : ∀ y ∈ scope.names, y.2 ≠ .cell) (hkind : scope.kind = .function) (hnames : ∀ y ∈ scope.names, y.2 = .local → scope.names.lookup y.1 = some .local)
 (hloc : scope.names.lookup x = some .local) (hcov : ∀ z ∈ scope.names, z.2 = .free → z.1 ∈ fns) (hnd : (x :: js.map (fun j => X.N.getD j "")).Nodup)
 (hfr : ∀ j ∈ js, ∃ y, X.N[j]? = some y ∧ X.env.kindOf y = some .cell ∧ (relabel scope X.env).names.lookup y = some .cell ∧ y ∈ fns) : LcOk X x scope cl js where
 clos := hclos
 sub := fun y c e => hsub (y, c) (Qiq e)
 kind := hkind
 cell := hcell
 names := hnames
 loc := hloc
 has := fun y h => by
  have : ∃ z ∈ scope.names, z.1 = y ∧ z.2 = .free := by
   rcases h with h | h
   ·exact Qbr (.inl rfl) hcell h
   ·exact Qbr (.inr rfl) hcell h
  obtain ⟨z, m, rfl, e⟩ := this
  exact Qer (by rw [hf]; exact hcov z m e)
 nd := hnd
 fr := fun j hj => by
  obtain ⟨y, a, b, c, d⟩ := hfr j hj
  exact ⟨y, a, b, c, Qer (by rw [hf]; exact d)⟩
end L2
namespace L2
open PySem PySem.Spec PyProof.Rows L3
def tLCIf (wi : TI) (tt : TT) (te : TE) (js : List Nat) : TE := fun σ H Q => wi σ H fun J H1 => ∃ W : Nat → Nat → List V → Hp → Prop, (∃ m, W 0 m [] H1) ∧ ∀ i m ys H, W i m ys H →
 (J.stop i H ∧ ∀ l, H l = none → Q (.ref l) (upd H l (.lst ys))) ∨ (J.go i H ∧ ys.length < sizeLine ∧ ∃ (N : VK) (S : Hp → Prop), (∀ y H2, N y H2 → ∃ m', m' < m ∧ W (i + 1) m' (ys ++ [y]) H2) ∧ (∀ H2, S H2 → ∃ m', m' < m ∧ W (i + 1) m' ys H2) ∧
  ∀ x H', J.yld i H x H' → tt (some x :: js.map (fun j => σ.getD j none)) H' fun b H2 => if b = true then te (some x :: js.map (fun j => σ.getD j none)) H2 N else S H2)
section
variable {X : Cx}
theorem Qf7 {elt iter c : Expr} {x : Str} {px pos cpos : Pos} {scope : Scope} {cl : List (Str × Addr)} {wi : TI} {te : TE} {tt : TT} {js : List Nat} {use : Option (Value → Sem Unit)} {Qc : Q3} {pins : Q4} {s : Shared} {σ : St} {H : Hp} {Q : VK}
 (hc : X.calm = true) (L : LcOk X x scope cl js) (hi : PI X (.Name x px) iter wi)
 (he : ∀ C s2 H2 fp xe, PE (X.inC scope cl C s2 H2 fp (x :: js.map (fun j => X.N.getD j "")) xe) elt te)
 (ht : ∀ C s2 H2 fp xe, PT (X.inC scope cl C s2 H2 fp (x :: js.map (fun j => X.N.getD j "")) xe) c tt)
 (hs : ∀ z, foldedSetIterable iter X.env z = pure z) (I : Inv X pins σ H s) (h : tLCIf wi tt te js σ H Q)
 (fin : ∀ (D C : Addr) (H4 : Hp) (s4 : Shared) (m : Str → Option Value), s4.heap.Ns C m → FpOk X pins H4 C → (∀ h', Heap.SameBut C s4.heap h' → Inv X pins σ H4 { s4 with heap := h' }) → Q (.ref D) H4 → compPost (model X.prog X.w) X.A X.xe use Qc (.ref D) C (.ok .next) s4) :
 wpAny (model X.prog X.w) X.A (comprehension (.ListComp elt [⟨.Name x px, iter, [c], 0⟩] scope pos) scope X.env cpos (newList []) false (eval iter X.env) use) Qc X.xe s := by
 refine wpAny_comprehension_free (cl := cl) (use := use) rfl hs L.clos L.kind L.names ?_
 refine thn (hi pins s σ H _ I h) fun v s1 h1 => thn h1 fun itv s2 h2 => ?_
 obtain ⟨it, fp, tn, J, H2, e, I2, T, st2, f2, W, ⟨k0, w0⟩, turn⟩ := h2
 subst e
 refine wpAny_newObj_type (wpAny_newFunctionEnv L.cell (by intro y hy; simp at hy) (fun h₁ hns₁ hsb₁ => ?_) L.kind)
 dsimp only at hns₁ hsb₁ ⊢
 generalize hH2 : s2.heap.push { cls := .type "list", dict := none, data := .seq ([] : List Value).toArray } = Hp2 at hns₁ hsb₁ ⊢
 have hC : Hp2.objs.size = s2.heap.objs.size + 1 := by rw [← hH2, Heap.size_push]
 generalize hD0 : s2.heap.objs.size = D at hC ⊢
 generalize hC0 : Hp2.objs.size = C at hC hns₁ hsb₁ ⊢
 have hDC : D ≠ C := by omega
 have below : ∀ b, b < D → b ≠ C := fun b hb => by omega
 have old : ∀ b o, s2.heap.get? b = some o → h₁.get? b = some o := fun b o e =>
  hsb₁.extBut b o (below b (by rw [← hD0]; exact Heap.lt_size e)) (Heap.get?_push_of_some _ (hH2 ▸ Heap.get?_push_of_some _ e))
 have hacc : h₁.get? D = some { cls := .type "list", data := .seq ([] : List Value).toArray 0 } := by
  subst hD0
  exact hsb₁.extBut _ _ hDC (Heap.get?_push_of_some _ (hH2 ▸ Heap.get?_push_size _ rfl))
 have fo : ∀ b ∈ fp, ∃ o, s2.heap.get? b = some o := fun b hb => let ⟨o, e, _⟩ := T.obj _ _ st2 b hb; ⟨o, e⟩
 have flt : ∀ b ∈ fp, b < D := fun b hb => let ⟨o, e⟩ := fo b hb; by rw [← hD0]; exact Heap.lt_size e
 have st1 : tn 0 h₁ := T.keep _ _ _ st2 fun b hb o e => old b o e
 let R := compPost (model X.prog X.w) X.A X.xe use Qc (.ref D) C
 let xe := notedBy (model X.prog X.w) X.A (compEnvC scope cl C X.env) fun e s' => R (.error e) s'
 let X' := X.inC scope cl C s2 H2 fp (x :: js.map (fun j => X.N.getD j "")) xe
 have I0 : ∀ {t' : Nat}, Inv X' [(D, _)] (none :: js.map (fun j => σ.getD j none)) H2 { s2 with heap := h₁, toks := t' } := fun {t'} =>
  Inv.inC L I2 f2 fo (by omega) (by omega) hDC old hns₁ hacc (fun v z => by cases z)
 have fpk : ∀ {pD : Q4} {H' : Hp}, (∀ p ∈ pD, p.1 = D) → (∀ b ∈ fp, H' b = none) → ∀ b ∈ fp, FpOk X' pD H' b := fun {pD H'} hp hn b hb => by
  refine ⟨hn b hb, below b (flt b hb), fun z => ?_, .inl hb, fun y c e => (f2 b hb).2.2.2.2.1 y c (L.sub y c e), fun p hp' z => ?_⟩
  ·rcases List.mem_cons.mp (I2.stkSub b z) with e | e
   ·exact (f2 b hb).2.1 e
   ·exact (f2 b hb).2.2.1 e
  ·have q := hp p (by simpa [X', Cx.inC] using hp')
   have := flt b hb
   rw [← z, q] at this
   exact Nat.lt_irrefl _ this
 have loop : ∀ s3 : Shared, (∃ k i ys H' its n σ0, Inv X' [(D, { cls := .type "list", data := .seq (its : List Value).toArray n })] (σ0 :: js.map (fun j => σ.getD j none)) H' s3 ∧ tn i s3.heap ∧ (∀ b ∈ fp, H' b = none) ∧ W i k ys H' ∧ Vals ys its ∧ ys.length ≤ sizeLine) →
  codeAny (model X.prog X.w) X.A (.compLoop (.ListComp elt [⟨.Name x px, iter, [c], 0⟩] scope pos) 0 (.ref it) (.ref D) (compEnvC scope cl C X.env)) R s3 := by
  rintro s3 ⟨k, hk⟩
  refine codeAny_loop rfl (fun k s3 => ∃ i ys H' its n σ0, Inv X' [(D, { cls := .type "list", data := .seq (its : List Value).toArray n })] (σ0 :: js.map (fun j => σ.getD j none)) H' s3 ∧ tn i s3.heap ∧ (∀ b ∈ fp, H' b = none) ∧ W i k ys H' ∧ Vals ys its ∧ ys.length ≤ sizeLine) (fun k s3 hI => ?_) k hk
  obtain ⟨i, ys, H3, its, n, σ0, I3, st3, fr3, w3, vy, hz⟩ := hI
  show wpAny _ _ ((compTurn (.ListComp elt [⟨.Name x px, iter, [c], 0⟩] scope pos) 0 (.ref it) (.ref D) (compEnvC scope cl C X.env)).onRaise (fun x => do noteFrame x (compEnvC scope cl C X.env); theTreesLotGoes x)) _ _ s3
  refine wpAny_noted ?_
  rw [compTurn_list]
  have hpD : ∀ {o : Obj}, ∀ p ∈ [(D, o)], p.1 = D := fun p hp => by rw [List.mem_singleton.mp hp]
  refine wpAny_bind (wpAny_standAt (wpAny_bind ?_))
  rcases turn i k ys H3 w3 with ⟨stop, qn⟩ | ⟨go, hlen, N, S, hN, hS, step⟩
  ·refine thn (T.done X' rfl rfl rfl hc i _ s3 _ H3 xe I3 (fpk hpD fr3) st3 stop) fun r s4 ⟨hr, I4⟩ => ?_
   subst hr
   refine wpAny_pure ?_
   obtain ⟨m, hn, _⟩ := I4.loc
   obtain ⟨eD, nD, _⟩ := I4.pin (D, _) (List.mem_append_right _ (List.mem_singleton.mpr rfl))
   have fC : FpOk X pins (upd H3 D (.lst ys)) C := I2.fpOk (by omega) (by
    rw [Qah (Ne.symm hDC)]
    exact I4.free)
   refine fin D C (upd H3 D (.lst ys)) s4 m hn fC (fun h' sb => ?_) (qn D nD)
   obtain ⟨hh, g, d, t, os'⟩ := s4
   obtain rfl : os' = s2.os := I4.os
   have kp : ∀ b o, b ≠ C → hh.get? b = some o → h'.get? b = some o := fun b o hb e => (sb.2 b hb).trans e
   have lt2 : ∀ b o, s2.heap.get? b = some o → b ≠ C ∧ b ≠ D := fun b o e => by
    have q : b < D := by rw [← hD0]; exact Heap.lt_size e
    exact ⟨below b q, Nat.ne_of_lt q⟩
   have B : Un (frs X.stack) fp H2 H3 s2.heap hh := I4.base
   have hDn : H3 D = none := nD
   have I5 : Inv X pins σ (upd H3 D (.lst ys)) { s2 with heap := h', gens := g, drawn := d, toks := t } := by
    refine I2.call (h' := h') (g' := g) (d' := d) (t' := t) (ch := fp) ⟨?_, ?_, ?_, ?_, ?_, ?_, ?_⟩ ?_ I4.bare ?_
    ·exact fun b o e n hb hx => kp b o (lt2 b o e).1 (B.keep b o e n hb hx)
    ·intro b o e n hb hx
     obtain ⟨sl, q⟩ := B.slot b o e n hb hx
     exact ⟨sl, kp b _ (lt2 b o e).1 q⟩
    ·intro b o e n hx
     rw [Qah (lt2 b o e).2]
     exact B.free b o e n hx
    ·intro b o e hx
     obtain ⟨o', q⟩ := B.there b o e hx
     exact ⟨o', kp b o' (lt2 b o e).1 q⟩
    ·intro b xs e
     have q := B.tups b xs e
     rw [Qah (Qai q hDn)]
     exact q
    ·intro b o u e
     have q := B.frzs b o u e
     rw [Qah (Qai q hDn)]
     exact q
    ·intro b ps e
     obtain ⟨more, q⟩ := B.tbls b ps e
     exact ⟨more, by rw [Qah (Qai q hDn)]; exact q⟩
    ·intro b u e
     by_cases hb : b = D
     ·subst hb
      rw [Qab] at e
      cases e
      exact ⟨hz, its, n, vy, kp _ _ hDC eD⟩
     ·rw [Qah hb] at e
      have nC : ∀ c o, H3 c = some o → c ≠ C := fun c o q => Qai q I4.free
      refine (I4.hok b u e).stay (fun c v hc' q => kp c v ?_ q) (fun c q => by rw [Qah (Qai q hDn)]; exact q) fun c xs q => by rw [Qah (Qai q hDn)]; exact q
      rcases hc' with z | z
      ·rw [z]; exact nC b u e
      ·exact nC c _ z
    ·intro b hb
     obtain ⟨_, f1, _, f3, f4, f5⟩ := f2 b hb
     exact ⟨f3, f1, f4, f5⟩
   exact I5
  ·refine thn (T.item X' rfl rfl rfl hc i _ s3 _ H3 xe I3 (fpk hpD fr3) st3 go) fun r s4 ⟨u, hr, h4⟩ => ?_
   subst hr
   refine wpAny_bind (thn h4 fun _ s5 ⟨xv, H5, I5, r5, y5, st5, fr5⟩ => ?_)
   have I5' := I5.pinned (fpk hpD fr5) (T.obj _ _ st5)
   refine wpAny_bind (thn (Qak (X := X') (i := 0) L.nd rfl (Or.inl (lookup_relabel_local L.loc)) (Or.inr (lookup_relabel_local L.loc)) _ s5 _ H5 xv u (fun σ6 H6 => σ6 = some xv :: js.map (fun j => σ.getD j none) ∧ H6 = H5) I5' r5 ⟨rfl, rfl⟩) fun _ s6 ⟨σ6, H6, I6, e6, e6'⟩ => ?_)
   subst e6 e6'
   refine wpAny_bind (thn (wpAny_tests_one (ht C s2 H2 fp xe _ s6 _ _ _ I6 (step xv _ y5))) fun ok s6b ⟨H6b, I6b, q6b⟩ => ?_)
   cases ok with
   | false =>
     have q6b : S H6b := q6b
     obtain ⟨m', hm, w7⟩ := hS H6b q6b
     have pinf : ∀ b ∈ fp, ∀ o, s5.heap.get? b = some o → s6b.heap.get? b = some o ∧ H6b b = none := fun b hb o e => by
      have z := I6b.pin (b, o) (List.mem_append_right _ (List.mem_append_right _ (Qbu hb e)))
      exact ⟨z.1, z.2.1⟩
     refine wpAny_pure ⟨rfl, m', hm, i + 1, ys, H6b, its, n, some xv, I6b.unpinned, T.keep _ _ _ st5 fun b hb o e => (pinf b hb o e).1, fun b hb => ?_, w7, vy, hz⟩
     obtain ⟨o, e, _⟩ := T.obj _ _ st5 b hb
     exact (pinf b hb o e).2
   | true =>
     have q6b : te (some xv :: js.map (fun j => σ.getD j none)) H6b N := q6b
     refine wpAny_bind (wpAny_bind (thn (he C s2 H2 fp xe _ s6b _ _ _ I6b q6b) fun y s7 ⟨yv, H7, I7, ry, n7⟩ => ?_))
     obtain ⟨m', hm, w7⟩ := hN yv H7 n7
     have I7' := I7.unpinned
     obtain ⟨eD, nD, neC, nfs, _⟩ := I7'.pin (D, _) (List.mem_append_right _ (List.mem_singleton.mpr rfl))
     have eD' : s7.heap.get? D = some { cls := .type "list", data := .seq its.toArray n } := eD
     have lv := vy.length
     refine wpAny_bind (call_meets F.slot_list_append ⟨_, eD', rfl⟩ F.entry_list_append (F.args_list_append_2 _ _) (PySem.list_append D its.toArray n y (by rw [List.size_toArray]; omega)) ⟨eD', ?_⟩)
     refine wpAny_pure (wpAny_pure ⟨rfl, m', hm, i + 1, ys ++ [yv], H7, its ++ [y], ?_⟩)
     have q := PySem.IsL.update eD' (fun a : Array Value => a.push y)
     have I8 : Inv X' [] (some xv :: js.map (fun j => σ.getD j none)) H7 { s7 with heap := s7.heap.update D (Obj.mapSeq (fun a : Array Value => a.push y)) } :=
      (I7'.Qcp (pins' := []) (fun p hp => nomatch hp)).turned (t' := s7.toks) (it := D) (fun b o hb e => (Heap.get?_update_other s7.heap _ (Ne.symm hb)).trans e) nD neC (.inr (by show s2.heap.objs.size ≤ D; omega))
       (fun z c e w => by
        obtain ⟨v', o', ho', _⟩ := I2.cell z c (L.sub z c e)
        have := Heap.lt_size ho'
        rw [w, hD0] at this
        exact Nat.lt_irrefl _ this) (fun p hp => nomatch hp)
     have pinf : ∀ b ∈ fp, ∀ o, s5.heap.get? b = some o → s7.heap.get? b = some o ∧ H7 b = none := fun b hb o e => by
      have z := I7.pin (b, o) (List.mem_append_right _ (List.mem_append_right _ (Qbu hb e)))
      exact ⟨z.1, z.2.1⟩
     obtain ⟨n', q'⟩ : ∃ n', (s7.heap.update D (Obj.mapSeq (fun a : Array Value => a.push y))).get? D = some { cls := .type "list", data := .seq (its ++ [y]).toArray n' } := by
      rw [show (its ++ [y]).toArray = its.toArray.push y by simp]
      exact ⟨_, q⟩
     refine ⟨n', some xv, I8.Qcp fun p hp => ?_, ?_, fun b hb => ?_, w7, vy.append (.cons ry .nil), by rw [List.length_append, List.length_singleton]; omega⟩
     ·rw [List.mem_singleton.mp hp]
      exact ⟨q', nD, neC, nfs, fun v z => by cases z⟩
     ·refine T.keep _ _ _ st5 fun b hb o e => ?_
      have hb' : D ≠ b := fun z => by
       have := flt b hb
       rw [← z] at this
       exact Nat.lt_irrefl _ this
      exact (Heap.get?_update_other s7.heap _ hb').trans (pinf b hb o e).1
     ·obtain ⟨o, e, _⟩ := T.obj _ _ st5 b hb
      exact (pinf b hb o e).2
 have start : ∀ {t' : Nat}, ∃ k i ys H' its n σ0, Inv X' [(D, { cls := .type "list", data := .seq (its : List Value).toArray n })] (σ0 :: js.map (fun j => σ.getD j none)) H' { s2 with heap := h₁, toks := t' } ∧ tn i h₁ ∧ (∀ b ∈ fp, H' b = none) ∧ W i k ys H' ∧ Vals ys its ∧ ys.length ≤ sizeLine := fun {t'} =>
  ⟨k0, 0, [], H2, [], 0, none, I0, st1, fun b hb => (f2 b hb).1, w0, .nil, Nat.zero_le _⟩
 exact codeAny_compStart_list (loop _ start) (T.self X.A 0 _ _ _ st1 (loop _ start))
theorem Qe4 {elt iter c : Expr} {x : Str} {px pos : Pos} {scope : Scope} {cl : List (Str × Addr)} {wi : TI} {te : TE} {tt : TT} (js : List Nat) (hc : X.calm = true) (L : LcOk X x scope cl js) (hi : PI X (.Name x px) iter wi)
 (ht : ∀ C s2 H2 fp xe, PT (X.inC scope cl C s2 H2 fp (x :: js.map (fun j => X.N.getD j "")) xe) c tt)
 (he : ∀ C s2 H2 fp xe, PE (X.inC scope cl C s2 H2 fp (x :: js.map (fun j => X.N.getD j "")) xe) elt te)
 (hs : ∀ z, foldedSetIterable iter X.env z = pure z := by intro _; rfl) :
 PE X (.ListComp elt [⟨.Name x px, iter, [c], 0⟩] scope pos) (tLCIf wi tt te js) := by
 intro pins s σ H Q I h
 rw [eval_ListComp]
 exact Qf7 (use := none) hc L hi he ht hs I h fun D C H4 s4 m hn _ I4 q => ⟨m, hn, fun h' sb => ⟨.ref D, H4, I4 h' sb, rfl, q⟩⟩
end
end L2
namespace L2
open PySem PySem.Spec PyProof.Rows L3
def RawD (h : Heap) (d : Addr) (es : Array DictEntry) (ep : Nat) : Prop := ∃ o, h.get? d = some o ∧ o.ExactDict ∧ o.data = .dict es ep
section
variable {prog : Program} {w : World} {A : Around} {E : Q3} {s : Shared}
theorem RawD.typeIs {d : Addr} {es : Array DictEntry} {ep : Nat} (x : RawD s.heap d es ep) : s.TypeIs (.ref d) "dict" := by
 obtain ⟨o, ho, hc, _⟩ := x
 exact ⟨o, ho, hc.1⟩
theorem Qhn {d : Addr} {es : Array DictEntry} {ep : Nat} {Q : Q3} (hd : (d == sysModules) = false) (hm : RawD s.heap d es ep)
 (hQ : Q (.ref s.heap.objs.size) { s with heap := s.heap.push { cls := .type "dict_keyiterator", data := .fields #[.ref d, .int 0 0, .int es.size 0, .int ep 0] } }) :
 wpAny (model prog w) A (pyIter (.ref d)) Q E s := by
 have hT := hm.typeIs
 obtain ⟨o, ho, hc, hdat⟩ := hm
 refine wpAny_pyIter_slot hT F.slot_dict_iter (wpAny_call_entry F.slot_dict_iter hT F.entry_dict_iter ?_ (F.args_dict_iter_1 _))
 unfold Builtin.«dict.__iter__» Builtin.Dict.dictSlotNone
 refine wpAny_bind (wpAny_bind (wpAny_notOrdered_dict hT ?_))
 show wpAny _ _ (pure (Value.ref d)) _ _ s
 refine wpAny_pure ?_
 show wpAny _ _ (Builtin.Dict.showsAll d >>= _) _ _ s
 unfold Builtin.Dict.showsAll
 rw [if_neg (by rw [hd]; exact Bool.false_ne_true)]
 refine wpAny_bind (wpAny_pure (wpAny_bind (wpAny_dictEntries ho hdat (wpAny_bind (wpAny_dictEpoch ho hdat ?_)))))
 refine wpAny_bind (wpAny_newObj_type (wpAny_pure ⟨_, rfl, "dict_keyiterator", _, ⟨_, Heap.get?_push_size _ rfl, rfl⟩, F.slot_dict_keyiterator_next.lookup, ?_⟩))
 simpa [rawInt] using hQ
theorem Qdm {it d : Addr} {i ep : Nat} {es : Array DictEntry} {Q : Option Value → Shared → Prop} (hh : A.handled = none) (hit : s.heap.IsKeyIter it d i es.size ep) (hm : RawD s.heap d es ep)
 (h1 : ∀ (h : i < es.size) h', h'.IsKeyIter it d (i + 1) es.size ep → Heap.SameBut it s.heap h' → Q (some es[i].key) { s with heap := h' })
 (h2 : es.size ≤ i → ∀ h', Heap.ExtBut it s.heap h' → Q none { s with heap := h' }) : wpAny (model prog w) A (pyNext (.ref it)) Q E s := by
 obtain ⟨o, ho, hc, hd⟩ := id hit
 obtain ⟨od, hod, hcd, hdd⟩ := id hm
 unfold pyNext
 refine wpAny_bind (wpAny_attempt (wpAny_callSpecial?_slot (name := Str.ofString "__next__") hit.typeIs F.slot_dict_keyiterator_next
  (wpAny_call_entry F.slot_dict_keyiterator_next hit.typeIs F.entry_dict_keyiterator_next ?_ (F.args_dict_keyiterator_next_1 _))))
 refine wpAny_bind (wpAny_pure (wpAny_bind (wpAny_bind ?_)))
 first | refine wpAny_bind (wpAny_typeNameOfWhole_keyiter hit.typeIs (wpAny_pure ?_)) | refine wpAny_bind (wpAny_typeNameOf_keyiter hit.typeIs (wpAny_pure ?_))
 refine wpAny_bind (wpAny_fieldsOf ho hd ?_)
 have hown : Builtin.Dict_items.ownsTuple "dict_keyiterator" = false := by decide
 simp only [hown, Bool.false_eq_true, if_false]
 show wpAny _ _ (if (Value.ref d == Value.none) = true then _ else _) _ _ s
 rw [if_neg (show ¬ ((Value.ref d == Value.none) = true) from Bool.false_ne_true)]
 refine wpAny_bind (wpAny_pure (wpAny_bind (wpAny_dictEntries hod hdd ?_)))
 rw [if_neg (by simp)]
 refine wpAny_bind (wpAny_pure (wpAny_bind (wpAny_dictEpoch hod hdd ?_)))
 rw [if_neg (by simp)]
 refine wpAny_pure ?_
 rcases Nat.lt_or_ge i es.size with hlt | hge
 ·simp only [show ¬ ((i : Int) < 0) from by omega, if_false, Int.toNat_natCast, Array.getElem?_eq_getElem hlt]
  refine wpAny_bind ?_
  first | refine wpAny_bind (wpAny_typeNameOfWhole_keyiter hit.typeIs (wpAny_pure ?_)) | refine wpAny_bind (wpAny_typeNameOf_keyiter hit.typeIs (wpAny_pure ?_))
  refine wpAny_bind (wpAny_isOneOf_keyiter hit.typeIs ?_)
  show wpAny _ _ (setField (.ref it) 1 (rawInt ((i : Int) + 1)) >>= _) _ _ s
  refine wpAny_bind (wpAny_setField ho hd (by simp) ?_)
  have hit' : (s.heap.update it (Obj.mapFields (·.setIfInBounds 1 (rawInt ((i : Int) + 1))))).IsKeyIter it d (i + 1) es.size ep :=
   ⟨_, Heap.get?_update_self _ ho (Obj.isFreed_of_fields (Obj.data_mapFields hd _)), (Obj.cls_mapFields ..).trans hc, by rw [Obj.data_mapFields hd]; simp [rawInt]⟩
  refine wpAny_bind (wpAny_holding ?_)
  refine wpAny_bind (wpAny_isOneOf_keyiter (s := { s with heap := s.heap.update it (Obj.mapFields (·.setIfInBounds 1 (rawInt ((i : Int) + 1)))) }) hit'.typeIs ?_)
  show wpAny _ _ (pure es[i].key) _ _ _
  exact wpAny_pure (wpAny_pure ⟨_, rfl, wpAny_pure (h1 hlt _ hit' (Heap.SameBut.update ..))⟩)
 ·simp only [show ¬ ((i : Int) < 0) from by omega, if_false, Int.toNat_natCast, Array.getElem?_eq_none hge]
  refine wpAny_bind ?_
  first | refine wpAny_bind (wpAny_typeNameOfWhole_keyiter hit.typeIs (wpAny_pure ?_)) | refine wpAny_bind (wpAny_typeNameOf_keyiter hit.typeIs (wpAny_pure ?_))
  show wpAny _ _ (setField (.ref it) 0 .none >>= _) _ _ s
  refine wpAny_bind (wpAny_setField ho hd (by simp) ?_)
  show wpAny _ _ (newExc (.type "StopIteration") [] >>= _) _ _ _
  refine wpAny_bind ?_
  simp only [newExc, newTuple]
  refine wpAny_bind (wpAny_newObj_type ?_ (by size_fits))
  refine wpAny_bind (m := firstArgMember _ _) (wpAny_of_eq (a := Value.none) (by first | rfl | (simp only [firstArgMember]; rfl)) ?_)
  refine wpAny_newObj_type ?_ (by size_fits)
  simp only [raiseNew]
  refine wpAny_bind (wpAny_handled ?_)
  rw [show A.in1.handled = none from hh]
  refine wpAny_bind (wpAny_pure (wpAny_throw ?_))
  refine wpAny_bind (wpAny_isInstance (T := "StopIteration") (b := true) ⟨_, Heap.get?_push_size _ rfl, rfl⟩ isSubtype_stop ?_)
  exact wpAny_pure (h2 hge _ (((Heap.SameBut.update ..).extBut.push _).push _))
end
section
variable {X : Cx}
theorem Qmt {k : Nat} (hr : Room true k X.A) : CallR X (.builtin "max") (fun xs H Q => ∃ (p : Addr) (ns : List Int), xs = [.ref p] ∧ SqL X.K H p (ns.map V.int) ∧ 0 < ns.length ∧ ∀ m, m ∈ ns → (∀ a ∈ ns, a ≤ m) → Q (.int m) H) := by
 intro pins s σ H xs us Q I r h
 obtain ⟨p, ns, rfl, hq, hn, q⟩ := h
 obtain ⟨u, rfl, rx⟩ := vals1 r
 cases rx
 obtain ⟨its, r', pl, hz⟩ := I.list hq
 have hi := Qg5 r'
 have hl := pl.isList
 obtain ⟨xs, e⟩ := hi.allInts.items
 have hns : ns = xs.toList.map (·.1) := by
  rw [← hi.numsOf, ← nums_intItems, ← e]
 have hsz : 0 < xs.size := by
  have h3 := hn; rw [hns, List.length_map, Array.length_toList] at h3; exact h3
 rw [e] at hl
 refine max_intList (hr.hd rfl) hl hsz fun v h' tk hv hk => ?_
 obtain ⟨t, rfl⟩ := intItems_at hv
 obtain ⟨h1, h2⟩ := argBest_gt (numAt xs) (xs.size - 1)
 refine ⟨.int _, H, I.kept hk, ⟨t, rfl⟩, q _ ?_ fun a ha => ?_⟩
 ·rw [hns, numAt_eq]; exact getD_mem (by rw [List.length_map, Array.length_toList]; omega)
 ·rw [hns] at ha
  obtain ⟨j, hj, rfl⟩ := mem_getD ha
  rw [List.length_map, Array.length_toList] at hj
  rw [← numAt_eq]; exact h2 j (by omega)
end
theorem Qlf : bootBuiltins "max" = some (.builtin "max") := by decide+kernel
end L2
namespace L2
open PySem PySem.Spec PyProof.Rows L3
section
variable {X : Cx} {pins : Q4} {σ : St} {H : Hp} {s : Shared}
theorem Inv.freeze {d : Addr} {kvs : List (List Key × V)} {o : Obj} (I : Inv X pins σ H s) (hd : H d = some (.dT kvs)) (ho : s.heap.get? d = some o) : Inv X pins σ (upd H d (.frz o (.dT kvs))) s := by
 have ne : ∀ b, H b = none → b ≠ d := fun b e z => by rw [z, hd] at e; cases e
 refine I.step (h' := s.heap) (g' := s.gens) (t' := s.toks) (d' := s.drawn) (ch := []) (fun _ z => nomatch z) (fun b o _ _ _ e _ => e) (fun b o _ _ _ e _ => ⟨o.slots, e⟩) (fun b o _ _ n => by rw [Qah (ne b n)]; exact n) (fun b o _ e => ⟨o, e⟩)
  (fun b xs e => ?_) (fun b o u e => ?_) (fun b ps e => ⟨#[], ?_⟩) (fun m h => h) ?_ I.bare
 ·rw [Qah (Qbd e hd (by intro z; cases z))]; exact e
 ·rw [Qah (Qbd e hd (by intro z; cases z))]; exact e
 ·rw [Qah (Qbd e hd (by intro z; cases z))]; simpa using e
 ·have own : ∀ (c y : Addr), H c = some (.own y) → upd H d (.frz o (.dT kvs)) c = some (.own y) := fun c y e => by rw [Qah (Qbd e hd (by intro z; cases z))]; exact e
  have tup : ∀ (c : Addr) (xs : List V), H c = some (.tup xs) → upd H d (.frz o (.dT kvs)) c = some (.tup xs) := fun c xs e => by rw [Qah (Qbd e hd (by intro z; cases z))]; exact e
  intro b u e
  by_cases hb : b = d
  ·subst hb
   rw [Qab] at e
   cases e
   exact ⟨ho, (I.hok b _ hd).stay (fun _ _ _ q => q) (fun c q => own c b q) tup⟩
  ·rw [Qah hb] at e
   exact (I.hok b u e).stay (fun _ _ _ q => q) (fun c q => own c b q) tup
theorem Inv.thaw {d : Addr} {kvs : List (List Key × V)} {o : Obj} (I : Inv X pins σ H s) (hd : H d = some (.frz o (.dT kvs))) (hn : ∀ o' u', X.H₀ d ≠ some (.frz o' u')) : Inv X pins σ (upd H d (.dT kvs)) s := by
 have ne : ∀ b, H b = none → b ≠ d := fun b e z => by rw [z, hd] at e; cases e
 have nn : ∀ b, H b = none → upd H d (.dT kvs) b = none := fun b e => by rw [Qah (ne b e)]; exact e
 have own : ∀ (c y : Addr), H c = some (.own y) → upd H d (.dT kvs) c = some (.own y) := fun c y e => by rw [Qah (Qbd e hd (by intro z; cases z))]; exact e
 have tup : ∀ (c : Addr) (xs : List V), H c = some (.tup xs) → upd H d (.dT kvs) c = some (.tup xs) := fun c xs e => by rw [Qah (Qbd e hd (by intro z; cases z))]; exact e
 refine ⟨I.ok, I.os, I.bare, ⟨I.base.keep, I.base.slot, fun b o e n hx => nn b (I.base.free b o e n hx), I.base.there, fun b xs e => tup b xs (I.base.tups b xs e), fun b o' u e => ?_, fun b ps e => ?_⟩, I.loc, I.cell, nn _ I.free, fun x c e => nn _ (I.freeC x c e), fun p hp => ?_, ?_, I.len⟩
 ·have q := I.base.frzs b o' u e
  rw [Qah (fun z => hn o' u (by rw [← z]; exact e))]
  exact q
 ·obtain ⟨more, q⟩ := I.base.tbls b ps e
  exact ⟨more, by rw [Qah (Qbd q hd (by intro z; cases z))]; exact q⟩
 ·obtain ⟨a, b, c⟩ := I.pin p hp
  exact ⟨a, nn _ b, c⟩
 ·intro b u e
  by_cases hb : b = d
  ·subst hb
   rw [Qab] at e
   cases e
   exact (show ObjOk X.prog X.w H s.heap b (.frz o (.dT kvs)) from I.hok b _ hd).2.stay (fun _ _ _ q => q) (fun c q => own c b q) tup
  ·rw [Qah hb] at e
   exact (I.hok b u e).stay (fun _ _ _ q => q) (fun c q => own c b q) tup
end
def ItD (d : Addr) (o : Obj) (kvs : List (List Key × V)) (as : List Addr) : It :=
 ⟨fun i H => H d = some (.frz o (.dT kvs)) ∧ i < as.length, fun i H x H' => H' = H ∧ ∃ a, as[i]? = some a ∧ x = .ref a, fun i H => H d = some (.frz o (.dT kvs)) ∧ as.length ≤ i⟩
theorem Qi8 {P : Program} {w : World} {K : Q5} {tg : Expr} {d it : Addr} {o : Obj} {kvs : List (List Key × V)} {as : List Addr} {es : Array DictEntry} {ep : Nat} (hc : o.ExactDict) (hd : o.data = .dict es ep) (hl : es.size = as.length)
 (hk : ∀ i (h : i < es.size), ∃ a, as[i]? = some a ∧ es[i].key = .ref a) : Turn P w K tg (ItD d o kvs as) [it] it (fun i h => h.IsKeyIter it d i es.size ep) where
 mem := by simp
 obj := fun i h st b hb => by
  have e : b = it := by simpa using hb
  subst e
  obtain ⟨o, e, c, d⟩ := st
  exact ⟨o, e, fun v z => by rw [d] at z; cases z⟩
 keep := fun i h h' st k => st.at fun o e => k it (by simp) o e
 item := by
  intro X hP hw hK hcm i pins s σ H E I hf st hg
  subst hP hw hK
  obtain ⟨hdf, hlt⟩ := hg
  obtain ⟨f0, f1, f2, f3, f4, f5⟩ := hf it (by simp)
  have raw : RawD s.heap d es ep := ⟨o, (show ObjOk X.prog X.w H s.heap d (.frz o (.dT kvs)) from I.hok d _ hdf).1, hc, hd⟩
  refine Qdm (I.ok.hd hcm) st raw (fun hi h' st' sb => ?_) fun hge => absurd hge (by omega)
  obtain ⟨a, ha, hka⟩ := hk i hi
  have I1 : Inv X pins σ H { s with heap := h' } := I.turned (t' := s.toks) (fun b o hb e => (sb.2 b hb).trans e) f0 f1 f3 f4 f5
  obtain ⟨o', e, c, d'⟩ := id st'
  exact ⟨_, rfl, Qow (s := { s with heap := h' }) e c d' (by decide) ⟨.ref a, H, I1, hka, ⟨rfl, a, ha, rfl⟩, st', fun b hb => (hf b hb).1⟩⟩
 done := by
  intro X hP hw hK hcm i pins s σ H E I hf st hg
  subst hP hw hK
  obtain ⟨hdf, hge⟩ := hg
  obtain ⟨f0, f1, f2, f3, f4, f5⟩ := hf it (by simp)
  have raw : RawD s.heap d es ep := ⟨o, (show ObjOk X.prog X.w H s.heap d (.frz o (.dT kvs)) from I.hok d _ hdf).1, hc, hd⟩
  exact Qdm (I.ok.hd hcm) st raw (fun hi => absurd hi (by omega)) fun _ h' eb => ⟨rfl, I.turned (t' := s.toks) (fun b o hb e => eb b o hb e) f0 f1 f3 f4 f5⟩
 self := fun _ _ _ _ _ st h => wpAny_pyIter_keyiter st h
section
variable {X : Cx}
theorem Qfy {P : Program} {w : World} {H : Hp} : ∀ {kvs : List (List Key × V)} {xs : List (List Key × Addr × Value)}, Paired (fun (p : List Key × V) (q : List Key × Addr × Value) => p.1 = q.1 ∧ H q.2.1 = some (.tup (p.1.map kV)) ∧ RelV p.2 q.2.2) kvs xs →
 Paired (fun (p : List Key × V) (a : Addr) => H a = some (.tup (p.1.map kV))) kvs (xs.map (·.2.1))
 | _, _, .nil => .nil
 | _, _, .cons r rr => .cons r.2.1 (Qfy (P := P) (w := w) rr)
def iDT (X : Cx) (te : TE) : TI := fun σ H R => te σ H fun x H1 => ∃ (d : Addr) (kvs : List (List Key × V)), x = .ref d ∧ H1 d = some (.dT kvs) ∧ ∀ (o : Obj) (as : List Addr), (∀ o' u', X.H₀ d ≠ some (.frz o' u')) → Paired (fun (p : List Key × V) (a : Addr) => H1 a = some (.tup (p.1.map kV))) kvs as → R (ItD d o kvs as) (upd H1 d (.frz o (.dT kvs)))
theorem pi_dT {tg e : Expr} {te : TE} (he : PE X e te) : PI X tg e (iDT X te) := by
 intro pins s σ H R I h
 refine thn (he pins s σ H _ I h) fun v s1 ⟨x, H1, I1, r1, q1⟩ => ?_
 obtain ⟨d, kvs, rfl, hd, q⟩ := q1
 cases r1
 obtain ⟨hz, hsm, xs, pr, o, es, ep, ho, hc, hdat, hes, hnd⟩ := (show ObjOk X.prog X.w H1 s1.heap d (.dT kvs) from I1.hok d _ hd)
 have hn : ∀ o' u', X.H₀ d ≠ some (.frz o' u') := fun o' u' e => by
  have := I1.base.frzs d o' u' e
  rw [hd] at this
  cases this
 have hl : es.size = (xs.map (·.2.1)).length := by
  rw [← Array.length_toList, hes, List.length_map, List.length_map]
 have hk : ∀ i (h : i < es.size), ∃ a, (xs.map (·.2.1))[i]? = some a ∧ es[i].key = .ref a := fun i h => by
  have e1 : es.toList[i]? = some es[i] := by simp [h]
  rw [hes, List.getElem?_map] at e1
  cases q : xs[i]? with
  | none => rw [q] at e1; cases e1
  | some z =>
    rw [q] at e1
    refine ⟨z.2.1, by rw [List.getElem?_map, q]; rfl, ?_⟩
    rw [← Option.some.inj e1]
    rfl
 have I2 := I1.freeze hd ho
 refine Qhn hsm ⟨o, ho, hc, hdat⟩ ?_
 have k : ∀ b u, s1.heap.get? b = some u → (s1.heap.push { cls := .type "dict_keyiterator", data := .fields #[.ref d, .int 0 0, .int es.size 0, .int ep 0] }).get? b = some u := fun b u e => Heap.get?_push_of_some _ e
 have I3 : Inv X pins σ (upd H1 d (.frz o (.dT kvs))) { s1 with heap := s1.heap.push { cls := .type "dict_keyiterator", data := .fields #[.ref d, .int 0 0, .int es.size 0, .int ep 0] } } := I2.kept (t' := s1.toks) k
 refine ⟨s1.heap.objs.size, [s1.heap.objs.size], _, ItD d o kvs (xs.map (·.2.1)), upd H1 d (.frz o (.dT kvs)), rfl, I3, Qi8 hc hdat hl hk, ⟨_, Heap.get?_push_size _ rfl, rfl, rfl⟩, fun b hb => ?_, q o _ hn (Qfy (P := X.prog) (w := X.w) pr)⟩
 rw [List.mem_singleton.mp hb]
 exact I2.fpOk (Nat.le_refl _) (I2.hok.fresh (Nat.le_refl _))
def tLCD (ti : TE) (tt : TT) (te : TE) (js : List Nat) : TE := fun σ H Q => ti σ H fun x H1 => ∃ (d : Addr) (kvs : List (List Key × V)) (f : List Key → Bool) (g : List Key → V), x = .ref d ∧ H1 d = some (.dT kvs) ∧ kvs.length < sizeLine ∧
 (∀ ks ∈ kvs.map (·.1), ∀ (a : Addr) (Hx : Hp), Hx a = some (.tup (ks.map kV)) → tt (some (.ref a) :: js.map (fun j => σ.getD j none)) Hx fun b H2 => if b = true then te (some (.ref a) :: js.map (fun j => σ.getD j none)) H2 (fun y H3 => f ks = true ∧ y = g ks ∧ H3 = Hx) else (f ks = false ∧ H2 = Hx)) ∧
 ∀ l, H1 l = none → Q (.ref l) (upd H1 l (.lst (((kvs.map (·.1)).filter f).map g)))
theorem lcd_of {ti : TE} {tt : TT} {te : TE} {js : List Nat} {σ : St} {H : Hp} {Q : VK} (mono : ∀ σ H Q Q', (∀ x H1, Q x H1 → Q' x H1) → ti σ H Q → ti σ H Q') (h : tLCD ti tt te js σ H Q) :
 tLCIf (iDT X ti) tt te js σ H (fun v H4 => ∃ (l d : Addr) (H1 : Hp) (o : Obj) (kvs : List (List Key × V)) (ys : List V), v = .ref l ∧ H1 d = some (.dT kvs) ∧ H1 l = none ∧ l ≠ d ∧ H4 = upd (upd H1 d (.frz o (.dT kvs))) l (.lst ys) ∧ (∀ o' u', X.H₀ d ≠ some (.frz o' u')) ∧ Q (.ref l) (upd H1 l (.lst ys))) := by
 refine mono σ H _ _ (fun x H1 q => ?_) h
 obtain ⟨d, kvs, f, g, rfl, hd, hz, hs, q⟩ := q
 refine ⟨d, kvs, rfl, hd, fun o as hn pr => ?_⟩
 have hlen := pr.length
 refine ⟨fun i m ys Hx => m = kvs.length - i ∧ i ≤ kvs.length ∧ Hx = upd H1 d (.frz o (.dT kvs)) ∧ ys = (((kvs.map (·.1)).take i).filter f).map g, ⟨kvs.length, by simp, Nat.zero_le _, rfl, rfl⟩, ?_⟩
 rintro i m ys Hx ⟨rfl, hi, rfl, rfl⟩
 by_cases hlt : i < kvs.length
 ·refine .inr ⟨⟨Qab, by omega⟩, ?_, ?_⟩
  ·refine Nat.lt_of_le_of_lt ?_ hz
   rw [List.length_map]
   refine Nat.le_trans (List.length_filter_le ..) ?_
   rw [List.length_take, List.length_map]
   omega
  ·have hks : (kvs.map (·.1))[i]? = some kvs[i].1 := by rw [List.getElem?_map, List.getElem?_eq_getElem hlt]; rfl
   have tk : (kvs.map (·.1)).take (i + 1) = (kvs.map (·.1)).take i ++ [kvs[i].1] := by rw [List.take_add_one, hks]; rfl
   refine ⟨fun y H3 => f kvs[i].1 = true ∧ y = g kvs[i].1 ∧ H3 = upd H1 d (.frz o (.dT kvs)), fun H2 => f kvs[i].1 = false ∧ H2 = upd H1 d (.frz o (.dT kvs)), ?_, ?_, ?_⟩
   ·rintro y H2 ⟨e1, rfl, rfl⟩
    refine ⟨kvs.length - (i + 1), by omega, rfl, hlt, rfl, ?_⟩
    rw [tk, List.filter_append, List.map_append]
    simp [e1]
   ·rintro H2 ⟨e1, rfl⟩
    refine ⟨kvs.length - (i + 1), by omega, rfl, hlt, rfl, ?_⟩
    rw [tk, List.filter_append, List.map_append]
    simp [e1]
   ·rintro x H' ⟨rfl, a, ha, rfl⟩
    refine hs kvs[i].1 (List.mem_of_getElem? hks) a _ ?_
    have pa : ∀ {l : List (List Key × V)} {bs : List Addr}, Paired (fun (p : List Key × V) (a : Addr) => H1 a = some (.tup (p.1.map kV))) l bs → ∀ (i : Nat) (h : i < l.length) (b : Addr), bs[i]? = some b → H1 b = some (.tup (l[i].1.map kV)) := by
     intro l bs pr
     induction pr with
     | nil => intro i h; cases h
     | cons r rr ih =>
       intro i h b e
       cases i with
       | zero => cases e; exact r
       | succ j => exact ih j (by simpa using h) b (by simpa using e)
    have ht := pa pr i hlt a ha
    rw [Qah (Qbd ht hd (by intro z; cases z))]
    exact ht
 ·have e : i = kvs.length := by omega
  subst e
  refine .inl ⟨⟨Qab, by omega⟩, fun l hl => ?_⟩
  have nd : l ≠ d := fun z => by rw [z, Qab] at hl; cases hl
  rw [Qah nd] at hl
  refine ⟨l, d, H1, o, kvs, _, rfl, hd, hl, nd, rfl, hn, ?_⟩
  rw [show (kvs.map (·.1)).take kvs.length = kvs.map (·.1) by rw [← List.length_map (f := (·.1)), List.take_length]]
  exact q l hl
theorem Qnz {H1 : Hp} {d l : Addr} {o : Obj} {kvs : List (List Key × V)} {u : HO} (hd : H1 d = some (.dT kvs)) (hl : l ≠ d) : upd (upd (upd H1 d (.frz o (.dT kvs))) l u) d (.dT kvs) = upd H1 l u := by
 funext b
 by_cases h1 : b = d
 ·subst h1
  rw [Qab, Qah (Ne.symm hl), hd]
 ·rw [Qah h1]
  by_cases h2 : b = l
  ·subst h2
   rw [Qab, Qab]
  ·rw [Qah h2, Qah h2, Qah h1]
def MonoE (ti : TE) : Prop := ∀ σ H Q Q', (∀ x H1, Q x H1 → Q' x H1) → ti σ H Q → ti σ H Q'
theorem Qjs {i : Nat} {t : Str} {elt iter c : Expr} {x : Str} {px pos cpos pos' : Pos} {scope : Scope} {cl : List (Str × Addr)} {ti : TE} {te : TE} {tt : TT} (js : List Nat) (hN : X.N.Nodup) (hi' : X.N[i]? = some t) (hx : Loc X.env.scope t) (hc : X.calm = true) (L : LcOk X x scope cl js) (hi : PE X iter ti) (mono : MonoE ti)
 (ht : ∀ C s2 H2 fp xe, PT (X.inC scope cl C s2 H2 fp (x :: js.map (fun j => X.N.getD j "")) xe) c tt)
 (he : ∀ C s2 H2 fp xe, PE (X.inC scope cl C s2 H2 fp (x :: js.map (fun j => X.N.getD j "")) xe) elt te)
 (hs : ∀ z, foldedSetIterable iter X.env z = pure z := by intro _; rfl) (hsw : swapsWith (.ListComp elt [⟨.Name x px, iter, [c], 0⟩] scope cpos) (some (.Name t pos')) pos.line X.env = pure true := by rfl)
 (hf : X.fn t = true ∨ X.env.scope.names.lookup t = some .local := by first | exact .inl rfl | exact .inr rfl | assumption) :
 PS X (.Assign [.Name t pos'] (.ListComp elt [⟨.Name x px, iter, [c], 0⟩] scope cpos) pos) (tAsg (tLCD ti tt te js) (gName i)) := by
 intro pins s σ H D I h
 rw [exec_Assign_Name_used _ _ _ _ hsw]
 refine wpAny_bind (wpAny_standAt (wpAny_bind ?_))
 show wpAny _ X.A (do let _ ← comprehension (.ListComp elt [⟨.Name x px, iter, [c], 0⟩] scope cpos) scope X.env _ (newList []) false (eval iter X.env) (some (assign (.Name t pos') X.env))) _ _ s
 refine wpAny_bind (wpAny_mono (Qf7 (use := some (assign (.Name t pos') X.env)) (Qc := fun _ s' => SP X pins D .next s') hc L (pi_dT hi) he ht hs I (lcd_of (X := X) mono h) fun Dl C H4 s4 m hn fC I4 q => ?_) (fun _ s' hq => wpAny_pure (wpAny_pure hq)) fun _ _ e => e)
 obtain ⟨l, d, H1, o, kvs, ys, e, hd, hl, nd, rfl, hz, q⟩ := q
 cases e
 have I4t : ∀ h', Heap.SameBut C s4.heap h' → Inv X pins σ (upd H1 Dl (.lst ys)) { s4 with heap := h' } := fun h' sb => by
  have I5 := (I4 h' sb).thaw (d := d) (o := o) (kvs := kvs) (by rw [Qah (Ne.symm nd), Qab]) hz
  rw [Qnz hd nd] at I5
  exact I5
 have fCt : FpOk X pins (upd H1 Dl (.lst ys)) C := by
  refine ⟨?_, fC.2⟩
  have z := fC.1
  have c1 : C ≠ Dl := fun e => by rw [e, Qab] at z; cases z
  rw [Qah c1] at z ⊢
  have c2 : C ≠ d := fun e => by rw [e, Qab] at z; cases z
  rw [Qah c2] at z
  exact z
 show wpAny (model X.prog X.w) X.A (assign (.Name t pos') X.env (.ref Dl)) _ X.xe s4
 obtain ⟨oC, es, ep, hoC, hdC, rC⟩ := id hn
 have I4' : Inv X (pins ++ pinsAt [C] s4.heap) σ (upd H1 Dl (.lst ys)) s4 := (I4t s4.heap (.refl ..)).pinned (fun b hb => by rw [List.mem_singleton.mp hb]; exact fCt) fun b hb => by
  rw [List.mem_singleton.mp hb]
  exact ⟨oC, hoC, fun v z => by rw [hdC] at z; cases z⟩
 refine thn (Qak hN hi' hx hf _ s4 σ _ (.ref Dl) (.ref Dl) D.nx I4' rfl q) fun _ s5 ⟨σ5, H5, I5, q5⟩ => ?_
 obtain ⟨e5, n5, _⟩ := I5.pin (C, oC) (List.mem_append_right _ (List.mem_append_right _ (Qbu (List.mem_singleton.mpr rfl) hoC)))
 refine ⟨m, ⟨oC, es, ep, e5, hdC, rC⟩, fun h' sb => ⟨σ5, H5, ?_, q5⟩⟩
 obtain ⟨_, f1, _, f3, f4, f5⟩ := fCt
 exact I5.unpinned.turned (t' := s5.toks) (it := C) (fun b o hb e => (sb.2 b hb).trans e) n5 f1 f3 f4 f5
end
end L2
namespace L2
open PySem PySem.Spec PyProof.Rows L3
def DefM (K : Q5) (C : Addr) (m qual : Str) (st : Stmt) (dV : Value) : Prop := ∃ f fd, FunD K m qual st f fd dV ∧ Meth K C m f
def CalM (P : Program) (w : World) (K : Q5) (mg : Str → Option Value) (base : Heap) (CX : CXT) (cm : Bool) (k : Nat) (C : Addr) (m : Str) (ps : List Str) (ds : List V) (sp : Sp) : Prop :=
 ∃ f fd dvs, FnOk P w K mg base CX cm k f fd ps sp ∧ Meth K C m f ∧ Binds K fd ps [] ∧ Vals ds dvs ∧ Binds K fd ps dvs
def DefI (K : Q5) (C : Addr) (qual : Str) (st : Stmt) (dV : Value) : Prop := ∃ f fd, FunD K "__init__" qual st f fd dV ∧ Mk K C f
def CalI (P : Program) (w : World) (K : Q5) (mg : Str → Option Value) (base : Heap) (CX : CXT) (cm : Bool) (k : Nat) (C : Addr) (ps : List Str) (ds : List V) (sp : Sp) : Prop :=
 ∃ f fd dvs, FnOk P w K mg base CX cm k f fd ps sp ∧ Mk K C f ∧ Binds K fd ps [] ∧ Vals ds dvs ∧ Binds K fd ps dvs
theorem Qbk {X : Cx} {scope : Scope} {cl : List (Str × Addr)} {C : Addr} {s2 : Shared} {H2 : Hp} {fp : List Addr} {N' : List Str} {xe : Q3} : IxR (X.inC scope cl C s2 H2 fp N' xe) (rIx X.K) := Qaw (X := X.inC scope cl C s2 H2 fp N' xe)
theorem Ql5 (i : Nat) : MonoE (tVar i) := fun σ H Q Q' k h => by
 obtain ⟨v, e, q⟩ := h
 exact ⟨v, e, k _ _ q⟩
theorem Ql6 {K : Q5} {ta : TE} {f : Str} (m : MonoE ta) : MonoE (tFld K ta f) := fun σ H Q Q' k h => by
 refine m σ H _ _ (fun x H1 q => ?_) h
 obtain ⟨a, C, dx, fs, v, e1, e2, e3, e4, e5, q⟩ := q
 exact ⟨a, C, dx, fs, v, e1, e2, e3, e4, e5, k _ _ q⟩
end L2
namespace L2
open PySem PySem.Spec PyProof.Rows L3
section
variable {X : Cx}
theorem sl_str : SlR X (fun x lo hi H Q => ∃ z : Str, x = .str z ∧ z.length ≤ sizeLine ∧ Q (.str (Txt.slice z lo hi)) H) := by
 intro pins s σ H x v vl vu lo hi sl Q I rx hs pl pu h
 obtain ⟨z, rfl, hz, q⟩ := h
 obtain ⟨t, rfl⟩ := rx
 have fin : (Txt.slice z lo hi).length ≤ sizeLine ∧ ∀ (t' : Tok) (k : Nat), EP X pins σ Q (.str (Txt.slice z lo hi) t') { s with toks := k } :=
  ⟨Nat.le_trans (Txt.slice_le z lo hi) hz, fun t' k => ⟨.str _, H, I.tok k, ⟨t', rfl⟩, q⟩⟩
 cases pl with
 | none =>
   cases pu with
   | none => exact ⟨"str", _, F.slot_str_getitem.lookup, typeIs_str _ _ _, wpAny_getItem_str_slice (l := none) (u := none) (st := none) hs rfl (post_val_or_str fin)⟩
   | int i t1 => exact ⟨"str", _, F.slot_str_getitem.lookup, typeIs_str _ _ _, wpAny_getItem_str_slice (l := none) (u := some (i, t1)) (st := none) hs rfl (post_val_or_str fin)⟩
 | int j t2 =>
   cases pu with
   | none => exact ⟨"str", _, F.slot_str_getitem.lookup, typeIs_str _ _ _, wpAny_getItem_str_slice (l := some (j, t2)) (u := none) (st := none) hs rfl (post_val_or_str fin)⟩
   | int i t1 => exact ⟨"str", _, F.slot_str_getitem.lookup, typeIs_str _ _ _, wpAny_getItem_str_slice (l := some (j, t2)) (u := some (i, t1)) (st := none) hs rfl (post_val_or_str fin)⟩
end
open Builtin Builtin.Str in
theorem Qnb (j n : Nat) (h : j ≤ n) : strSliceIndices none (some (j : Int)) 1 n = List.range j := by
 unfold strSliceIndices sliceRange
 simp only [show (1 : Int) > 0 by decide, if_true]
 rw [if_neg (show ¬ ((j : Int) < 0) by omega), show min (j : Int) (n : Int) = j by omega, show max (0 : Int) (j : Int) = j by omega]
 by_cases hj : (0 : Int) < j
 ·rw [if_pos hj, show (((j : Int) - 0 + 1 - 1) / 1).toNat = j by omega]
  refine List.map_id'' ?_ _
  intro k
  omega
 ·rw [if_neg hj, show j = 0 by omega]
  rfl
theorem Qgp (a b : Str) : (a ++ b).length = a.length + b.length := by
 show (a.cps ++ b.cps).size = _
 rw [Array.size_append]
 rfl
end L2
namespace L2
open PySem PySem.Spec PyProof.Rows L3
theorem Qfb {lo : Int} {n : Nat} {T : V → Hp → VK → Prop} {R : Addr → Hp → List V → Prop} {H : Hp} (Pv : Nat → List V → Hp → Prop) (h0 : Pv 0 [] H) (hn : n ≤ sizeLine) (hl : ∀ i ys H, i ≤ n → Pv i ys H → ys.length = i)
 (hs : ∀ i ys H, i < n → Pv i ys H → T (.int (lo + i)) H fun y H2 => Pv (i + 1) (ys ++ [y]) H2) (hd : ∀ ys H, Pv n ys H → ∀ l, H l = none → R l H ys) :
 ∃ W : Nat → Nat → List V → Hp → Prop, (∃ m, W 0 m [] H) ∧ ∀ i m ys H, W i m ys H →
   ((Itr lo n).stop i H ∧ ∀ l, H l = none → R l H ys) ∨ ((Itr lo n).go i H ∧ ys.length < sizeLine ∧ ∃ N : VK, (∀ y H2, N y H2 → ∃ m', m' < m ∧ W (i + 1) m' (ys ++ [y]) H2) ∧ ∀ x H', (Itr lo n).yld i H x H' → T x H' N) := by
 refine ⟨fun i m ys H => m = n - i ∧ i ≤ n ∧ Pv i ys H, ⟨n, by simp, Nat.zero_le _, h0⟩, ?_⟩
 rintro i m ys H ⟨rfl, hi, p⟩
 have hy := hl i ys H hi p
 by_cases hlt : i < n
 ·refine .inr ⟨hlt, by omega, fun y H2 => Pv (i + 1) (ys ++ [y]) H2, fun y H2 p' => ⟨n - (i + 1), by omega, rfl, hlt, p'⟩, fun x H' ⟨e, y⟩ => ?_⟩
  subst e y
  exact hs i ys _ hlt p
 ·have e : i = n := by omega
  subst e
  exact .inl ⟨Nat.le_refl _, hd ys H p⟩
end L2
namespace L2
open PySem PySem.Spec PyProof.Rows L3
section
variable {X : Cx}
theorem Inv.laidAll {pins : Q4} {σ : St} {H H' : Hp} {s : Shared} {h' : Heap} {t' : Nat} (I : Inv X pins σ H s) (k : ∀ b u, s.heap.get? b = some u → h'.get? b = some u) (same : ∀ b o, H b = some o → H' b = some o)
 (new : ∀ b, b < s.heap.objs.size → H b = none → H' b = none) (ok : ∀ b o, H b = none → H' b = some o → ObjOk X.prog X.w H' h' b o) : Inv X pins σ H' { s with heap := h', toks := t' } := by
 refine I.un ⟨fun b u q _ _ _ => k b u q, fun b u q _ _ _ => ⟨u.slots, k b u q⟩, fun b u q n _ => new b (Heap.lt_size q) n, fun b u q _ => ⟨u, k b u q⟩, fun b xs q => same _ _ q, fun b o u q => same _ _ q, fun b ps q => ⟨#[], by rw [same _ _ q]; simp⟩⟩ fun b o e => ?_
 cases hb : H b with
 | none => exact ok b o hb e
 | some o1 =>
   have e2 := same b o1 hb
   rw [e] at e2
   cases e2
   exact (I.hok b _ hb).stay (fun c v _ q => k c v q) (fun c q => same _ _ q) fun c xs q => same _ _ q
def eqT (K : Q5) (H : Hp) (x y : V) : Prop := (x = y ∧ eqPl x = true) ∨ ∃ a b xs, x = .ref a ∧ y = .ref b ∧ SqT K H a xs ∧ SqT K H b xs ∧ ∀ z ∈ xs, eqPl z = true
theorem Inv.eqT {pins : Q4} {σ : St} {H : Hp} {s : Shared} {x y : V} {v u : Value} {A : Around} (I : Inv X pins σ H s) (hu : A.units < cLine) (e : eqT X.K H x y) (rx : RelV x v) (ry : RelV y u) : SeqAt.EqAt A s v u true := by
 rcases e with ⟨rfl, hp⟩ | ⟨a, b, xs, rfl, rfl, ha, hb, hp⟩
 ·exact Qgc hp rx ry
 ·cases rx
  cases ry
  by_cases hab : a = b
  ·subst hab
   exact SeqAt.EqAt.same _
  obtain ⟨its, r, pl, hz⟩ := I.tuple ha
  obtain ⟨its2, r2, pl2, hz2⟩ := I.tuple hb
  have l1 := r.length
  have l2 := r2.length
  have h := SeqAt.RcAt.tuples (A := A) (e := fun _ => true) (show s.heap.IsTuple a its.toArray from pl) (show s.heap.IsTuple b its2.toArray from pl2) hu (fun j h1 h2 => by
   simp only [List.size_toArray] at h1 h2
   obtain ⟨x, e, rx⟩ := Qc5 r j h1
   obtain ⟨x2, e2, rx2⟩ := Qc5 r2 j h2
   rw [e] at e2
   cases e2
   simp only [List.getElem_toArray]
   exact Qgc (hp x (List.mem_of_getElem? e)) rx rx2)
  have hb : ((List.range (min its.toArray.size its2.toArray.size)).all (fun _ => true) && its.toArray.size == its2.toArray.size) = true := by
   simp only [List.size_toArray]
   rw [← l1, ← l2]
   simp
  rw [hb] at h
  exact SeqAt.EqAt.of_refs hab h
def EqLs (K : Q5) (H : Hp) (xs ys : List V) : Prop := xs.length = ys.length ∧ ∀ (j : Nat) x y, xs[j]? = some x → ys[j]? = some y → eqT K H x y
theorem op_eqD {cm : Bool} {k : Nat} (hr : Room cm k X.A) : OpR X (compareOp .Eq) (fun x y H Q => ∃ a b xs ys, x = .ref a ∧ y = .ref b ∧ SqL X.K H a xs ∧ SqL X.K H b ys ∧ EqLs X.K H xs ys ∧ Q (.bl true) H) := by
 intro pins s σ H x y v u Q I rx ry h
 obtain ⟨a, b, xs, ys, rfl, rfl, ha, hb, ⟨hl, he⟩, q⟩ := h
 cases rx
 cases ry
 obtain ⟨its, r, pl, hz⟩ := I.list ha
 obtain ⟨its2, r2, pl2, hz2⟩ := I.list hb
 have l1 := r.length
 have l2 := r2.length
 have hu : X.A.units < cLine := by have := hr.un; omega
 have hu1 : X.A.in1.units < cLine := by have := hr.un; show X.A.units + 1 < cLine; omega
 refine SeqAt.eq_listAt (e := fun _ => true) pl.isList pl2.isList (by simp only [List.size_toArray]; omega) hu (fun j h1 h2 => ?_) ?_
 ·simp only [List.size_toArray] at h1 h2
  obtain ⟨x, e, rx⟩ := Qc5 r j h1
  obtain ⟨x2, e2, rx2⟩ := Qc5 r2 j h2
  simp only [List.getElem_toArray]
  exact I.eqT hu1 (he j x x2 e e2) rx rx2
 ·rw [show ((List.range its.toArray.size).all fun _ => true) = true by simp]
  exact ⟨.bl true, H, I, rfl, q⟩
theorem op_neD {cm : Bool} {k : Nat} (hr : Room cm k X.A) : OpR X (compareOp .NotEq) (fun x y H Q => ∃ a b xs ys, x = .ref a ∧ y = .ref b ∧ SqL X.K H a xs ∧ SqL X.K H b ys ∧ EqLs X.K H xs ys ∧ Q (.bl false) H) := by
 intro pins s σ H x y v u Q I rx ry h
 obtain ⟨a, b, xs, ys, rfl, rfl, ha, hb, ⟨hl, he⟩, q⟩ := h
 cases rx
 cases ry
 obtain ⟨its, r, pl, hz⟩ := I.list ha
 obtain ⟨its2, r2, pl2, hz2⟩ := I.list hb
 have l1 := r.length
 have l2 := r2.length
 have hu : X.A.units < cLine := by have := hr.un; omega
 have hu1 : X.A.in1.units < cLine := by have := hr.un; show X.A.units + 1 < cLine; omega
 refine SeqAt.RcNeAt.lists (e := fun _ => true) pl.isList pl2.isList (by simp only [List.size_toArray]; omega) hu (fun j h1 h2 => ?_) _ _ _ _ ?_
 ·simp only [List.size_toArray] at h1 h2
  obtain ⟨x, e, rx⟩ := Qc5 r j h1
  obtain ⟨x2, e2, rx2⟩ := Qc5 r2 j h2
  simp only [List.getElem_toArray]
  exact I.eqT hu1 (he j x x2 e e2) rx rx2
 ·rw [show ((List.range its.toArray.size).all fun _ => true) = true by simp]
  exact ⟨.bl false, H, I, rfl, q⟩
def rInsert : V → List V → Hp → VK → Prop := fun x vs H Q => ∃ (l : Addr) (xs : List V) (k : Nat) (y : V), x = .ref l ∧ vs = [.int k, y] ∧ H l = some (.lst xs) ∧ k ≤ xs.length ∧ xs.length < 10 ^ 6 ∧ Q .non (upd H l (.lst (xs.take k ++ y :: xs.drop k)))
theorem Qj6 : MtM X "list.insert" rInsert := by
 intro pins s σ H x vs v us Q I rx rv h
 obtain ⟨l, xs, k, y, rfl, rfl, hH, hk, hz, q⟩ := h
 cases rx
 cases rv with
 | cons r1 rr =>
   obtain ⟨u, rfl, ru⟩ := Vals.one rr
   obtain ⟨t, rfl⟩ := r1
   obtain ⟨z, its, n, r, hl, e⟩ := I.lstM hH
   have hline : 10 ^ 6 ≤ sizeLine := by decide
   obtain ⟨x, hx⟩ : ∃ x : Int, x = (k : Int) := ⟨_, rfl⟩
   rw [← hx]
   have hfit : ¬ (!Builtin.List.listFitsIndex x) = true := by
    unfold Builtin.List.listFitsIndex
    rw [decide_eq_true (by omega : -(2 ^ 63 : Int) ≤ x), decide_eq_true (by omega : x < 2 ^ 63)]
    decide
   generalize hits : its.toArray = arr at e
   have hsz : arr.size ≤ sizeLine := by rw [← hits, List.size_toArray]; omega
   have M := PySem.AutoListH.list_insert_list_int_val_1 l arr n x t u hfit hsz
   refine call_meets F.slot_list_insert ⟨_, e, rfl⟩ F.entry_list_insert (F.args_list_insert_3 _ _ _) M ⟨e, ?_⟩
   subst hits
   refine ⟨.non, _, I.lset (its' := its.take k ++ u :: its.drop k) hH e ?_ ?_ ?_, rfl, q⟩
   ·have h1 : (if x < 0 then (x + ((its.toArray.size : Nat) : Int)).toNat else min x.toNat its.toArray.size) = k := by
     rw [if_neg (by omega), List.size_toArray]
     omega
    show (its.toArray.extract 0 (if x < 0 then (x + ((its.toArray.size : Nat) : Int)).toNat else min x.toNat its.toArray.size)).push u ++ its.toArray.extract (if x < 0 then (x + ((its.toArray.size : Nat) : Int)).toNat else min x.toNat its.toArray.size) = _
    rw [h1]
    apply Array.ext'
    simp
    exact List.take_of_length_le (by rw [List.length_drop]; exact Nat.le_refl _)
   ·exact (r.take k).append (.cons ru (r.drop k))
   ·rw [List.length_append, List.length_take, List.length_cons, List.length_drop]
    omega
def rJoin (K : Q5) : V → List V → Hp → VK → Prop := fun x vs H Q => ∃ (z : Str) (p : Addr) (zs : List Str), x = .str z ∧ vs = [.ref p] ∧ SqL K H p (zs.map V.str) ∧ JoinOk z zs = true ∧ Q (.str (Txt.join z zs)) H
theorem Qjb : ∀ {zs : List Str} {its : List Value}, Vals (zs.map V.str) its → ∃ l : List (Str × Tok), its = strValues l ∧ l.map (·.1) = zs
 | [], _, .nil => ⟨[], rfl, rfl⟩
 | z :: zs, _, .cons (b := v) r t => by
   obtain ⟨l, rfl, e⟩ := Qjb t
   obtain ⟨tk, rfl⟩ := r
   exact ⟨(z, tk) :: l, rfl, by rw [List.map_cons, e]⟩
theorem Qj5 : MtR X "str.join" (rJoin X.K) := by
 intro pins s σ H x vs v us Q I rx rv h
 obtain ⟨z, p, zs, rfl, rfl, hS, ok, q⟩ := h
 obtain ⟨t, rfl⟩ := rx
 obtain ⟨u, rfl, ru⟩ := rv.one
 cases ru
 obtain ⟨its, r, pl, hz⟩ := I.list hS
 obtain ⟨l, rfl, e⟩ := Qjb r
 exact SC.join (l := l) pl.isList e ok fun t' k => ⟨.str _, H, I.kept (t' := k) fun _ _ e => e, ⟨t', rfl⟩, q⟩
theorem Qgv {P : Program} {w : World} {k : Key} {u : Value} (h : (mixKind P w).is k u = true) : RelV (kV k) u := by
 rcases Qbb (show keyIs k u = true from h) with ⟨i, t, rfl, rfl⟩ | ⟨x, t, rfl, rfl⟩
 ·exact ⟨t, rfl⟩
 ·exact ⟨t, rfl⟩
def ivw (v d : Addr) : HO := .ext fun h => h.IsItemsView v d
def rItems : V → List V → Hp → VK → Prop := fun x vs H Q => ∃ (d : Addr) (kvs : List (Key × V)), x = .ref d ∧ vs = [] ∧ H d = some (.dK kvs) ∧ ∀ v, H v = none → Q (.ref v) (upd H v (ivw v d))
theorem Qhv : MtR X "dict.items" rItems := by
 intro pins s σ H x vs v us Q I rx rv h
 obtain ⟨d, kvs, rfl, rfl, hd, q⟩ := h
 cases rx
 cases rv
 obtain ⟨z, hsm, xs, rel, dd⟩ := Qg7 I.hok hd
 refine call_meetsIn PySem.F.slot_dict_items dd.typeIs PySem.F.entry_dict_items (PySem.F.args_dict_items_1 _) (meets_dict_items (mixKind X.prog X.w) d hsm) ⟨⟨xs, dd⟩, ?_⟩
 refine ⟨.ref s.heap.objs.size, _, I.laid (a := s.heap.objs.size) (o := ivw s.heap.objs.size d) (t' := s.toks) (fun _ _ q => Heap.get?_push_of_some _ q) (Nat.le_refl _) ?_, rfl, q _ I.fresh⟩
 exact ⟨⟨_, Heap.get?_push_size _ rfl, rfl, rfl⟩, ⟨_, Heap.get?_push_size _ rfl⟩, fun h1 h2 ⟨o, ho, hc, hd⟩ k => ⟨o, k o ho, hc, hd⟩⟩
def hpPairs (H : Hp) (l : Addr) (as : List Addr) (kvs : List (Key × V)) : Hp := fun b => if b = l then some (.lst (as.map V.ref)) else match (as.zip kvs).find? (fun p => decide (p.1 = b)) with
 | some p => some (.tup [kV p.2.1, p.2.2])
 | none => H b
theorem Qh6 : ∀ (as : List Addr) (kvs : List (Key × V)), as.Nodup → ∀ (j : Nat) a kv, as[j]? = some a → kvs[j]? = some kv → (as.zip kvs).find? (fun p => decide (p.1 = a)) = some (a, kv)
 | [], _, _, j, a, kv, h, _ => by simp at h
 | _ :: _, [], _, j, a, kv, _, h => by simp at h
 | b :: as, y :: kvs, nd, 0, a, kv, h1, h2 => by
   cases h1
   cases h2
   simp
 | b :: as, y :: kvs, nd, j + 1, a, kv, h1, h2 => by
   have nd' := List.nodup_cons.mp nd
   have h1' : as[j]? = some a := by simpa using h1
   have h2' : kvs[j]? = some kv := by simpa using h2
   have ne : ¬ b = a := fun z => nd'.1 (by rw [z]; exact List.mem_of_getElem? h1')
   rw [List.zip_cons_cons, List.find?_cons]
   simp only [ne, decide_false]
   exact Qh6 as kvs nd'.2 j a kv h1' h2'
theorem Qcq {as : List Addr} {kvs : List (Key × V)} {b : Addr} (h : b ∉ as) : (as.zip kvs).find? (fun p => decide (p.1 = b)) = none := by
 rw [List.find?_eq_none]
 intro p hp
 have : p.1 ∈ as := (List.of_mem_zip hp).1
 simp only [decide_eq_true_eq]
 intro z
 exact h (z ▸ this)
def rListItems : List V → Hp → VK → Prop := fun xs H Q => ∃ (v d : Addr) (kvs : List (Key × V)), xs = [.ref v] ∧ H v = some (ivw v d) ∧ H d = some (.dK kvs) ∧
 ∀ (l : Addr) (as : List Addr) (H' : Hp), Same H H' → H l = none → H' l = some (.lst (as.map V.ref)) → as.length = kvs.length → (∀ (j : Nat) a kv, as[j]? = some a → kvs[j]? = some kv → H' a = some (.tup [kV kv.1, kv.2])) → Q (.ref l) H'
theorem Qd9 (hc : X.calm = true) : CallR X (.type "list") rListItems := by
 intro pins s σ H xs us Q I rv h
 obtain ⟨v, d, kvs, rfl, hv, hd, q⟩ := h
 obtain ⟨u, rfl, ru⟩ := rv.one
 cases ru
 obtain ⟨z, hsm, vs, rel, dd⟩ := Qg7 I.hok hd
 obtain ⟨ep, da⟩ := dd.dictAt
 have hvw : s.heap.IsItemsView v d := (I.hok v _ hv).1
 have rl : kvs.length = vs.length := rel.length
 refine PySem.W.kdx_call (knd := mixKind X.prog X.w) (kvs := vs) (ep := ep) (I.ok.hd hc) hvw da (by omega) fun h' tk acc c as hk hS hl hG hacc => ?_
 have nd : as.Nodup := hG.rise.imp fun h => Nat.ne_of_lt h
 have above := hG.above
 have same : Same H (hpPairs H s.heap.objs.size as kvs) := fun b o e => by
  have hb : b < s.heap.objs.size := (I.hok b o e).lt
  unfold hpPairs
  rw [if_neg (Nat.ne_of_lt hb), Qcq (fun m => absurd (above b m) (Nat.not_lt.mpr (Nat.le_of_lt hb)))]
  exact e
 have hpair : ∀ (j : Nat) a kv, as[j]? = some a → kvs[j]? = some kv → hpPairs H s.heap.objs.size as kvs a = some (.tup [kV kv.1, kv.2]) := fun j a kv e1 e2 => by
  unfold hpPairs
  rw [if_neg (Nat.ne_of_gt (above a (List.mem_of_getElem? e1))), Qh6 as kvs nd j a kv e1 e2]
 refine ⟨.ref s.heap.objs.size, hpPairs H s.heap.objs.size as kvs, I.laidAll hk same (fun b hb n => ?_) (fun b o n e => ?_), rfl, q _ as _ same I.fresh (by unfold hpPairs; rw [if_pos rfl]) (by omega) hpair⟩
 ·unfold hpPairs
  rw [if_neg (Nat.ne_of_lt hb), Qcq (fun m => absurd (above b m) (Nat.not_lt.mpr (Nat.le_of_lt hb)))]
  exact n
 ·by_cases hb : b = s.heap.objs.size
  ·subst hb
   unfold hpPairs at e
   rw [if_pos rfl] at e
   cases e
   refine ⟨by rw [List.length_map]; omega, as.map Value.ref, c, ?_, ?_⟩
   ·have all : ∀ l : List Addr, Vals (l.map V.ref) (l.map Value.ref) := fun l => by
     induction l with
     | nil => exact .nil
     | cons a l ih => exact .cons rfl ih
    exact all as
   ·rw [hS, ← hacc]
  ·by_cases hm : b ∈ as
   ·obtain ⟨j, hj⟩ := List.mem_iff_getElem?.mp hm
    obtain ⟨key, k, x, e1, e2, e3⟩ := hG.pairs j b hj
    obtain ⟨kv, hkv, ek, ev⟩ : ∃ kv, kvs[j]? = some kv ∧ kv.1 = k ∧ RelV kv.2 x := by
     have all : ∀ {l : List (Key × V)} {m : List (Key × Value)}, KV l m → ∀ (j : Nat) p, m[j]? = some p → ∃ kv, l[j]? = some kv ∧ kv.1 = p.1 ∧ RelV kv.2 p.2 := by
      intro l m r
      unfold KV at r
      induction r with
      | nil => intro j p hp; simp at hp
      | @cons p q ps qs h t ih =>
        intro j p' hp
        cases j with
        | zero =>
          cases hp
          exact ⟨p, rfl, h.1, h.2⟩
        | succ j => exact ih j p' (by simpa using hp)
     exact all rel j (k, x) e1
    rw [hpair j b kv hj hkv] at e
    cases e
    refine ⟨by show 2 ≤ sizeLine; decide, [key, x], .cons ?_ (.cons ev .nil), ⟨_, e3, rfl, 0, rfl⟩⟩
    rw [ek]
    exact Qgv e2
   ·unfold hpPairs at e
    rw [if_neg hb, Qcq hm, n] at e
    cases e
end
end L2
namespace L2
open PySem PySem.Spec PyProof.Rows L3
def tLCT (wi : TI) (g : TG) (te : TE) (n : Nat) (js : List Nat) : TE := fun σ H Q => wi σ H fun J H1 => ∃ W : Nat → Nat → List V → Hp → Prop, (∃ m, W 0 m [] H1) ∧ ∀ i m ys H, W i m ys H →
 (J.stop i H ∧ ∀ l, H l = none → Q (.ref l) (upd H l (.lst ys))) ∨ (J.go i H ∧ ys.length < sizeLine ∧ ∃ N : VK, (∀ y H2, N y H2 → ∃ m', m' < m ∧ W (i + 1) m' (ys ++ [y]) H2) ∧ ∀ x H', J.yld i H x H' → ∀ σ0 : St, σ0.length = n → g x (σ0 ++ js.map (fun j => σ.getD j none)) H' fun σ6 H6 => ∃ σ1 : St, σ1.length = n ∧ σ6 = σ1 ++ js.map (fun j => σ.getD j none) ∧ te σ6 H6 N)
section
variable {X : Cx}
structure LcOkT (X : Cx) (xs : List Str) (scope : Scope) (cl : List (Str × Addr)) (js : List Nat) : Prop where
 clos : closureFor scope X.env = pure cl
 sub : ∀ y c, cl.lookup y = some c → X.env.cells.lookup y = some c
 kind : scope.kind = .function
 cell : ∀ y ∈ scope.names, y.2 ≠ .cell
 names : ∀ y ∈ scope.names, y.2 = .local → scope.names.lookup y.1 = some .local
 loc : ∀ x ∈ xs, scope.names.lookup x = some .local
 has : ∀ y, (((relabel scope X.env).names.lookup y = some .cell) ∨ ((relabel scope X.env).names.lookup y = some .free)) → ∃ c, cl.lookup y = some c
 nd : (xs ++ js.map (fun j => X.N.getD j "")).Nodup
 fr : ∀ j ∈ js, ∃ y, X.N[j]? = some y ∧ X.env.kindOf y = some .cell ∧ (relabel scope X.env).names.lookup y = some .cell ∧ ∃ c, cl.lookup y = some c
theorem Inv.inCT {xs : List Str} {scope : Scope} {cl : List (Str × Addr)} {js : List Nat} {pins : Q4} {σ : St} {H2 : Hp} {s2 : Shared} {fp : List Addr} {C D : Addr} {h1 : Heap} {xe : Q3} {oD : Obj} {m0 : Str → Option Value}
 (L : LcOkT X xs scope cl js) (I2 : Inv X pins σ H2 s2) (f2 : ∀ b ∈ fp, FpOk X pins H2 b) (fo : ∀ b ∈ fp, ∃ o, s2.heap.get? b = some o) (hC : s2.heap.objs.size ≤ C) (hD : s2.heap.objs.size ≤ D) (hDC : D ≠ C)
 (old : ∀ b o, s2.heap.get? b = some o → h1.get? b = some o) (hns : h1.Ns C m0) (hoD : h1.get? D = some oD) (hdD : ∀ v, oD.data ≠ .cell v) {t' : Nat} :
 Inv (X.inC scope cl C s2 H2 fp (xs ++ js.map (fun j => X.N.getD j "")) xe) [(D, oD)] (xs.map (fun _ => none) ++ js.map (fun j => σ.getD j none)) H2 { s2 with heap := h1, toks := t' } where
 ok := {
  mod := I2.ok.mod
  kind := L.kind
  glob := I2.ok.glob
  blt := I2.ok.blt
  above := hC
  inj := fun a b c e1 e2 => I2.ok.inj a b c (L.sub a c e1) (L.sub b c e2)
  has := fun y hy => L.has y hy
  cab := fun _ _ z => nomatch z
  hd := I2.ok.hd
  frames := I2.ok.frames
  stk := .inl rfl
  exf := fun b hb => by
   obtain ⟨o, e⟩ := fo b hb
   refine ⟨Nat.ne_of_lt (Nat.lt_of_lt_of_le (Heap.lt_size e) hC), fun y c e' => ?_⟩
   exact (f2 b hb).2.2.2.2.1 y c (L.sub y c e')
  bs := fun b o e => I2.bs b o e
  bsz := Nat.le_trans I2.ok.bsz I2.sz
  noex := fun b o e hb => by
   rcases (f2 b hb).2.2.2.1 with z | z
   ·exact I2.ok.noex b o e z
   ·exact absurd (Nat.lt_of_lt_of_le (Heap.lt_size e) (Nat.le_trans I2.ok.bsz z)) (Nat.lt_irrefl _)
  exfs := fun b hb z => by
   rcases List.mem_cons.mp (I2.stkSub b z) with e | e
   ·exact (f2 b hb).2.1 e
   ·exact (f2 b hb).2.2.1 e
  funs := I2.stack
  frf := I2.stkFree }
 os := rfl
 bare := I2.bare
 base := Un.kept old
 loc := by
  refine ⟨m0, hns, fun i y v e1 e2 e3 => ?_⟩
  have hik : ¬ i < xs.length := fun z => by
   have e2' : (xs.map (fun _ => (none : Option V)) ++ js.map (fun j => σ.getD j none))[i]? = some (some v) := e2
   rw [List.getElem?_append_left (by rw [List.length_map]; exact z), List.getElem?_map] at e2'
   rw [List.getElem?_eq_getElem z] at e2'
   cases e2'
  have hsplit : ∃ k, i = xs.length + k := ⟨i - xs.length, by omega⟩
  obtain ⟨k, rfl⟩ := hsplit
  ·have e1' : (js.map (fun j => X.N.getD j ""))[k]? = some y := by
    have e1' : (xs ++ js.map (fun j => X.N.getD j ""))[xs.length + k]? = some y := e1
    rw [List.getElem?_append_right (by omega)] at e1'
    simpa using e1'
   have e2' : (js.map (fun j => σ.getD j none))[k]? = some (some v) := by
    have e2' : (xs.map (fun _ => (none : Option V)) ++ js.map (fun j => σ.getD j none))[xs.length + k]? = some (some v) := e2
    rw [List.getElem?_append_right (by rw [List.length_map]; omega)] at e2'
    simpa using e2'
   rw [List.getElem?_map] at e1' e2'
   cases hj : js[k]? with
   | none => rw [hj] at e1'; cases e1'
   | some j =>
     rw [hj] at e1' e2'
     obtain ⟨y', n1, n2, n3, c, n4⟩ := L.fr j (List.mem_of_getElem? hj)
     have e1'' : X.N.getD j "" = y := Option.some.inj e1'
     have e2'' : σ.getD j none = some v := Option.some.inj e2'
     have : y' = y := by
      rw [List.getD, n1] at e1''
      exact e1''
     subst this
     have hσ : σ[j]? = some (some v) := by
      rw [List.getD] at e2''
      cases q : σ[j]? with
      | none => rw [q] at e2''; cases e2''
      | some z => rw [q] at e2''; exact congrArg some e2''
     obtain ⟨m, hn, hl⟩ := I2.loc
     obtain ⟨u, r, l⟩ := hl j y' v n1 hσ (.inr (.inl n2))
     refine ⟨u, r, ?_⟩
     rcases l with ⟨k1, _⟩ | ⟨_, c', k2, k3⟩
     ·rw [n2] at k1; cases k1
     ·have : c' = c := by
       have := L.sub _ _ n4
       rw [k2] at this
       exact Option.some.inj this
      subst this
      obtain ⟨o, ho, hd⟩ := k3
      exact .inr ⟨.inl n3, c', n4, o, old _ _ ho, hd⟩
 cell := fun y c e => by
  obtain ⟨v, o, ho, hd⟩ := I2.cell y c (L.sub y c e)
  exact ⟨v, o, old _ _ ho, hd⟩
 free := I2.hok.fresh hC
 freeC := fun y c e => I2.freeC y c (L.sub y c e)
 pin := fun p hp => by
  have e : p = (D, oD) := by simpa [Cx.inC] using hp
  subst e
  refine ⟨hoD, I2.hok.fresh hD, hDC, fun z => ?_, hdD⟩
  rcases List.mem_cons.mp (I2.stkSub D z) with e | e
  ·exact absurd I2.lt (by rw [← e]; exact Nat.not_lt.mpr hD)
  ·exact I2.nofs hD e
 hok := I2.hok.kept old
 len := by simp [Cx.inC]
theorem Qhz {elt iter tg : Expr} {g : TG} {xs : List Str} {pos cpos : Pos} {scope : Scope} {cl : List (Str × Addr)} {wi : TI} {te : TE} {js : List Nat} {use : Option (Value → Sem Unit)} {Qc : Q3} {pins : Q4} {s : Shared} {σ : St} {H : Hp} {Q : VK}
 (hc : X.calm = true) (L : LcOkT X xs scope cl js) (hi : PI X tg iter wi) (hg : ∀ C s2 H2 fp xe, PG (X.inC scope cl C s2 H2 fp (xs ++ js.map (fun j => X.N.getD j "")) xe) tg g)
 (he : ∀ C s2 H2 fp xe, PE (X.inC scope cl C s2 H2 fp (xs ++ js.map (fun j => X.N.getD j "")) xe) elt te)
 (hs : ∀ z, foldedSetIterable iter X.env z = pure z) (I : Inv X pins σ H s) (h : tLCT wi g te xs.length js σ H Q)
 (fin : ∀ (D C : Addr) (H4 : Hp) (s4 : Shared) (m : Str → Option Value), s4.heap.Ns C m → FpOk X pins H4 C → (∀ h', Heap.SameBut C s4.heap h' → Inv X pins σ H4 { s4 with heap := h' }) → Q (.ref D) H4 → compPost (model X.prog X.w) X.A X.xe use Qc (.ref D) C (.ok .next) s4) :
 wpAny (model X.prog X.w) X.A (comprehension (.ListComp elt [⟨tg, iter, [], 0⟩] scope pos) scope X.env cpos (newList []) false (eval iter X.env) use) Qc X.xe s := by
 refine wpAny_comprehension_free (cl := cl) (use := use) rfl hs L.clos L.kind L.names ?_
 refine thn (hi pins s σ H _ I h) fun v s1 h1 => thn h1 fun itv s2 h2 => ?_
 obtain ⟨it, fp, tn, J, H2, e, I2, T, st2, f2, W, ⟨k0, w0⟩, turn⟩ := h2
 subst e
 refine wpAny_newObj_type (wpAny_newFunctionEnv L.cell (by intro y hy; simp at hy) (fun h₁ hns₁ hsb₁ => ?_) L.kind)
 dsimp only at hns₁ hsb₁ ⊢
 generalize hH2 : s2.heap.push { cls := .type "list", dict := none, data := .seq ([] : List Value).toArray } = Hp2 at hns₁ hsb₁ ⊢
 have hC : Hp2.objs.size = s2.heap.objs.size + 1 := by rw [← hH2, Heap.size_push]
 generalize hD0 : s2.heap.objs.size = D at hC ⊢
 generalize hC0 : Hp2.objs.size = C at hC hns₁ hsb₁ ⊢
 have hDC : D ≠ C := by omega
 have below : ∀ b, b < D → b ≠ C := fun b hb => by omega
 have old : ∀ b o, s2.heap.get? b = some o → h₁.get? b = some o := fun b o e =>
  hsb₁.extBut b o (below b (by rw [← hD0]; exact Heap.lt_size e)) (Heap.get?_push_of_some _ (hH2 ▸ Heap.get?_push_of_some _ e))
 have hacc : h₁.get? D = some { cls := .type "list", data := .seq ([] : List Value).toArray 0 } := by
  subst hD0
  exact hsb₁.extBut _ _ hDC (Heap.get?_push_of_some _ (hH2 ▸ Heap.get?_push_size _ rfl))
 have fo : ∀ b ∈ fp, ∃ o, s2.heap.get? b = some o := fun b hb => let ⟨o, e, _⟩ := T.obj _ _ st2 b hb; ⟨o, e⟩
 have flt : ∀ b ∈ fp, b < D := fun b hb => let ⟨o, e⟩ := fo b hb; by rw [← hD0]; exact Heap.lt_size e
 have st1 : tn 0 h₁ := T.keep _ _ _ st2 fun b hb o e => old b o e
 let R := compPost (model X.prog X.w) X.A X.xe use Qc (.ref D) C
 let xe := notedBy (model X.prog X.w) X.A (compEnvC scope cl C X.env) fun e s' => R (.error e) s'
 let X' := X.inC scope cl C s2 H2 fp (xs ++ js.map (fun j => X.N.getD j "")) xe
 have I0 : ∀ {t' : Nat}, Inv X' [(D, _)] (xs.map (fun _ => none) ++ js.map (fun j => σ.getD j none)) H2 { s2 with heap := h₁, toks := t' } := fun {t'} =>
  Inv.inCT L I2 f2 fo (by omega) (by omega) hDC old hns₁ hacc (fun v z => by cases z)
 have fpk : ∀ {pD : Q4} {H' : Hp}, (∀ p ∈ pD, p.1 = D) → (∀ b ∈ fp, H' b = none) → ∀ b ∈ fp, FpOk X' pD H' b := fun {pD H'} hp hn b hb => by
  refine ⟨hn b hb, below b (flt b hb), fun z => ?_, .inl hb, fun y c e => (f2 b hb).2.2.2.2.1 y c (L.sub y c e), fun p hp' z => ?_⟩
  ·rcases List.mem_cons.mp (I2.stkSub b z) with e | e
   ·exact (f2 b hb).2.1 e
   ·exact (f2 b hb).2.2.1 e
  ·have q := hp p (by simpa [X', Cx.inC] using hp')
   have := flt b hb
   rw [← z, q] at this
   exact Nat.lt_irrefl _ this
 have loop : ∀ s3 : Shared, (∃ k i ys H' its n, ∃ σ0 : St, σ0.length = xs.length ∧ Inv X' [(D, { cls := .type "list", data := .seq (its : List Value).toArray n })] (σ0 ++ js.map (fun j => σ.getD j none)) H' s3 ∧ tn i s3.heap ∧ (∀ b ∈ fp, H' b = none) ∧ W i k ys H' ∧ Vals ys its ∧ ys.length ≤ sizeLine) →
  codeAny (model X.prog X.w) X.A (.compLoop (.ListComp elt [⟨tg, iter, [], 0⟩] scope pos) 0 (.ref it) (.ref D) (compEnvC scope cl C X.env)) R s3 := by
  rintro s3 ⟨k, hk⟩
  refine codeAny_loop rfl (fun k s3 => ∃ i ys H' its n, ∃ σ0 : St, σ0.length = xs.length ∧ Inv X' [(D, { cls := .type "list", data := .seq (its : List Value).toArray n })] (σ0 ++ js.map (fun j => σ.getD j none)) H' s3 ∧ tn i s3.heap ∧ (∀ b ∈ fp, H' b = none) ∧ W i k ys H' ∧ Vals ys its ∧ ys.length ≤ sizeLine) (fun k s3 hI => ?_) k hk
  obtain ⟨i, ys, H3, its, n, σ0, hσ0, I3, st3, fr3, w3, vy, hz⟩ := hI
  show wpAny _ _ ((compTurn (.ListComp elt [⟨tg, iter, [], 0⟩] scope pos) 0 (.ref it) (.ref D) (compEnvC scope cl C X.env)).onRaise (fun x => do noteFrame x (compEnvC scope cl C X.env); theTreesLotGoes x)) _ _ s3
  refine wpAny_noted ?_
  rw [compTurn_list1]
  have hpD : ∀ {o : Obj}, ∀ p ∈ [(D, o)], p.1 = D := fun p hp => by rw [List.mem_singleton.mp hp]
  refine wpAny_bind (wpAny_standAt (wpAny_bind ?_))
  rcases turn i k ys H3 w3 with ⟨stop, qn⟩ | ⟨go, hlen, N, hN, step⟩
  ·refine thn (T.done X' rfl rfl rfl hc i _ s3 _ H3 xe I3 (fpk hpD fr3) st3 stop) fun r s4 ⟨hr, I4⟩ => ?_
   subst hr
   refine wpAny_pure ?_
   obtain ⟨m, hn, _⟩ := I4.loc
   obtain ⟨eD, nD, _⟩ := I4.pin (D, _) (List.mem_append_right _ (List.mem_singleton.mpr rfl))
   have fC : FpOk X pins (upd H3 D (.lst ys)) C := I2.fpOk (by omega) (by
    rw [Qah (Ne.symm hDC)]
    exact I4.free)
   refine fin D C (upd H3 D (.lst ys)) s4 m hn fC (fun h' sb => ?_) (qn D nD)
   obtain ⟨hh, g, d, t, os'⟩ := s4
   obtain rfl : os' = s2.os := I4.os
   have kp : ∀ b o, b ≠ C → hh.get? b = some o → h'.get? b = some o := fun b o hb e => (sb.2 b hb).trans e
   have lt2 : ∀ b o, s2.heap.get? b = some o → b ≠ C ∧ b ≠ D := fun b o e => by
    have q : b < D := by rw [← hD0]; exact Heap.lt_size e
    exact ⟨below b q, Nat.ne_of_lt q⟩
   have B : Un (frs X.stack) fp H2 H3 s2.heap hh := I4.base
   have hDn : H3 D = none := nD
   have I5 : Inv X pins σ (upd H3 D (.lst ys)) { s2 with heap := h', gens := g, drawn := d, toks := t } := by
    refine I2.call (h' := h') (g' := g) (d' := d) (t' := t) (ch := fp) ⟨?_, ?_, ?_, ?_, ?_, ?_, ?_⟩ ?_ I4.bare ?_
    ·exact fun b o e n hb hx => kp b o (lt2 b o e).1 (B.keep b o e n hb hx)
    ·intro b o e n hb hx
     obtain ⟨sl, q⟩ := B.slot b o e n hb hx
     exact ⟨sl, kp b _ (lt2 b o e).1 q⟩
    ·intro b o e n hx
     rw [Qah (lt2 b o e).2]
     exact B.free b o e n hx
    ·intro b o e hx
     obtain ⟨o', q⟩ := B.there b o e hx
     exact ⟨o', kp b o' (lt2 b o e).1 q⟩
    ·intro b xs e
     have q := B.tups b xs e
     rw [Qah (Qai q hDn)]
     exact q
    ·intro b o u e
     have q := B.frzs b o u e
     rw [Qah (Qai q hDn)]
     exact q
    ·intro b ps e
     obtain ⟨more, q⟩ := B.tbls b ps e
     exact ⟨more, by rw [Qah (Qai q hDn)]; exact q⟩
    ·intro b u e
     by_cases hb : b = D
     ·subst hb
      rw [Qab] at e
      cases e
      exact ⟨hz, its, n, vy, kp _ _ hDC eD⟩
     ·rw [Qah hb] at e
      have nC : ∀ c o, H3 c = some o → c ≠ C := fun c o q => Qai q I4.free
      refine (I4.hok b u e).stay (fun c v hc' q => kp c v ?_ q) (fun c q => by rw [Qah (Qai q hDn)]; exact q) fun c xs q => by rw [Qah (Qai q hDn)]; exact q
      rcases hc' with z | z
      ·rw [z]; exact nC b u e
      ·exact nC c _ z
    ·intro b hb
     obtain ⟨_, f1, _, f3, f4, f5⟩ := f2 b hb
     exact ⟨f3, f1, f4, f5⟩
   exact I5
  ·refine thn (T.item X' rfl rfl rfl hc i _ s3 _ H3 xe I3 (fpk hpD fr3) st3 go) fun r s4 ⟨u, hr, h4⟩ => ?_
   subst hr
   refine wpAny_bind (thn h4 fun _ s5 ⟨xv, H5, I5, r5, y5, st5, fr5⟩ => ?_)
   have I5' := I5.pinned (fpk hpD fr5) (T.obj _ _ st5)
   refine wpAny_bind (thn (hg C s2 H2 fp xe _ s5 _ H5 xv u _ I5' r5 (step xv _ y5 σ0 hσ0)) fun _ s6 ⟨σ6, H6, I6, σ1, hσ1, e6, st6⟩ => ?_)
   subst e6
   refine wpAny_bind (wpAny_bind (thn (he C s2 H2 fp xe _ s6 _ _ _ I6 st6) fun y s7 ⟨yv, H7, I7, ry, n7⟩ => ?_))
   obtain ⟨m', hm, w7⟩ := hN yv H7 n7
   have I7' := I7.unpinned
   obtain ⟨eD, nD, neC, nfs, _⟩ := I7'.pin (D, _) (List.mem_append_right _ (List.mem_singleton.mpr rfl))
   have eD' : s7.heap.get? D = some { cls := .type "list", data := .seq its.toArray n } := eD
   have lv := vy.length
   refine wpAny_bind (call_meets F.slot_list_append ⟨_, eD', rfl⟩ F.entry_list_append (F.args_list_append_2 _ _) (PySem.list_append D its.toArray n y (by rw [List.size_toArray]; omega)) ⟨eD', ?_⟩)
   refine wpAny_pure (wpAny_pure ⟨rfl, m', hm, i + 1, ys ++ [yv], H7, its ++ [y], ?_⟩)
   have q := PySem.IsL.update eD' (fun a : Array Value => a.push y)
   have I8 : Inv X' [] (σ1 ++ js.map (fun j => σ.getD j none)) H7 { s7 with heap := s7.heap.update D (Obj.mapSeq (fun a : Array Value => a.push y)) } :=
    (I7'.Qcp (pins' := []) (fun p hp => nomatch hp)).turned (t' := s7.toks) (it := D) (fun b o hb e => (Heap.get?_update_other s7.heap _ (Ne.symm hb)).trans e) nD neC (.inr (by show s2.heap.objs.size ≤ D; omega))
     (fun z c e w => by
      obtain ⟨v', o', ho', _⟩ := I2.cell z c (L.sub z c e)
      have := Heap.lt_size ho'
      rw [w, hD0] at this
      exact Nat.lt_irrefl _ this) (fun p hp => nomatch hp)
   have pinf : ∀ b ∈ fp, ∀ o, s5.heap.get? b = some o → s7.heap.get? b = some o ∧ H7 b = none := fun b hb o e => by
    have z := I7.pin (b, o) (List.mem_append_right _ (List.mem_append_right _ (Qbu hb e)))
    exact ⟨z.1, z.2.1⟩
   obtain ⟨n', q'⟩ : ∃ n', (s7.heap.update D (Obj.mapSeq (fun a : Array Value => a.push y))).get? D = some { cls := .type "list", data := .seq (its ++ [y]).toArray n' } := by
    rw [show (its ++ [y]).toArray = its.toArray.push y by simp]
    exact ⟨_, q⟩
   refine ⟨n', σ1, hσ1, I8.Qcp fun p hp => ?_, ?_, fun b hb => ?_, w7, vy.append (.cons ry .nil), by rw [List.length_append, List.length_singleton]; omega⟩
   ·rw [List.mem_singleton.mp hp]
    exact ⟨q', nD, neC, nfs, fun v z => by cases z⟩
   ·refine T.keep _ _ _ st5 fun b hb o e => ?_
    have hb' : D ≠ b := fun z => by
     have := flt b hb
     rw [← z] at this
     exact Nat.lt_irrefl _ this
    exact (Heap.get?_update_other s7.heap _ hb').trans (pinf b hb o e).1
   ·obtain ⟨o, e, _⟩ := T.obj _ _ st5 b hb
    exact (pinf b hb o e).2
 have start : ∀ {t' : Nat}, ∃ k i ys H' its n, ∃ σ0 : St, σ0.length = xs.length ∧ Inv X' [(D, { cls := .type "list", data := .seq (its : List Value).toArray n })] (σ0 ++ js.map (fun j => σ.getD j none)) H' { s2 with heap := h₁, toks := t' } ∧ tn i h₁ ∧ (∀ b ∈ fp, H' b = none) ∧ W i k ys H' ∧ Vals ys its ∧ ys.length ≤ sizeLine := fun {t'} =>
  ⟨k0, 0, [], H2, [], 0, xs.map (fun _ => none), List.length_map .., I0, st1, fun b hb => (f2 b hb).1, w0, .nil, Nat.zero_le _⟩
 exact codeAny_compStart_list (loop _ start) (T.self X.A 0 _ _ _ st1 (loop _ start))
theorem Qnf {elt iter tg : Expr} {g : TG} {xs : List Str} {pos : Pos} {scope : Scope} {cl : List (Str × Addr)} {wi : TI} {te : TE} (js : List Nat) (hc : X.calm = true) (L : LcOkT X xs scope cl js) (hi : PI X tg iter wi)
 (hg : ∀ C s2 H2 fp xe, PG (X.inC scope cl C s2 H2 fp (xs ++ js.map (fun j => X.N.getD j "")) xe) tg g)
 (he : ∀ C s2 H2 fp xe, PE (X.inC scope cl C s2 H2 fp (xs ++ js.map (fun j => X.N.getD j "")) xe) elt te)
 (hs : ∀ z, foldedSetIterable iter X.env z = pure z := by intro _; rfl) :
 PE X (.ListComp elt [⟨tg, iter, [], 0⟩] scope pos) (tLCT wi g te xs.length js) := by
 intro pins s σ H Q I h
 rw [eval_ListComp]
 exact Qhz (use := none) hc L hi hg he hs I h fun D C H4 s4 m hn _ I4 q => ⟨m, hn, fun h' sb => ⟨.ref D, H4, I4 h' sb, rfl, q⟩⟩
theorem LcOkT.plain {X : Cx} {xs : List Str} {scope : Scope} (hfree : ∀ y ∈ scope.names, y.2 ≠ .free) (hcell : ∀ y ∈ scope.names, y.2 ≠ .cell) (hkind : scope.kind = .function) (hnames : ∀ y ∈ scope.names, y.2 = .local → scope.names.lookup y.1 = some .local)
 (hloc : ∀ x ∈ xs, scope.names.lookup x = some .local) (hnd : xs.Nodup) : LcOkT X xs scope [] [] where
 clos := closureFor_none hfree
 sub := fun _ _ e => nomatch e
 kind := hkind
 cell := hcell
 names := hnames
 loc := hloc
 has := fun y h => by
  rcases h with h | h
  ·exact (Qba hfree hcell h).elim
  ·exact (Qba hfree hfree h).elim
 nd := by simpa using hnd
 fr := fun _ h => nomatch h
end
end L2
namespace L2
open PySem PySem.Spec PyProof.Rows PySem.W PySem.Calls L3
theorem Qlh : ∀ {ns : List Int}, WData.weightAll (ns.map WData.int) ≤ 2 ^ 20 → ∀ w ∈ ns, Builtin.Int.intBits w ≤ 2 ^ 20
 | [], _, w, h => nomatch h
 | n :: ns, h, w, hw => by
   have h' : WData.weight (.int n) + 1 + WData.weightAll (ns.map WData.int) ≤ 2 ^ 20 := h
   rcases List.mem_cons.mp hw with rfl | m
   ·have e : WData.weight (.int w) = if w == 0 then 0 else w.natAbs.log2 + 1 := rfl
    rw [e] at h'
    unfold Builtin.Int.intBits
    by_cases c : w = 0
    ·subst c
     simp
    ·simp [c] at h' ⊢
     omega
   ·exact Qlh (by omega) w m
theorem Qgm {l : OpenLaw} {n : Nat} {q : Program} {loose : List Str} {XP : (Str → Option Value) → Heap → Prop} {YP : World → Heap → Prop} {d : DefRec}
 (hn : l.most = some n) (hdf : d.params.defaults = [])
 (call : ∀ (w : World) (s₀ s₁ : Shared) (mg mb : Str → Option Value) (fa : Addr) (o : Obj) (pm cd doc : Value) (a : Addr) (vs : List Value) (ns : List Int),
  Ground q loose [] XP w s₀ mg mb s₁.heap → YP w s₁.heap →
  s₁.heap.get? fa = some o → o.data = .func (docDef d.name d.params d.body d.scope pm cd doc) → s₁.heap.CodeRec cd d.name → mg d.name = some (.ref fa) →
  s₁.heap.get? a = some { cls := .type "list", data := .seq vs.toArray } → IntsAre vs ns → ns.length ≤ n → (∀ w ∈ ns, Builtin.Int.intBits w ≤ 2 ^ 20) → s₁.gens = #[] →
  codeAny (model l.prog w) callerA (.call (.ref fa) ⟨[.ref a], []⟩) (fun r s' => r = .ok (.ret (.bool true)) ∧ OldK s₁.heap s'.heap ∧ s'.os = s₁.os ∧ AllBare s'.gens) s₁) :
 WalkO q loose XP YP l.row.toRowW d [] (fun f vs => PySem.call f vs) := by
 intro w s₀ s₁ mg mb G Y fa o pm cd doc dV kV ho hd hcd hD hmg hg args vals as hpre hlay hrd hwl hlo
 obtain rfl : dV = .none := Dflts.none hD hdf
 obtain rfl : kV = .none := Dflts.noKw hD
 obtain ⟨a, vs, ns, rfl, rfl, hobj, hints, hlen⟩ := Att.Qjg hn hpre hwl
 have hb : ∀ w ∈ ns, Builtin.Int.intBits w ≤ 2 ^ 20 := by
  have h1 : WData.layable (.list (ns.map WData.int)) = true := by
   have := hlay
   unfold WData.layableAll at this
   simpa using this
  unfold WData.layable at h1
  rw [Bool.and_eq_true, decide_eq_true_eq] at h1
  exact Qlh h1.2
 refine enter_call (codeAny_mono (call w s₀ s₁ mg mb fa o pm cd doc a vs ns G Y ho (fd_plain hd) hcd hmg hobj hints hlen hb hg) fun r s' hq => ?_)
 obtain ⟨rfl, h2, h3, h4⟩ := hq
 exact ⟨.inl ⟨.bool true, .bool true, [], rfl, fun _ => rfl, .bool true, Att.Qjt l _, fun _ => ⟨List.Pairwise.nil, fun _ hm => (nomatch hm)⟩⟩, h2, h3, h4⟩
theorem Qlk {l : PySem.W.OpenLaw} {n k : Nat} {q : Program} {loose : List Str} {XP : (Str → Option Value) → Heap → Prop} {YP : World → Heap → Prop} {d : DefRec} {K : Params → PySem.W.Frag} {CX : World → CXT} {sp : World → Sp} {x : Str}
 (hn : l.most = some n) (hn2 : n ≤ sizeLine) (hdf : d.params.defaults = []) (hr : Room true k callerA)
 (hY : ∀ (w : World) (h : Heap), YP w h → (K w.params).In h)
 (F : ∀ (w : World) (mg : Str → Option Value) (fa : Addr) (h : Heap), (K w.params).In h → h.Ns mainGlobals mg → mg d.name = some (.ref fa) →
  ∃ fd : FuncData, (∀ (s : Shared) (u : Value), BindsTo s fd ⟨[u], []⟩ [(x, u)]) ∧
    ∀ base : Heap, (K w.params).In base → base.Ns mainGlobals mg → FnOk l.prog w (K w.params) mg base (CX w) true k fa fd [x] (sp w))
 (hsp : ∀ (w : World) (H : Hp) (a : Addr) (ns : List Int), ns.length ≤ n → (∀ w ∈ ns, Builtin.Int.intBits w ≤ 2 ^ 20) → Only H → SqL (K w.params) H a (ns.map V.int) → sp w [.ref a] H (fun v _ => v = .bl true) fun _ _ _ => False)
 (hCX : ∀ (w : World) (H : Hp) (s : Shared) (e : Value) (s' : Shared), CX w [] H s (fun _ _ _ => False) e s' → False) :
 PySem.W.WalkO q loose XP YP l.row.toRowW d [] (fun f vs => PySem.call f vs) := by
 refine Qgm hn hdf fun w s₀ s₁ mg mb fa o pm cd doc a vs ns G Y ho hd hcd hmg hobj hints hlen hb2 hg => ?_
 have KX := hY w _ Y
 obtain ⟨fd, hb, hF⟩ := F w mg fa _ KX G.T.g hmg
 exact Qme KX G.T.g G.T.b G.T.builtins G.T.nolimit hg hobj hints (Nat.le_trans hlen hn2) hr hF hb (fun H hO hS => hsp w H a ns hlen hb2 hO hS) fun H e s' => hCX w H s₁ e s'
end L2
namespace L2
open PySem PySem.Spec PyProof.Rows L3
theorem Qc2 {K : Q5} {a : Addr} {xs : List V} {T : V → Hp → VK → Prop} {B : V → Hp → (Bool → Hp → Prop) → Prop} {R : Addr → Hp → List V → Prop} {H : Hp} (Pv : Nat → List V → Hp → Prop) (h0 : Pv 0 [] H) (hn : xs.length ≤ sizeLine) (hl : ∀ i ys H, i ≤ xs.length → Pv i ys H → SqL K H a xs ∧ ys.length ≤ i)
 (hs : ∀ i x ys H, xs[i]? = some x → Pv i ys H → B x H fun b H2 => if b = true then T x H2 (fun y H3 => Pv (i + 1) (ys ++ [y]) H3) else Pv (i + 1) ys H2) (hd : ∀ ys H, Pv xs.length ys H → ∀ l, H l = none → R l H ys) :
 ∃ W : Nat → Nat → List V → Hp → Prop, (∃ m, W 0 m [] H) ∧ ∀ i m ys H, W i m ys H →
   ((Itl K a).stop i H ∧ ∀ l, H l = none → R l H ys) ∨ ((Itl K a).go i H ∧ ys.length < sizeLine ∧ ∃ (N : VK) (S : Hp → Prop), (∀ y H2, N y H2 → ∃ m', m' < m ∧ W (i + 1) m' (ys ++ [y]) H2) ∧ (∀ H2, S H2 → ∃ m', m' < m ∧ W (i + 1) m' ys H2) ∧
     ∀ x H', (Itl K a).yld i H x H' → B x H' fun b H2 => if b = true then T x H2 N else S H2) := by
 refine ⟨fun i m ys H => m = xs.length - i ∧ i ≤ xs.length ∧ Pv i ys H, ⟨xs.length, by simp, Nat.zero_le _, h0⟩, ?_⟩
 rintro i m ys H ⟨rfl, hi, p⟩
 obtain ⟨q, hy⟩ := hl i ys H hi p
 by_cases hlt : i < xs.length
 ·refine .inr ⟨⟨xs, xs[i], q, by simp [hlt]⟩, by omega, fun y H2 => Pv (i + 1) (ys ++ [y]) H2, fun H2 => Pv (i + 1) ys H2, fun y H2 p' => ⟨xs.length - (i + 1), by omega, rfl, hlt, p'⟩, fun H2 p' => ⟨xs.length - (i + 1), by omega, rfl, hlt, p'⟩, fun x H' ⟨e, y⟩ => ?_⟩
  subst e
  exact hs i x ys _ (y xs q) p
 ·have e : i = xs.length := by omega
  subst e
  exact .inl ⟨⟨xs, q, Nat.le_refl _⟩, hd ys H p⟩
theorem Qc0 {X : Cx} {xs : List Str} {scope : Scope} {cl : List (Str × Addr)} {js : List Nat} {C : Addr} {s2 : Shared} {H2 : Hp} {fp : List Addr} {xe : Q3} {i : Nat} {x : Str} {px : Pos} (L : LcOkT X xs scope cl js) (hi : (xs ++ js.map (fun j => X.N.getD j ""))[i]? = some x) (hx : x ∈ xs) :
 PG (X.inC scope cl C s2 H2 fp (xs ++ js.map (fun j => X.N.getD j "")) xe) (.Name x px) (gName i) :=
 Qak (X := X.inC scope cl C s2 H2 fp (xs ++ js.map (fun j => X.N.getD j "")) xe) L.nd hi (Or.inl (lookup_relabel_local (L.loc x hx))) (Or.inr (lookup_relabel_local (L.loc x hx)))
theorem Qhp {X : Cx} {x1 x2 : Str} {p1 p2 pos : Pos} {k : Nat} {scope : Scope} {cl : List (Str × Addr)} {js : List Nat} (hc : X.calm = true) (L : LcOkT X [x1, x2] scope cl js) :
 ∀ (C : Addr) (s2 : Shared) (H2 : Hp) (fp : List Addr) (xe : Q3), PG (X.inC scope cl C s2 H2 fp ([x1, x2] ++ js.map (fun j => X.N.getD j "")) xe) (.Tuple [.Name x1 p1, .Name x2 p2] k pos) (gTup X.K 2 (gCons (gName 0) (gCons (gName 1) gNil))) := fun C s2 H2 fp xe =>
 Qcc (X := X.inC scope cl C s2 H2 fp ([x1, x2] ++ js.map (fun j => X.N.getD j "")) xe) hc (Qam (Qc0 (i := 0) L rfl List.mem_cons_self) (Qam (Qc0 (i := 1) L rfl (List.mem_cons_of_mem _ List.mem_cons_self)) Qbx))
theorem Qkh {zs : List Str} (h : zs.length ≤ 8) (h1 : ∀ z ∈ zs, z.length = 1) : JoinOk "" zs = true := by
 unfold JoinOk
 rw [Bool.not_eq_true', StrLaws.joinTotal]
 have s : (zs.map (·.length)).sum = zs.length := by
  clear h
  induction zs with
  | nil => rfl
  | cons z r ih =>
    rw [List.map_cons, List.sum_cons, ih fun y hy => h1 y (List.mem_cons_of_mem _ hy), h1 z List.mem_cons_self, List.length_cons]
    omega
 rw [s]
 have e : ("" : Str).length = 0 := rfl
 rw [e]
 unfold Builtin.Str.tooLong
 have hline : 600 ≤ sizeLine := by decide
 exact decide_eq_false (by omega)
end L2
namespace PySem.W
open PySem PySem.Calls PyProof.Rows PyProof.V PySem.Spec
section
variable {prog : Program} {w : World} {A : Around} {E : Q3}
theorem Qit : typeLookup (.type "list") "keys" = pure none := by rw [typeLookup_type, builtinLookup_eq_fast]; kernel_rfl
theorem Qef {s : Shared} {a : Addr} {o : Obj} {xs : Array Value} {k : Nat} {Q : Option Value → Shared → Prop} (hx : s.heap.get? a = some o) (hc : o.cls = .type "list") (hdat : o.data = .seq xs k) (hd : o.dict = none) (hA : A.handled = none)
 (hq : ∀ h' tk e, Heap.NewExcOf s.heap h' e "AttributeError" → Q none { s with heap := h', toks := tk }) :
 wpAny (model prog w) A (getAttr? (.ref a) "keys") Q E s := by
 obtain ⟨c, dct, dat, sl⟩ := o
 simp only at hc hdat hd
 subst hc hdat hd
 obtain ⟨hp, g, d, tk, os⟩ := s
 have hT : ∀ tk', (⟨hp, g, d, tk', os⟩ : Shared).TypeIs (.ref a) "list" := fun _ => ⟨_, hx, rfl⟩
 have f1 := sub_AttributeError
 have f3 := F.slot_list_getattribute.lookup
 have f4 := F.slot_list_getattribute.bind (.ref a)
 have f5 := am_list_getattr_none
 have hname : (["__module__", "__name__", "__qualname__", "__doc__", "__annotations__"] : List Str).contains "keys" = false := by decide+kernel
 have hsz : ("keys" : Str).length + 100 ≤ sizeLine := by decide+kernel
 unfold getAttr? getAttrBy? getAttrBy
 repeat (any_goals (first | assumption | exact hT _ | ((with_reducible show wpAny _ _ (call (Value.builtin "list.__getattribute__") _ _) _ _ _); refine call_meets F.slot_list_getattribute (hT _) am_entry_list_getattribute (F.args_list_getattribute_2 _ _) (meets_getattribute_miss_list a xs k sl "keys" _ Qit hname hsz) ⟨hx, hA, fun h' tk' e hx' => ?_⟩) | wp_step))
 obtain ⟨t', u', he⟩ := hx'.there
 show wpAny _ _ (getattributeRaised _ _ _ _ _ _ _) _ _ _
 unfold getattributeRaised
 repeat (any_goals (first | assumption | wp_step))
 exact hq _ _ _ hx'.of
theorem Qcv : entryFor table "dict.update.loop" = some Builtin.«dict.update.loop» := entryFor_of_fast (by kernel_rfl)
theorem Qb0 : plainId "dict.update.loop" = true := by decide+kernel
variable {K : Type} [DecidableEq K] {knd : KeyKind prog w K}
structure PairAt (knd : KeyKind prog w K) (h : Heap) (v : Value) (k : K) (x : Value) : Prop where
 is : ∃ a key, v = .ref a ∧ knd.is k key = true ∧ IsTup h a #[key, x]
theorem Ql1 {s : Shared} {d : Addr} {kvs : List (K × Value)} {v x : Value} {k : K} {Q : Unit → Shared → Prop} (i : Int) (p : PairAt knd s.heap v k x) (hm : s.heap.DictOf knd d kvs) (hsz : kvs.length ≤ sizeLine)
 (hQ : ∀ h', h'.DictOf knd d (stored kvs k x) → Heap.SameBut d s.heap h' → Q () { s with heap := h', toks := s.toks + 1 }) :
 wpAny (model prog w) A (holding [v] (do
  let pair ← (Builtin.Dict.pairItems v).tryCatch fun e => do
   if !(← isInstance e (.type "TypeError")) then throw e
   rule "dict.update.element-no-sequence"
   raiseError "TypeError" s!"cannot convert dictionary update sequence element #{i} to a sequence"
  match pair with
  | [k, v] => holding [k, v] (dictSet d k v)
  | l =>
    rule "dict.update.element-length"
    raiseError "ValueError" s!"dictionary update sequence element #{i} has length {l.length}; 2 is required")) Q E s := by
 obtain ⟨a, key, rfl, hk, o, ho, hc, n, hd⟩ := p.is
 refine wpAny_holding ?_
 have hT : s.TypeIs (.ref a) "tuple" := ⟨o, ho, hc⟩
 refine wpAny_bind (wpAny_tryCatch ?_)
 unfold Builtin.Dict.pairItems
 refine wpAny_bind (wpAny_typeOf hT ?_)
 rw [if_pos (by decide+kernel)]
 refine wpAny_bind (wpAny_seqItems ho hd (wpAny_pure ?_))
 show wpAny _ _ (holding [key, x] (dictSet d key x)) _ _ _
 exact wpAny_holding (wpAny_dictSet_pairs hk hm hQ hsz)
def storedAll (kvs : List (K × Value)) (ps : List (K × Value)) : List (K × Value) := ps.foldl (fun acc p => stored acc p.1 p.2) kvs
theorem Qll {s : Shared} {d it l : Addr} {items : List Value} {ps : List (K × Value)} {R : Result → Shared → Prop} (hh : A.handled = none) (hdi : d ≠ it) (hil : it ≠ l) (hdl : d ≠ l) (hlen : items.length = ps.length) (hn : ps.length ≤ 10 ^ 6) {h₁ : Heap}
 (old : ∀ (j : Nat) v p, items[j]? = some v → ps[j]? = some p → PairAt knd h₁ v p.1 p.2 ∧ v ≠ .ref d ∧ v ≠ .ref it)
 (hR : ∀ h' tk, h'.DictOf knd d (storedAll [] ps) → (∀ b o, b ≠ d → b ≠ it → h₁.get? b = some o → h'.get? b = some o) → R (.ok (.ret .none)) { s with heap := h', toks := tk }) :
 ∀ (k i : Nat) (h : Heap) (tk : Nat), ps.length - i = k → i ≤ ps.length → h.IsListIter it l i → h.IsList l items.toArray → h.DictOf knd d (storedAll [] (ps.take i)) → (∀ b o, b ≠ d → b ≠ it → h₁.get? b = some o → h.get? b = some o) →
   codeAny (model prog w) A (.builtin "dict.update.loop" ⟨[.ref d, .ref it, rawInt i, .none], []⟩) R { s with heap := h, toks := tk } := by
 have hline : 10 ^ 6 ≤ sizeLine := by decide
 have hst : ∀ (n : Nat), (storedAll ([] : List (K × Value)) (ps.take n)).length ≤ n := by
  intro n
  have all : ∀ (qs kvs : List (K × Value)), (storedAll kvs qs).length ≤ kvs.length + qs.length := by
   intro qs
   induction qs with
   | nil => intro kvs; exact Nat.le_refl _
   | cons q qs ih =>
     intro kvs
     have h1 := ih (stored kvs q.1 q.2)
     have h2 : (stored kvs q.1 q.2).length ≤ kvs.length + 1 := by
      unfold stored
      split <;> simp
     show (storedAll (stored kvs q.1 q.2) qs).length ≤ _
     rw [List.length_cons]
     omega
  have := all (ps.take n) []
  rw [List.length_take] at this
  simp at this
  omega
 intro k
 induction k with
 | zero =>
   intro i h tk hk hi hit hl hm keep
   have hin : i = ps.length := by omega
   subst hin
   refine codeAny_builtin Qcv ?_
   rw [Around.under_plainId Qb0 _]
   show wpAny _ A.in1 (pyNext (.ref it) >>= _) _ _ _
   refine wpAny_bind (wpAny_pyNext_list_end (s := { s with heap := h, toks := tk }) hh hit hl (by simp [hlen]) fun h' he => ?_)
   rw [List.take_length] at hm
   refine wpAny_bind (wpAny_pure ?_)
   refine wpAny_pure (hR h' tk (hm.extBut he hdi) fun b o h1 h2 e => he b o h2 (keep b o h1 h2 e))
 | succ k ih =>
   intro i h tk hk hi hit hl hm keep
   have hlt : i < ps.length := by omega
   obtain ⟨v, hv⟩ : ∃ v, items[i]? = some v := ⟨items[i], List.getElem?_eq_getElem (by omega)⟩
   obtain ⟨p, hp⟩ : ∃ p, ps[i]? = some p := ⟨ps[i], List.getElem?_eq_getElem hlt⟩
   obtain ⟨⟨a, key, rfl, hkk, o, ho, hc, n, hd⟩, nd, ni⟩ := old i v p hv hp
   refine codeAny_builtin Qcv ?_
   rw [Around.under_plainId Qb0 _]
   show wpAny _ A.in1 (pyNext (.ref it) >>= _) _ _ _
   refine wpAny_bind (wpAny_pyNext_list_item (s := { s with heap := h, toks := tk }) hit hl (x := .ref a) (by simpa using hv) fun h' hit' sb => ?_)
   have ad : a ≠ d := fun e => nd (by rw [e])
   have ai : a ≠ it := fun e => ni (by rw [e])
   have ha' : h'.get? a = some o := (sb.2 a ai).trans (keep a o ad ai ho)
   refine wpAny_bind (Ql1 (s := { s with heap := h', toks := tk }) (knd := knd) (i : Int) (k := p.1) (x := p.2) ⟨a, key, rfl, hkk, o, ha', hc, n, hd⟩ (hm.extBut sb.extBut hdi) (Nat.le_trans (hst i) (by omega)) fun h2 hm2 sb2 => ?_)
   refine wpAny_pure ⟨plainId_quiet Qb0 _, ?_⟩
   have := ih (i + 1) h2 (tk + 1) (by omega) hlt ?_ ?_ ?_ ?_
   ·exact this
   ·obtain ⟨oi, h1, h3⟩ := hit'
    exact ⟨oi, (sb2.2 it (Ne.symm hdi)).trans h1, h3⟩
   ·obtain ⟨ol, h1, h3⟩ := hl
    exact ⟨ol, (sb2.2 l (Ne.symm hdl)).trans ((sb.2 l (Ne.symm hil)).trans h1), h3⟩
   ·rw [List.take_succ, hp]
    unfold storedAll at hm2 ⊢
    rw [List.foldl_append]
    exact hm2
   ·intro b o' h1 h2' e
    exact (sb2.2 b h1).trans ((sb.2 b h2').trans (keep b o' h1 h2' e))
theorem Qea {s : Shared} {l : Addr} {o : Obj} {n : Nat} {items : List Value} {ps : List (K × Value)} {Q : Q3} (hh : A.handled = none) (ho : s.heap.get? l = some o) (hc : o.cls = .type "list") (hd : o.dict = none) (hdat : o.data = .seq items.toArray n) (hlen : items.length = ps.length) (hn : ps.length ≤ 10 ^ 6)
 (old : ∀ (j : Nat) v p, items[j]? = some v → ps[j]? = some p → PairAt knd s.heap v p.1 p.2)
 (hQ : ∀ h' tk, h'.DictOf knd s.heap.objs.size (storedAll [] ps) → (∀ b o, s.heap.get? b = some o → h'.get? b = some o) → Q (.ref s.heap.objs.size) { s with heap := h', toks := tk }) :
 wpAny (model prog w) A (call (.type "dict") [.ref l]) Q E s := by
 refine callType_codes (Q₁ := fun obj s₁ => obj = .ref s.heap.objs.size ∧ s₁ = { s with heap := s.heap.push { cls := .type "dict", data := .dict #[] } }) F.kt_called_dict (F.kt_typeCall_dict_1 _) F.entry_dict_init (kt_code_dict_new _ ⟨rfl, rfl⟩) ?_
 rintro obj s₁ ⟨rfl, rfl⟩
 have hnew : (s.heap.push { cls := .type "dict", data := .dict #[] }).DictOf knd s.heap.objs.size [] := Heap.DictOf.new s.heap
 have ho' : (s.heap.push { cls := .type "dict", data := .dict #[] }).get? l = some o := Heap.get?_push_of_some _ ho
 have hll : l < s.heap.objs.size := Heap.lt_size ho
 refine ⟨hnew.typeIs, F.args_dict_init_2 _ _, ?_⟩
 unfold Builtin.«dict.__init__»
 refine wpAny_bind ?_
 unfold Builtin.Dict.selfAndRest
 refine wpAny_bind (wpAny_notOrdered_dict hnew.typeIs ?_)
 show wpAny _ _ (pure (s.heap.objs.size, [Value.ref l])) _ _ _
 refine wpAny_pure ?_
 show wpAny _ _ (Builtin.Dict.updateFrom "dict.__init__" s.heap.objs.size (.ref l) [] .none) _ _ _
 unfold Builtin.Dict.updateFrom
 refine wpAny_bind (wpAny_typeOf (T := "list") ⟨_, ho', hc⟩ ?_)
 rw [if_pos (by decide+kernel)]
 refine wpAny_bind ?_
 refine Qef (s := { s with heap := s.heap.push { cls := .type "dict", data := .dict #[] } }) ho' hc hdat hd hh fun h' tk e hx => ?_
 rw [if_pos (show (none : Option Value).isNone = true from rfl)]
 refine wpAny_bind (wpAny_rule ?_)
 have hk1 : ∀ b ob, s.heap.get? b = some ob → h'.get? b = some ob := fun b ob hb => hx.keeps b ob (Heap.get?_push_of_some _ hb)
 have hl' : h'.IsList l items.toArray := ⟨o, hk1 l o ho, hc, n, hdat⟩
 have hd' : h'.DictOf knd s.heap.objs.size [] := by
  obtain ⟨od, es, ep, h1, r⟩ := hnew
  exact ⟨od, es, ep, hx.keeps _ _ h1, r⟩
 have hlt' : s.heap.objs.size < h'.objs.size := by
  obtain ⟨od, es, ep, h1, r⟩ := hd'
  exact Heap.lt_size h1
 refine wpAny_bind (wpAny_pyIter_list (s := { s with heap := h', toks := tk }) hl' ?_)
 refine wpAny_pure ⟨plainId_quiet Qb0 _, ?_⟩
 have hold : ∀ b ob, s.heap.get? b = some ob → (h'.push { cls := .type "list_iterator", data := .fields #[.ref l, .int 0 0] }).get? b = some ob := fun b ob hb => Heap.get?_push_of_some _ (hk1 b ob hb)
 refine Qll (s := s) (A := A.in1) (knd := knd) (d := s.heap.objs.size) (it := h'.objs.size) (l := l) (items := items) (ps := ps) (h₁ := s.heap) hh (Nat.ne_of_lt hlt') (Nat.ne_of_gt (Nat.lt_trans hll hlt')) (Nat.ne_of_gt hll) hlen hn (fun j v p e1 e2 => ?_) (fun h2 tk2 dd keep => ?_) ps.length 0 _ _ (Nat.sub_zero _) (Nat.zero_le _) ⟨_, Heap.get?_push_size _ rfl, rfl, rfl⟩ ⟨o, Heap.get?_push_of_some _ (hk1 l o ho), hc, n, hdat⟩ (hd'.push _) (fun b ob _ _ hb => hold b ob hb)
 ·have q := old j v p e1 e2
  obtain ⟨a, key, rfl, hkk, o2, ho2, hc2, n2, hd2⟩ := q.is
  have hal := Heap.lt_size ho2
  refine ⟨q, fun z => ?_, fun z => ?_⟩
  ·injection z with z
   exact absurd hal (by rw [z]; exact Nat.lt_irrefl _)
  ·injection z with z
   exact absurd (Nat.lt_trans hal hlt') (by rw [z]; exact Nat.lt_irrefl _)
 ·refine ⟨rfl, hQ h2 tk2 dd fun b ob hb => keep b ob (Nat.ne_of_lt (Heap.lt_size hb)) ?_ hb⟩
  exact Nat.ne_of_lt (Nat.lt_trans (Heap.lt_size hb) hlt')
end
end PySem.W
namespace L2
open PySem PySem.Spec PyProof.Rows L3
section
variable {X : Cx}
def putAll (kvs : List (Key × V)) (ps : List (Key × V)) : List (Key × V) := ps.foldl (fun acc p => putK acc p.1 p.2) kvs
theorem KV.putAll : ∀ {ps : List (Key × V)} {qs : List (Key × Value)} {kvs : List (Key × V)} {vs : List (Key × Value)}, KV ps qs → KV kvs vs → KV (putAll kvs ps) (PySem.W.storedAll vs qs) := by
 intro ps qs kvs vs r
 unfold KV at r
 induction r generalizing kvs vs with
 | nil => intro q; exact q
 | @cons p q ps qs h t ih =>
   intro r0
   have e : KV (putK kvs p.1 p.2) (stored vs q.1 q.2) := by
    have := r0.put p.1 h.2
    rw [← h.1]
    exact this
   exact ih e
theorem Qes : ∀ (ps kvs : List (Key × V)), (putAll kvs ps).length ≤ kvs.length + ps.length
 | [], kvs => Nat.le_refl _
 | p :: r, kvs => by
   have h1 := Qes r (putK kvs p.1 p.2)
   have h2 := Qbs kvs p.1 p.2
   show (putAll (putK kvs p.1 p.2) r).length ≤ _
   rw [List.length_cons]
   omega
def rDictPairs (K : Q5) : List V → Hp → VK → Prop := fun xs H Q => ∃ (l : Addr) (L : List (Addr × Key × V)), xs = [.ref l] ∧ H l = some (.lst (L.map fun z => .ref z.1)) ∧ L.length ≤ 10 ^ 6 ∧ (∀ z ∈ L, H z.1 = some (.tup [kV z.2.1, z.2.2])) ∧
 ∀ d, H d = none → Q (.ref d) (upd H d (.dK (putAll [] (L.map (·.2)))))
theorem Qhl : ∀ {L : List (Addr × Key × V)} {its : List Value}, Vals (L.map fun z => V.ref z.1) its → its = L.map fun z => Value.ref z.1
 | [], _, .nil => rfl
 | z :: L, _, .cons r t => by
   rw [Qhl t, List.map_cons]
   cases r
   rfl
theorem Qgf (hc : X.calm = true) : CallR X (.type "dict") (rDictPairs X.K) := by
 intro pins s σ H xs us Q I rv h
 obtain ⟨l, L, rfl, hl, hn, hL, q⟩ := h
 obtain ⟨u, rfl, ru⟩ := rv.one
 cases ru
 obtain ⟨z, its, n, r, e⟩ := I.hok l _ hl
 have hits := Qhl r
 subst hits
 have hex : ∃ qs : List (Key × Value), KV (L.map (·.2)) qs ∧ ∀ (j : Nat) v p, (L.map fun z => Value.ref z.1)[j]? = some v → qs[j]? = some p → PySem.W.PairAt (mixKind X.prog X.w) s.heap v p.1 p.2 := by
  clear r e q hl z hn
  induction L with
  | nil => exact ⟨[], .nil, fun j v p h => by simp at h⟩
  | cons y L ih =>
    obtain ⟨qs, rel, hp⟩ := ih fun z hz => hL z (List.mem_cons_of_mem _ hz)
    obtain ⟨_, ts, rt, o, ho, hcl, n2, hdt⟩ := I.hok y.1 _ (hL y List.mem_cons_self)
    cases rt with
    | cons r1 rr =>
      obtain ⟨u2, rfl, r2⟩ := Vals.one rr
      rename_i u1
      refine ⟨(y.2.1, u2) :: qs, .cons ⟨rfl, r2⟩ rel, fun j v p e1 e2 => ?_⟩
      cases j with
      | zero =>
        cases e1
        cases e2
        exact ⟨y.1, u1, rfl, Qiu r1, o, ho, hcl, n2, hdt⟩
      | succ j => exact hp j v p (by simpa using e1) (by simpa using e2)
 obtain ⟨qs, rel, hp⟩ := hex
 have hlen : L.length = qs.length := by
  have := rel.length
  rw [List.length_map] at this
  exact this
 refine PySem.W.Qea (knd := mixKind X.prog X.w) (ps := qs) (I.ok.hd hc) e rfl rfl rfl (by rw [List.length_map]; exact hlen) (by omega) hp fun h' tk dd keep => ?_
 refine ⟨.ref s.heap.objs.size, _, I.laid (a := s.heap.objs.size) (o := .dK (putAll [] (L.map (·.2)))) (t' := tk) keep (Nat.le_refl _) ?_, rfl, q _ I.fresh⟩
 have hline : 10 ^ 6 ≤ sizeLine := by decide
 have hl2 := Qes (L.map (·.2)) []
 rw [List.length_map] at hl2
 refine Qns (by simp at hl2; omega) ?_ (rel.putAll .nil) dd
 have hb := I.big
 exact beq_eq_false_iff_ne.mpr (Nat.ne_of_gt hb)
def rListD : List V → Hp → VK → Prop := fun xs H Q => ∃ (d : Addr) (kvs : List (Key × V)), xs = [.ref d] ∧ H d = some (.dK kvs) ∧ ∀ l, H l = none → Q (.ref l) (upd H l (.lst (kvs.map fun kv => kV kv.1)))
theorem Qei (hc : X.calm = true) : CallR X (.type "list") rListD := by
 intro pins s σ H xs us Q I rv h
 obtain ⟨d, kvs, rfl, hd, q⟩ := h
 obtain ⟨u, rfl, ru⟩ := rv.one
 cases ru
 obtain ⟨z, hsm, vs, rel, dd⟩ := Qg7 I.hok hd
 obtain ⟨ep, da⟩ := dd.dictAt
 have rl : kvs.length = vs.length := rel.length
 refine PySem.W.kdl_call (PySem.W.kdl_dict (knd := mixKind X.prog X.w) (kvs := vs) (ep := ep) hsm) (I.ok.hd hc) da (by omega) fun h' tk acc c hk hS hacc => ?_
 have hv : Vals (kvs.map fun kv => kV kv.1) acc.toList := by
  have all : ∀ {kvs : List (Key × V)} {vs : List (Key × Value)} (us : List Value), KV kvs vs → us.length = vs.length → (∀ (j : Nat) v, us[j]? = some v → ∃ k x, vs[j]? = some (k, x) ∧ (mixKind X.prog X.w).is k v = true) → Vals (kvs.map fun kv => kV kv.1) us := by
   intro kvs vs us r
   unfold KV at r
   induction r generalizing us with
   | nil =>
     intro h1 _
     cases us with
     | nil => exact .nil
     | cons _ _ => simp at h1
   | @cons p q ps qs h t ih =>
     intro h1 h2
     cases us with
     | nil => simp at h1
     | cons u us =>
       obtain ⟨k, x, e1, e2⟩ := h2 0 u rfl
       cases e1
       refine .cons ?_ (ih us (by simpa using h1) fun j v hj => by
        obtain ⟨k, x, e3, e4⟩ := h2 (j + 1) v (by simpa using hj)
        exact ⟨k, x, by simpa using e3, e4⟩)
       show RelV (kV p.1) u
       rw [h.1]
       exact Qgv e2
  refine all acc.toList rel (by rw [Array.length_toList]; exact hacc.1) fun j v hj => hacc.2 j v ?_
  rw [← Array.getElem?_toList]
  exact hj
 refine ⟨.ref s.heap.objs.size, _, I.laid (a := s.heap.objs.size) (o := .lst (kvs.map fun kv => kV kv.1)) (t' := tk) hk (Nat.le_refl _) ⟨by rw [List.length_map]; exact z, acc.toList, c, hv, ?_⟩, rfl, q _ I.fresh⟩
 rw [hS]
end
theorem Qpb : bootBuiltins "dict" = some (.type "dict") := by decide+kernel
end L2
namespace PySem.W
open PySem PySem.Calls PyProof.Rows PyProof.V PySem.Spec
section
variable {prog : Program} {w : World} {A : Around} {E : Q3} {s : Shared} {r l : Addr} {items : Array Value}
end
end PySem.W
namespace L2
open PySem PySem.Spec PyProof.Rows L3
section
variable {X : Cx}
end
end L2
namespace L2
open PySem PySem.Spec PyProof.Rows L3
section
variable {X : Cx}
end
end L2
namespace L2
open PySem PySem.W PyProof.Rows
structure Ord (n : Nat) (lt : Nat → Nat → Bool) : Prop where
 tri : ∀ i j, i < n → j < n → i ≠ j → lt i j = !lt j i
 tr : ∀ i j k, i < n → j < n → k < n → lt i j = true → lt j k = true → lt i k = true
def Asks (n : Nat) (lt : Nat → Nat → Bool) (cmp : Nat → Nat → (Bool → Shared → Prop) → Shared → Prop) (s : Shared) : Prop := ∀ i j C, i < n → j < n → i ≠ j → C (lt i j) s → cmp i j C s
structure PermN (n : Nat) (p : Array Nat) : Prop where
 pm : p.toList.Perm (List.range n)
theorem PermN.size {n : Nat} {p : Array Nat} (h : PermN n p) : p.size = n := by
 have := h.pm.length_eq
 simpa using this
theorem gD {p : Array Nat} {i : Nat} (h : i < p.size) : p.getD i 0 = p[i] := by
 rw [Array.getD_eq_getD_getElem?, Array.getElem?_eq_getElem h]
 rfl
theorem PermN.lt {n : Nat} {p : Array Nat} (h : PermN n p) {i : Nat} (hi : i < n) : p.getD i 0 < n := by
 rw [gD (by rw [h.size]; exact hi)]
 have : p[i]'(by rw [h.size]; exact hi) ∈ p.toList := by simp
 exact List.mem_range.mp (h.pm.mem_iff.mp this)
theorem PermN.inj {n : Nat} {p : Array Nat} (h : PermN n p) {i j : Nat} (hi : i < n) (hj : j < n) (hne : i ≠ j) : p.getD i 0 ≠ p.getD j 0 := by
 have hi' : i < p.toList.length := by rw [Array.length_toList, h.size]; exact hi
 have hj' : j < p.toList.length := by rw [Array.length_toList, h.size]; exact hj
 have nd : p.toList.Nodup := h.pm.nodup_iff.mpr List.nodup_range
 rw [gD (by rw [h.size]; exact hi), gD (by rw [h.size]; exact hj)]
 intro e
 exact hne ((List.getElem_inj (h₀ := hi') (h₁ := hj') nd).mp (by simpa using e))
def Up (lt : Nat → Nat → Bool) (p : Array Nat) (m : Nat) : Prop := ∀ i j, i < j → j < m → lt (p.getD i 0) (p.getD j 0) = true
def Dn (lt : Nat → Nat → Bool) (p : Array Nat) (m : Nat) : Prop := ∀ i j, i < j → j < m → lt (p.getD j 0) (p.getD i 0) = true
section
variable {n : Nat} {lt : Nat → Nat → Bool} {cmp : Nat → Nat → (Bool → Shared → Prop) → Shared → Prop} {s : Shared}
theorem Up.next (O : Ord n lt) {p : Array Nat} (P : PermN n p) {m : Nat} (h1 : 1 ≤ m) (hm : m < n) (u : Up lt p m) (h : lt (p.getD (m - 1) 0) (p.getD m 0) = true) : Up lt p (m + 1) := by
 intro i j hij hj
 by_cases e : j = m
 ·subst e
  by_cases e2 : i = j - 1
  ·subst e2; exact h
  ·exact O.tr _ _ _ (P.lt (by omega)) (P.lt (by omega)) (P.lt hm) (u i (j - 1) (by omega) (by omega)) h
 ·exact u i j hij (by omega)
theorem Dn.next (O : Ord n lt) {p : Array Nat} (P : PermN n p) {m : Nat} (h1 : 1 ≤ m) (hm : m < n) (u : Dn lt p m) (h : lt (p.getD m 0) (p.getD (m - 1) 0) = true) : Dn lt p (m + 1) := by
 intro i j hij hj
 by_cases e : j = m
 ·subst e
  by_cases e2 : i = j - 1
  ·subst e2; exact h
  ·exact O.tr _ _ _ (P.lt hm) (P.lt (by omega)) (P.lt (by omega)) h (u i (j - 1) (by omega) (by omega))
 ·exact u i j hij (by omega)
theorem Ord.flip (O : Ord n lt) {i j : Nat} (hi : i < n) (hj : j < n) (hne : i ≠ j) (h : ¬ lt i j = true) : lt j i = true := by
 have := O.tri i j hi hj hne
 cases e : lt j i with
 | true => rfl
 | false => rw [e] at this; exact absurd this h
theorem Qli (O : Ord n lt) (A : Asks n lt cmp s) {p : Array Nat} (P : PermN n p) {Q : Nat → Shared → Prop} : ∀ (f m : Nat), 1 ≤ m → m + f ≤ n → Up lt p m →
 (∀ m', m ≤ m' → m' ≤ m + f → Up lt p m' → (m' < m + f → lt (p.getD m' 0) (p.getD (m' - 1) 0) = true) → Q m' s) → (kas_asc p f m).kasWp cmp Q s
 | 0, m, h1, h2, u, q => q m (Nat.le_refl _) (Nat.le_refl _) u (fun z => absurd z (by omega))
 | f + 1, m, h1, h2, u, q => by
   refine A _ _ _ (P.lt (by omega)) (P.lt (by omega)) (P.inj (by omega) (by omega) (by omega)) ?_
   by_cases c : lt (p.getD m 0) (p.getD (m - 1) 0) = true
   ·show KasT.kasWp cmp (if lt (p.getD m 0) (p.getD (m - 1) 0) = true then .ret m else kas_asc p f (m + 1)) Q s
    rw [if_pos c]
    exact q m (Nat.le_refl _) (by omega) u fun _ => c
   ·show KasT.kasWp cmp (if lt (p.getD m 0) (p.getD (m - 1) 0) = true then .ret m else kas_asc p f (m + 1)) Q s
    rw [if_neg c]
    exact Qli O A P f (m + 1) (by omega) (by omega) (u.next O P h1 (by omega) (O.flip (P.lt (by omega)) (P.lt (by omega)) (P.inj (by omega) (by omega) (by omega)) c)) fun m' a b c d => q m' (by omega) (by omega) c fun z => d (by omega)
theorem Qk1 (O : Ord n lt) (A : Asks n lt cmp s) {p : Array Nat} (P : PermN n p) {Q : Array Nat × Nat × Nat → Shared → Prop} : ∀ (f m : Nat), 1 ≤ m → m + f ≤ n → Dn lt p m →
 (∀ m', m ≤ m' → m' ≤ m + f → Dn lt p m' → Q (p, m', 0) s) → (kas_desc f p m 0).kasWp cmp Q s
 | 0, m, h1, h2, u, q => q m (Nat.le_refl _) (Nat.le_refl _) u
 | f + 1, m, h1, h2, u, q => by
   refine A _ _ _ (P.lt (by omega)) (P.lt (by omega)) (P.inj (by omega) (by omega) (by omega)) ?_
   by_cases c : lt (p.getD m 0) (p.getD (m - 1) 0) = true
   ·show KasT.kasWp cmp (if lt (p.getD m 0) (p.getD (m - 1) 0) = true then (if 0 > 0 then _ else kas_desc f p (m + 1) 0) else _) Q s
    rw [if_pos c, if_neg (Nat.lt_irrefl 0)]
    exact Qk1 O A P f (m + 1) (by omega) (by omega) (u.next O P h1 (by omega) c) fun m' a b d => q m' (by omega) (by omega) d
   ·show KasT.kasWp cmp (if lt (p.getD m 0) (p.getD (m - 1) 0) = true then _ else _) Q s
    rw [if_neg c]
    have c2 := O.flip (P.lt (by omega)) (P.lt (by omega)) (P.inj (i := m) (j := m - 1) (by omega) (by omega) (by omega)) c
    refine A _ _ _ (P.lt (by omega)) (P.lt (by omega)) (P.inj (by omega) (by omega) (by omega)) ?_
    show KasT.kasWp cmp (if lt (p.getD (m - 1) 0) (p.getD m 0) = true then .ret (p, m, 0) else _) Q s
    rw [if_pos c2]
    exact q m (Nat.le_refl _) (by omega) u
theorem Qhk {p : Array Nat} (P : PermN n p) (m : Nat) : PermN n (kas_rev p 0 m) := ⟨(Array.perm_iff_toList_perm.mp (mirror_perm p 0 m _)).trans P.pm⟩
theorem Qna {p : Array Nat} {m : Nat} (hm : m ≤ p.size) (k : Nat) : (kas_rev p 0 m).getD k 0 = if k < m then p.getD (m - 1 - k) 0 else p.getD k 0 := by
 unfold kas_rev
 rw [Array.getD_eq_getD_getElem?, getElem?_mirror_all hm]
 by_cases h : k < m
 ·rw [if_pos ⟨Nat.zero_le _, h⟩, if_pos h, Array.getD_eq_getD_getElem?]
  congr 2
  omega
 ·rw [if_neg (fun z => h z.2), if_neg h, Array.getD_eq_getD_getElem?]
theorem Dn.rev {p : Array Nat} {m : Nat} (hm : m ≤ p.size) (d : Dn lt p m) : Up lt (kas_rev p 0 m) m := by
 intro i j hij hj
 rw [Qna hm, Qna hm, if_pos (by omega), if_pos hj]
 exact d _ _ (by omega) (by omega)
theorem Qmr (O : Ord n lt) (A : Asks n lt cmp s) {p : Array Nat} (P : PermN n p) (hn : 2 ≤ n) {Q : Nat × Array Nat → Shared → Prop} (q : ∀ m p', 1 ≤ m → m ≤ n → PermN n p' → Up lt p' m → Q (m, p') s) : (kas_count n p).kasWp cmp Q s := by
 unfold kas_count
 rw [KasT.kasWp_bind]
 refine Qli O A P (n - 1) 1 (Nat.le_refl _) (by omega) (fun i j h1 h2 => by omega) fun m h1 h2 u d => ?_
 by_cases e : m = n
 ·subst e
  rw [if_pos (by simp)]
  exact q m p h1 (Nat.le_refl _) P u
 ·rw [if_neg (by simpa using e)]
  by_cases g : m > 1
  ·rw [if_pos g]
   refine A _ _ _ (P.lt (by omega)) (P.lt (by omega)) (P.inj (by omega) (by omega) (by omega)) ?_
   show KasT.kasWp cmp (if lt (p.getD 0 0) (p.getD (m - 1) 0) = true then .ret (m, p) else _) Q s
   rw [if_pos (u 0 (m - 1) (by omega) (by omega))]
   exact q m p h1 (by omega) P u
  ·rw [if_neg g]
   have e1 : m = 1 := by omega
   subst e1
   unfold kas_descPart
   rw [KasT.kasWp_bind]
   refine Qk1 O A P (n - 2) 2 (by omega) (by omega) (fun i j h1 h2 => ?_) fun m' a b dn => ?_
   ·have ei : i = 0 := by omega
    have ej : j = 1 := by omega
    subst ei ej
    exact d (by omega)
   ·show KasT.kasWp cmp (if 0 > 0 then _ else kas_tail3 m' n p) Q s
    rw [if_neg (Nat.lt_irrefl 0)]
    unfold kas_tail3
    rw [KasT.kasWp_bind]
    refine Qli O A (Qhk P m') (n - m') m' (by omega) (by omega) (dn.rev (by rw [P.size]; omega)) fun m2 c1 c2 u2 _ => ?_
    exact q m2 _ (by omega) (by omega) (Qhk P m') u2
theorem Qe3 (O : Ord n lt) (A : Asks n lt cmp s) {p : Array Nat} (P : PermN n p) {k : Nat} (hk : k < n) (u : Up lt p k) {Q : Nat → Shared → Prop}
 (q : ∀ l, l ≤ k → (∀ i, i < l → lt (p.getD i 0) (p.getD k 0) = true) → (∀ i, l ≤ i → i < k → lt (p.getD k 0) (p.getD i 0) = true) → Q l s) : ∀ (f l r : Nat), l ≤ r → r ≤ k → r - l ≤ f →
 (∀ i, i < l → lt (p.getD i 0) (p.getD k 0) = true) → (∀ i, r ≤ i → i < k → lt (p.getD k 0) (p.getD i 0) = true) → (kas_place p k f l r).kasWp cmp Q s
 | 0, l, r, h1, h2, h3, a, b => q l (by omega) a fun i x y => b i (by omega) y
 | f + 1, l, r, h1, h2, h3, a, b => by
   unfold kas_place
   by_cases e : l ≥ r
   ·rw [if_pos e]
    exact q l (by omega) a fun i x y => b i (by omega) y
   ·rw [if_neg e]
    refine A _ _ _ (P.lt hk) (P.lt (by omega)) (P.inj hk (by omega) (by omega)) ?_
    by_cases c : lt (p.getD k 0) (p.getD ((l + r) / 2) 0) = true
    ·show KasT.kasWp cmp (if lt (p.getD k 0) (p.getD ((l + r) / 2) 0) = true then kas_place p k f l ((l + r) / 2) else _) Q s
     rw [if_pos c]
     refine Qe3 O A P hk u q f l ((l + r) / 2) (by omega) (by omega) (by omega) a fun i x y => ?_
     by_cases e2 : i = (l + r) / 2
     ·subst e2; exact c
     ·exact O.tr _ _ _ (P.lt hk) (P.lt (by omega)) (P.lt (by omega)) c (u _ _ (by omega) y)
    ·show KasT.kasWp cmp (if lt (p.getD k 0) (p.getD ((l + r) / 2) 0) = true then _ else kas_place p k f ((l + r) / 2 + 1) r) Q s
     rw [if_neg c]
     have c2 := O.flip (P.lt hk) (P.lt (by omega)) (P.inj hk (j := (l + r) / 2) (by omega) (by omega)) c
     refine Qe3 O A P hk u q f ((l + r) / 2 + 1) r (by omega) h2 (by omega) (fun i x => ?_) b
     by_cases e2 : i = (l + r) / 2
     ·subst e2; exact c2
     ·exact O.tr _ _ _ (P.lt (by omega)) (P.lt (by omega)) (P.lt hk) (u _ _ (by omega) (by omega)) c2
theorem Qgg {p : Array Nat} {k l : Nat} (hk : k < p.size) (hl : l ≤ k) (i : Nat) : (bubble p k (k - l)).getD i 0 = if i = l then p.getD k 0 else if l < i ∧ i ≤ k then p.getD (i - 1) 0 else p.getD i 0 := by
 rw [Array.getD_eq_getD_getElem?, getElem?_bubble hk _ (by omega)]
 have e : k - (k - l) = l := by omega
 rw [e]
 by_cases h1 : i = l
 ·rw [if_pos h1, if_pos h1, Array.getD_eq_getD_getElem?]
 ·rw [if_neg h1, if_neg h1]
  by_cases h2 : l < i ∧ i ≤ k
  ·rw [if_pos h2, if_pos h2, Array.getD_eq_getD_getElem?]
  ·rw [if_neg h2, if_neg h2, Array.getD_eq_getD_getElem?]
theorem Qnv (O : Ord n lt) (A : Asks n lt cmp s) {Q : Array Nat → Shared → Prop} (q : ∀ p, PermN n p → Up lt p n → Q p s) : ∀ (f : Nat) (p : Array Nat) (k : Nat), PermN n p → k + f = n → Up lt p k → (kas_bin f p k).kasWp cmp Q s
 | 0, p, k, P, h, u => q p P (by rw [← h]; exact u)
 | f + 1, p, k, P, h, u => by
   unfold kas_bin
   rw [KasT.kasWp_bind]
   refine Qe3 O A P (k := k) (by omega) u (fun l hl a b => ?_) k 0 k (Nat.zero_le _) (Nat.le_refl _) (by omega) (fun i z => by omega) (fun i x y => by omega)
   have hks : k < p.size := by rw [P.size]; omega
   refine Qnv O A q f _ (k + 1) ⟨(Array.perm_iff_toList_perm.mp (bubble_perm p k _)).trans P.pm⟩ (by omega) fun i j hij hj => ?_
   rw [Qgg hks hl, Qgg hks hl]
   by_cases ei : i = l
   ·rw [if_pos ei, if_neg (by omega), if_pos (by omega)]
    exact b (j - 1) (by omega) (by omega)
   ·rw [if_neg ei]
    by_cases ej : j = l
    ·rw [if_pos ej, if_neg (by omega)]
     exact a i (by omega)
    ·rw [if_neg ej]
     by_cases c1 : l < i ∧ i ≤ k
     ·rw [if_pos c1, if_pos (by omega)]
      exact u _ _ (by omega) (by omega)
     ·rw [if_neg c1]
      by_cases c2 : l < j ∧ j ≤ k
      ·rw [if_pos c2]
       exact u _ _ (by omega) (by omega)
      ·rw [if_neg c2]
       exact u _ _ (by omega) (by omega)
theorem Qn4 (O : Ord n lt) (A : Asks n lt cmp s) (hn : 2 ≤ n) {Q : Array Nat → Shared → Prop} (q : ∀ p, PermN n p → Up lt p n → Q p s) : (kas_sort n).kasWp cmp Q s := by
 unfold kas_sort
 rw [KasT.kasWp_bind]
 refine Qmr O A ⟨by simp⟩ hn fun m p h1 h2 P u => ?_
 by_cases e : m < n
 ·show KasT.kasWp cmp (if m < n then kas_bin (n - max m 1) p (max m 1) else .ret p) Q s
  rw [if_pos e, show max m 1 = m by omega]
  exact Qnv O A q _ p m P (by omega) u
 ·show KasT.kasWp cmp (if m < n then kas_bin (n - max m 1) p (max m 1) else .ret p) Q s
  rw [if_neg e]
  exact q p P (by rw [show n = m by omega]; exact u)
end
end L2
namespace L2
open PySem PySem.W PySem.Spec PyProof.Rows L3
section
variable {prog : Program} {w : World} {s : Shared} {A : Around} {E : Q3}
theorem RawD.stay {h h' : Heap} {d : Addr} {es : Array DictEntry} {ep : Nat} (x : RawD h d es ep) (k : ∀ o, h.get? d = some o → h'.get? d = some o) : RawD h' d es ep := by
 obtain ⟨o, ho, r⟩ := x
 exact ⟨o, k o ho, r⟩
theorem RawD.lt {h : Heap} {d : Addr} {es : Array DictEntry} {ep : Nat} (x : RawD h d es ep) : d < h.objs.size := by
 obtain ⟨o, ho, _⟩ := x
 exact Heap.lt_size ho
theorem rawWalks (hh : A.handled = none) (I d : Addr) (hne : d ≠ I) (es : Array DictEntry) (ep : Nat) :
 Walks prog w A I [I, d] [I] es.size (fun i v => ∃ e, es[i]? = some e ∧ v = e.key) (fun i h => h.IsKeyIter I d i es.size ep ∧ RawD h d es ep) where
 sub := fun b hb => by rw [List.mem_singleton.mp hb]; exact List.mem_cons_self
 frame := fun _ _ _ st hk => ⟨st.1.at fun o e => hk I (by simp) o e, st.2.stay fun o e => hk d (by simp) o e⟩
 item := fun i s R E hi st hR => by
  refine Qdm hh st.1 st.2 (fun h h' it sb => ?_) fun z => absurd hi (by omega)
  exact hR _ h' s.toks ⟨es[i], Array.getElem?_eq_getElem h, rfl⟩ ⟨it, st.2.stay fun o e => (sb.2 d hne).trans e⟩ fun b o hb e => (sb.2 b (fun z => hb (by simp [z]))).trans e
 done := fun s R E st hR => by
  refine Qdm hh st.1 st.2 (fun h => absurd h (Nat.lt_irrefl _)) fun _ h' eb => ?_
  exact hR h' s.toks fun b o hb e => eb b o (fun z => hb (by simp [z])) e
 self := fun _ _ _ _ x hR => wpAny_pyIter_keyiter x.1 hR
theorem rawSrc {d : Addr} {es : Array DictEntry} {ep : Nat} (lo : (d == sysModules) = false) : KdlSrc prog w "dict" d d es.size (fun i v => ∃ e, es[i]? = some e ∧ v = e.key) (fun h => RawD h d es ep) where
 type := fun _ hm => hm.typeIs
 there := fun _ hm => ⟨hm.lt, hm.lt⟩
 keep := fun _ _ hm hk => hm.stay fun o e => hk d (.inl rfl) o e
 notList := by decide
 notTuple := by decide
 hint := fun _ _ _ _ hm hq => kdl_hint_dict hm.typeIs hq
 iter := fun _ _ hh hm => ⟨_, _, (fun _ _ hq => Qhn lo hm hq), rawWalks hh _ d (Nat.ne_of_lt hm.lt) es ep, ⟨⟨_, Heap.get?_push_size _ rfl, rfl, rfl⟩, hm.stay fun o e => Heap.get?_push_of_some _ e⟩⟩
theorem Qmh {R : Result → Shared → Prop} {d S : Addr} {es : Array DictEntry} {ep : Nat} (lo : (d == sysModules) = false) (hh : A.handled = none) (hm : RawD s.heap d es ep) (hn : es.size ≤ sizeLine) (hSd : S ≠ d) (hS : s.heap.get? S = some { cls := .type "list", data := .seq #[] 0 })
 (hR : ∀ h' tk acc' c', (∀ b o, b ≠ S → s.heap.get? b = some o → h'.get? b = some o) → h'.get? S = some { cls := .type "list", dict := none, data := .seq acc' c', slots := #[] } → acc'.toList = es.toList.map (·.key) → R (.ok (.ret (.ref S))) { s with heap := h', toks := tk }) :
 codeAny (model prog w) A (.builtin "list.__iadd__" ⟨[.ref S, .ref d], []⟩) R s := by
 refine codeAny_builtin entry_list_iadd' ?_
 refine kdl_extend (R := R) (rawSrc lo) hh hm S hSd hSd (.ref S) 0 hS (fun h' tk acc c k hS' hacc => hR h' tk acc c k hS' ?_) hn
 apply List.ext_getElem?
 intro i
 rw [List.getElem?_map]
 by_cases hi : i < acc.toList.length
 ·have hi2 : i < acc.size := by simpa using hi
  obtain ⟨e, h1, h2⟩ := hacc.2 i acc[i] (Array.getElem?_eq_getElem hi2)
  rw [List.getElem?_eq_getElem hi, Array.getElem?_toList, h1]
  simp [h2]
 ·rw [List.getElem?_eq_none (by omega), Array.getElem?_toList, Array.getElem?_eq_none (by have := hacc.1; simp at hi; omega)]
  rfl
theorem Qg9 {d : Addr} {es : Array DictEntry} {ep : Nat} {Q : List Value → Shared → Prop} (lo : (d == sysModules) = false) (hh : A.handled = none) (hm : RawD s.heap d es ep) (hn : es.size ≤ sizeLine)
 (h : ∀ h' tk, (∀ b o, s.heap.get? b = some o → h'.get? b = some o) → s.heap.objs.size < h'.objs.size → Q (es.toList.map (·.key)) { s with heap := h', toks := tk }) : wpAny (model prog w) A (collect (.ref d)) Q E s := by
 unfold collect; refine wpAny_bind (wpAny_runValue (codeAny_builtin entry_proto_collect' ?_))
 have hS : (s.heap.push (seqObj "list" #[] 0)).get? s.heap.objs.size = some (seqObj "list" #[] 0) := Heap.get?_push_size _ rfl
 have hm' : RawD (s.heap.push (seqObj "list" #[] 0)) d es ep := hm.stay fun o e => Heap.get?_push_of_some _ e
 have hSd : s.heap.objs.size ≠ d := Ne.symm (Nat.ne_of_lt hm.lt)
 refine wpAny_bind (wpAny_newList (wpAny_pure ⟨Code.quiet_builtin _ (by decide+kernel), Qmh (s := { s with heap := s.heap.push (seqObj "list" #[] 0) }) lo hh hm' hn hSd hS fun h' tk acc c k hS' e => ?_⟩))
 refine (wpAny_bind (wpAny_load (s := { s with heap := h', toks := tk }) hS' ?_) : wpAny (model prog w) A (load s.heap.objs.size >>= fun o => match o.data with | .seq xs _ => pure xs.toList | _ => unsupported "internal:collect") Q E { s with heap := h', toks := tk })
 show wpAny (model prog w) A (pure acc.toList) Q E _
 rw [e]
 exact wpAny_pure (h h' tk (fun b o hb => k b o (Nat.ne_of_lt (Heap.lt_size hb)) (Heap.get?_push_of_some _ hb)) (Heap.lt_size hS'))
end
end L2
namespace L2
open PySem PySem.W PySem.Spec PyProof.Rows L3
section
variable {prog : Program} {w : World} {s : Shared} {A : Around} {E : Q3}
theorem tsort {a : Addr} {vs : List Value} {n : Nat} {κ : SortKind} {lt : Nat → Nat → Bool} {P : PySem.Fin → Shared → Prop} (hl : s.heap.get? a = some (seqObj "list" vs.toArray n)) (h2 : 2 ≤ vs.length) (h64 : vs.length < 64) (O : Ord vs.length lt)
 (hk : ∀ h', (∀ b o, b ≠ a → s.heap.get? b = some o → h'.get? b = some o) → (∀ (Q : SortKind → Shared → Prop), Q κ { s with heap := h' } → wpAny (model prog w) A (keyKind' vs.toArray) Q (fun _ _ => False) { s with heap := h' }) ∧ Asks vs.length lt (kas_ask prog w A κ vs) { s with heap := h' })
 (fin : ∀ h' p c, PermN vs.length p → Up lt p vs.length → (∀ b o, b ≠ a → s.heap.get? b = some o → h'.get? b = some o) → h'.get? a = some (seqObj "list" (List.toArray (p.toList.map fun i => vs.getD i Value.none)) c) → P (.done (.ret .none)) { s with heap := h' }) :
 wpAny (model prog w) A (PySem.Builtin.«list.sort» ⟨[Value.ref a], []⟩) P E s := by
 obtain ⟨c1, hc1⟩ : ∃ c, (s.heap.update a (Obj.mapSeq fun _ => #[])).get? a = some (seqObj "list" #[] c) := ⟨_, get?_update_seq hl _⟩
 obtain ⟨H3, e3⟩ : ∃ H3, H3 = ((s.heap.update a (Obj.mapSeq fun _ => #[])).push (seqObj "tuple" vs.toArray 0)).push (seqObj "list" #[] 0) := ⟨_, rfl⟩
 have old : ∀ b o, b ≠ a → s.heap.get? b = some o → H3.get? b = some o := fun b o hb e => by
  rw [e3]
  exact Heap.get?_push_of_some _ (Heap.get?_push_of_some _ (((Heap.SameBut.update s.heap a _).2 b hb).trans e))
 have at3 : H3.get? a = some (seqObj "list" #[] c1) := by
  rw [e3]
  exact Heap.get?_push_of_some _ (Heap.get?_push_of_some _ hc1)
 obtain ⟨kk, asks⟩ := hk H3 old
 rw [list_sort_plain]; refine wpAny_bind (listItems_at hl rfl (wpAny_bind (listUpdate_at hl rfl ?_ (by rw [List.size_toArray, sizeLine_eq]; omega) (Nat.zero_le _))))
 refine wpAny_bind (seqEpoch_at hc1 rfl (wpAny_bind (wpAny_newTuple (wpAny_bind (wpAny_newList (wpAny_holding ?_) (Nat.zero_le _))) (by show vs.length ≤ _; rw [sizeLine_eq]; omega))))
 refine (?_ : wpAny (model prog w) A _ P E { s with heap := ((s.heap.update a (Obj.mapSeq fun _ => #[])).push (seqObj "tuple" vs.toArray 0)).push (seqObj "list" #[] 0) }); rw [← e3]
 dsimp only
 have big : ¬ vs.toArray.size < 2 := by rw [List.size_toArray]; omega
 rw [if_neg big, if_neg big]
 refine wpAny_bind (wpAny_mono (kk (fun κ' s0 => κ' = κ ∧ s0 = { s with heap := H3 }) ⟨rfl, rfl⟩) (fun κ' s0 z => ?_) fun _ _ x => x.elim)
 obtain ⟨rfl, rfl⟩ := z
 refine wpAny_bind (wpAny_mono (kat_run (Q := fun st' s' => ∃ p : Array Nat, arrOf st' = p.map (kas_item (vs.toArray.zip vs.toArray)) ∧ failedOf st' = none ∧ PermN vs.length p ∧ Up lt p vs.length ∧ s' = { s with heap := H3 }) rfl h2 h64 (fun p st' s' _ a2 a3 a4 => ⟨p, a2, a3, a4⟩) (Qn4 O asks h2 fun p PP u => ⟨PP, u, rfl⟩)) ?_ fun _ _ e => e)
 rintro ⟨⟨⟩, st'⟩ s' ⟨p, har, hf, PP, u, rfl⟩
 dsimp only
 rw [kat_snds rfl har]
 refine wpAny_bind (seqEpoch_at at3 rfl (wpAny_bind (listUpdate_at at3 rfl ?_ (Nat.zero_le _) ?_)))
 ·rw [hf]; simp only [bne_self_eq_false, Bool.false_eq_true, if_false]
  exact wpAny_pure (fin _ p _ PP u (fun b o hb e => ((Heap.SameBut.update H3 a _).2 b hb).trans (old b o hb e)) (get?_update_seq at3 _))
 ·show (List.toArray (p.toList.map fun i => vs.getD i Value.none)).size ≤ _
  rw [List.size_toArray, List.length_map, Array.length_toList, PP.size, sizeLine_eq]
  omega
theorem tsort1 {a : Addr} {vs : List Value} {n : Nat} {P : PySem.Fin → Shared → Prop} (hl : s.heap.get? a = some (seqObj "list" vs.toArray n)) (h1 : vs.length < 2)
 (fin : ∀ h' c, (∀ b o, b ≠ a → s.heap.get? b = some o → h'.get? b = some o) → h'.get? a = some (seqObj "list" vs.toArray c) → P (.done (.ret .none)) { s with heap := h' }) :
 wpAny (model prog w) A (PySem.Builtin.«list.sort» ⟨[Value.ref a], []⟩) P E s := by
 obtain ⟨c1, hc1⟩ : ∃ c, (s.heap.update a (Obj.mapSeq fun _ => #[])).get? a = some (seqObj "list" #[] c) := ⟨_, get?_update_seq hl _⟩
 obtain ⟨H3, e3⟩ : ∃ H3, H3 = ((s.heap.update a (Obj.mapSeq fun _ => #[])).push (seqObj "tuple" vs.toArray 0)).push (seqObj "list" #[] 0) := ⟨_, rfl⟩
 have old : ∀ b o, b ≠ a → s.heap.get? b = some o → H3.get? b = some o := fun b o hb e => by
  rw [e3]
  exact Heap.get?_push_of_some _ (Heap.get?_push_of_some _ (((Heap.SameBut.update s.heap a _).2 b hb).trans e))
 have at3 : H3.get? a = some (seqObj "list" #[] c1) := by
  rw [e3]
  exact Heap.get?_push_of_some _ (Heap.get?_push_of_some _ hc1)
 rw [list_sort_plain]; refine wpAny_bind (listItems_at hl rfl (wpAny_bind (listUpdate_at hl rfl ?_ (by rw [List.size_toArray, sizeLine_eq]; omega) (Nat.zero_le _))))
 refine wpAny_bind (seqEpoch_at hc1 rfl (wpAny_bind (wpAny_newTuple (wpAny_bind (wpAny_newList (wpAny_holding ?_) (Nat.zero_le _))) (by show vs.length ≤ _; rw [sizeLine_eq]; omega))))
 refine (?_ : wpAny (model prog w) A _ P E { s with heap := ((s.heap.update a (Obj.mapSeq fun _ => #[])).push (seqObj "tuple" vs.toArray 0)).push (seqObj "list" #[] 0) }); rw [← e3]
 dsimp only
 have big : vs.toArray.size < 2 := by rw [List.size_toArray]; omega
 rw [if_pos big, if_pos big]
 refine wpAny_bind (wpAny_pure ?_); rw [StateT.run_pure]; refine wpAny_bind (wpAny_pure ?_); dsimp only
 have eo : (arrOf (SortSt.mk' general' (vs.toArray.zip vs.toArray) #[] 7 none)).map (·.2) = vs.toArray := by
  show (vs.toArray.zip vs.toArray).map (·.2) = _
  rw [Array.map_snd_zip (Nat.le_refl _)]
 rw [eo]
 refine wpAny_bind (seqEpoch_at at3 rfl (wpAny_bind (listUpdate_at at3 rfl ?_ (Nat.zero_le _) ?_)))
 ·simp only [bne_self_eq_false, Bool.false_eq_true, if_false, ite_self]
  exact wpAny_pure (fin _ _ (fun b o hb e => ((Heap.SameBut.update H3 a _).2 b hb).trans (old b o hb e)) (get?_update_seq at3 _))
 ·show vs.toArray.size ≤ _
  rw [List.size_toArray, sizeLine_eq]
  omega
end
end L2
namespace L2
open PySem PySem.W PySem.Spec PyProof.Rows L3
section
variable {prog : Program} {w : World} {s : Shared} {A : Around} {E : Q3}
theorem Qin (n : Nat) : PermN n (List.toArray (List.range n)) := ⟨by simp⟩
theorem Qjo (vs : List Value) : ((List.toArray (List.range vs.length)).toList.map fun i => vs.getD i Value.none) = vs := by
 apply List.ext_getElem
 ·simp
 ·intro i h1 h2
  simp [List.getD, h2]
theorem Qii {d : Addr} {es : Array DictEntry} {ep : Nat} {κ : SortKind} {lt : Nat → Nat → Bool} {vs : List Value} {Q : Q3} (lo : (d == sysModules) = false) (hh : A.handled = none) (hm : RawD s.heap d es ep) (hv : es.toList.map (·.key) = vs) (h64 : vs.length < 64) (O : Ord vs.length lt)
 (hk : 2 ≤ vs.length → ∀ h' tk, (∀ b o, s.heap.get? b = some o → h'.get? b = some o) → (∀ (R : SortKind → Shared → Prop), R κ { s with heap := h', toks := tk } → wpAny (model prog w) A.in1.in1 (keyKind' vs.toArray) R (fun _ _ => False) { s with heap := h', toks := tk }) ∧ Asks vs.length lt (kas_ask prog w A.in1.in1 κ vs) { s with heap := h', toks := tk })
 (fin : ∀ h' tk D p c, PermN vs.length p → Up lt p vs.length → (∀ b o, s.heap.get? b = some o → h'.get? b = some o) → s.heap.objs.size ≤ D → h'.get? D = some (seqObj "list" (List.toArray (p.toList.map fun i => vs.getD i Value.none)) c) → Q (.ref D) { s with heap := h', toks := tk }) :
 wpAny (model prog w) A (call (.builtin "sorted") [Value.ref d]) Q E s := by
 have hn : es.size ≤ sizeLine := by
  have := congrArg List.length hv
  rw [List.length_map, Array.length_toList] at this
  rw [this, sizeLine_eq]
  omega
 refine Calls.call_function_entry kind_sorted plain_sorted entry_sorted (args_sorted1 _) (?_ : wpAny _ _ (Builtin.«sorted» _) _ _ s)
 unfold Builtin.«sorted»; refine wpAny_bind (m := checkCount "sorted" 1 1 _) (wpAny_pure (wpAny_bind (Qg9 lo hh hm hn fun h1 tk k1 l1 => ?_)))
 rw [hv]; refine wpAny_bind (wpAny_newList ?_ (by rw [sizeLine_eq]; omega))
 have hD : (h1.push (seqObj "list" vs.toArray 0)).get? h1.objs.size = some (seqObj "list" vs.toArray 0) := Heap.get?_push_size _ rfl
 have k2 : ∀ b o, s.heap.get? b = some o → (h1.push (seqObj "list" vs.toArray 0)).get? b = some o := fun b o e => Heap.get?_push_of_some _ (k1 b o e)
 have nD : ∀ b o, s.heap.get? b = some o → b ≠ h1.objs.size := fun b o e => Nat.ne_of_lt (Heap.lt_size (k1 b o e))
 have lD : s.heap.objs.size ≤ h1.objs.size := Nat.le_of_lt l1
 refine wpAny_bind (wpAny_holding (wpAny_call_entry slot_list_sort ⟨_, hD, rfl⟩ entry_list_sort ?body (args_list_sort _)))
 by_cases h2 : 2 ≤ vs.length
 ·refine tsort (s := { s with heap := h1.push (seqObj "list" vs.toArray 0), toks := tk }) hD h2 h64 O (fun h' kp => hk h2 h' tk fun b o e => kp b o (nD b o e) (k2 b o e)) fun h' p c PP u kp hf => ?_
  exact ⟨_, rfl, wpAny_pure ⟨_, rfl, fin h' tk _ p c PP u (fun b o e => kp b o (nD b o e) (k2 b o e)) lD hf⟩⟩
 ·refine tsort1 (s := { s with heap := h1.push (seqObj "list" vs.toArray 0), toks := tk }) hD (by omega) fun h' c kp hf => ?_
  exact ⟨_, rfl, wpAny_pure ⟨_, rfl, fin h' tk _ _ c (Qin _) (fun i j a b => by omega) (fun b o e => kp b o (nD b o e) (k2 b o e)) lD (by rw [Qjo]; exact hf)⟩⟩
end
end L2
namespace L2
open PySem PySem.W PySem.Spec PyProof.Rows L3
def ltS (x y : Str) : Bool := decide (x.cps.toList < y.cps.toList)
def ltP (k l : Str × Str) : Bool := if k.1 = l.1 then ltS k.2 l.2 else ltS k.1 l.1
theorem str_eq {x y : Str} (h : x.cps.toList = y.cps.toList) : x = y := by
 cases x; cases y
 simp only [Str.mk.injEq]
 exact Array.toList_inj.mp h
theorem Qj7 {x y : Str} (h : x ≠ y) : ltS x y = !ltS y x := by
 unfold ltS
 by_cases a : x.cps.toList < y.cps.toList
 ·have : ¬ y.cps.toList < x.cps.toList := fun b => List.lt_irrefl _ (List.lt_trans a b)
  simp [a, this]
 ·have : y.cps.toList < x.cps.toList := by
   rcases Classical.em (y.cps.toList < x.cps.toList) with b | b
   ·exact b
   ·exact absurd (str_eq (List.le_antisymm (List.not_lt.mp b) (List.not_lt.mp a))) h
  simp [a, this]
theorem Qnj {x y z : Str} (h1 : ltS x y = true) (h2 : ltS y z = true) : ltS x z = true := by
 unfold ltS at *
 exact decide_eq_true (List.lt_trans (of_decide_eq_true h1) (of_decide_eq_true h2))
theorem Qhx {x y : Str} (h : ltS x y = true) : x ≠ y := fun e => by
 subst e
 exact List.lt_irrefl _ (of_decide_eq_true h)
theorem Qj8 {k l : Str × Str} (h : k ≠ l) : ltP k l = !ltP l k := by
 unfold ltP
 by_cases e : k.1 = l.1
 ·rw [if_pos e, if_pos e.symm]
  exact Qj7 fun z => h (Prod.ext e z)
 ·rw [if_neg e, if_neg (Ne.symm e)]
  exact Qj7 e
theorem Qnk {k l m : Str × Str} (h1 : ltP k l = true) (h2 : ltP l m = true) : ltP k m = true := by
 unfold ltP at *
 by_cases e : k.1 = l.1
 ·rw [if_pos e] at h1
  by_cases f : l.1 = m.1
  ·rw [if_pos f] at h2
   rw [if_pos (e.trans f)]
   exact Qnj h1 h2
  ·rw [if_neg f] at h2
   rw [if_neg (fun z => f (e.symm.trans z)), e]
   exact h2
 ·rw [if_neg e] at h1
  by_cases f : l.1 = m.1
  ·rw [if_neg (fun z => e (z.trans f.symm)), ← f]
   exact h1
  ·rw [if_neg f] at h2
   have h3 := Qnj h1 h2
   rw [if_neg (Qhx h3)]
   exact h3
theorem Qjx {ks : List (Str × Str)} (nd : ks.Nodup) : Ord ks.length (fun i j => ltP (ks.getD i ("", "")) (ks.getD j ("", ""))) where
 tri := fun i j hi hj hne => Qj8 fun e => hne (by
  rw [List.getD, List.getD, List.getElem?_eq_getElem hi, List.getElem?_eq_getElem hj] at e
  exact (List.getElem_inj (h₀ := hi) (h₁ := hj) nd).mp e)
 tr := fun i j k _ _ _ h1 h2 => Qnk h1 h2
section
variable {prog : Program} {w : World} {s : Shared} {A : Around} {E : Q3}
def TwoAt (h : Heap) (a : Addr) (k : Str × Str) : Prop := ∃ o n t u, h.get? a = some o ∧ o.cls = .type "tuple" ∧ o.data = .seq #[.str k.1 t, .str k.2 u] n
theorem Qpg {x y : Addr} {k l : Str × Str} {C : Bool → Shared → Prop} (hx : TwoAt s.heap x k) (hy : TwoAt s.heap y l) (hne : k ≠ l) (q : C (ltP k l) s) : wpAny (model prog w) A (keyLt' (tuples' true) (.ref x) (.ref y)) C E s := by
 obtain ⟨ox, nx, t1, u1, hx, _, dx⟩ := hx
 obtain ⟨oy, ny, t2, u2, hy, _, dy⟩ := hy
 refine kat_lt hx dx hy dy ?_
 unfold ltP at q
 refine kat_cons (wpAny_eqBool_str ?_)
 by_cases e : k.1 = l.1
 ·rw [if_pos e] at q
  rw [decide_eq_true e]
  refine kat_yes (kat_cons (wpAny_eqBool_str ?_))
  rw [decide_eq_false (fun z => hne (Prod.ext e z))]
  exact kat_no (kat_one _ _ (lt_str q))
 ·rw [if_neg e] at q
  rw [decide_eq_false e]
  exact kat_no (oneLt_str q)
inductive TwosAt (h : Heap) : List Addr → List (Str × Str) → Prop where
 | nil : TwosAt h [] []
 | cons {a : Addr} {k : Str × Str} {as : List Addr} {ks : List (Str × Str)} (x : TwoAt h a k) (r : TwosAt h as ks) : TwosAt h (a :: as) (k :: ks)
theorem TwosAt.keep {h h' : Heap} (kp : ∀ b o, h.get? b = some o → h'.get? b = some o) : ∀ {as : List Addr} {ks : List (Str × Str)}, TwosAt h as ks → TwosAt h' as ks
 | _, _, .nil => .nil
 | _, _, .cons ⟨o, n, t, u, e, r⟩ x => .cons ⟨o, n, t, u, kp _ _ e, r⟩ (x.keep kp)
theorem TwosAt.len {h : Heap} : ∀ {as : List Addr} {ks : List (Str × Str)}, TwosAt h as ks → as.length = ks.length
 | _, _, .nil => rfl
 | _, _, .cons _ r => congrArg (· + 1) r.len
theorem TwosAt.at {h : Heap} : ∀ {as : List Addr} {ks : List (Str × Str)} (i : Nat), TwosAt h as ks → i < as.length → ∃ a, (as.map Value.ref).getD i Value.none = .ref a ∧ TwoAt h a (ks.getD i ("", ""))
 | _, _, i, .nil, hi => absurd hi (Nat.not_lt_zero _)
 | _, _, 0, .cons x _, _ => ⟨_, rfl, x⟩
 | _, _, i + 1, .cons _ r, hi => by
   obtain ⟨a, e, x⟩ := r.at i (by simpa using hi)
   exact ⟨a, by simpa [List.getD] using e, by simpa [List.getD] using x⟩
theorem TwosAt.kats {h : Heap} : ∀ {as : List Addr} {ks : List (Str × Str)}, TwosAt h as ks → ∃ fs : List Value, fs.length = ks.length ∧ (∀ v ∈ fs, ∃ x t, v = .str x t) ∧ KatTups h (as.map Value.ref) fs
 | _, _, .nil => ⟨[], rfl, (fun v hv => nomatch hv), KatTups.nil⟩
 | _, _, .cons ⟨o, n, t, u, e, c, d⟩ r => by
   obtain ⟨fs, h1, h2, h3⟩ := r.kats
   refine ⟨_ :: fs, congrArg (· + 1) h1, fun v hv => ?_, KatTups.cons e c d rfl h3⟩
   rcases List.mem_cons.mp hv with z | z
   ·exact ⟨_, _, z⟩
   ·exact h2 v z
theorem Qmx {as : List Addr} {ks : List (Str × Str)} (T : TwosAt s.heap as ks) (nd : ks.Nodup) : Asks (as.map Value.ref).length (fun i j => ltP (ks.getD i ("", "")) (ks.getD j ("", ""))) (kas_ask prog w A (tuples' true) (as.map Value.ref)) s := by
 intro i j C hi hj hne q
 rw [List.length_map] at hi hj
 obtain ⟨a, ea, xa⟩ := T.at i hi
 obtain ⟨b, eb, xb⟩ := T.at j hj
 unfold kas_ask
 rw [ea, eb]
 refine Qpg xa xb (fun e => hne ?_) q
 have hi' : i < ks.length := by rw [← T.len]; exact hi
 have hj' : j < ks.length := by rw [← T.len]; exact hj
 rw [List.getD, List.getD, List.getElem?_eq_getElem hi', List.getElem?_eq_getElem hj'] at e
 exact (List.getElem_inj (h₀ := hi') (h₁ := hj') nd).mp e
theorem Qmg {as : List Addr} {ks : List (Str × Str)} {R : SortKind → Shared → Prop} (T : TwosAt s.heap as ks) (h2 : 2 ≤ ks.length) (q : R (tuples' true) s) : wpAny (model prog w) A (keyKind' (as.map Value.ref).toArray) R E s := by
 obtain ⟨fs, h1, hs, kt⟩ := T.kats
 refine kat_kind (T := .type "str") kt (by omega) (fun v hv => ?_) rfl q
 obtain ⟨x, t, rfl⟩ := hs v hv
 exact Looks.of_pure rfl
end
end L2
namespace L2
open PySem PySem.W PySem.Spec PyProof.Rows L3
section
variable {X : Cx}
def rSortT : List V → Hp → VK → Prop := fun xs H Q => ∃ (d : Addr) (kvs : List (List Key × V)) (ks : List (Str × Str)), xs = [.ref d] ∧ H d = some (.dT kvs) ∧ kvs.map (·.1) = ks.map (fun k => [Sum.inr k.1, Sum.inr k.2]) ∧ ks.length < 64 ∧
 ∀ l (L : List (Addr × Str × Str)), H l = none → (L.map (·.2)).Perm ks → (L.map (·.2)).Pairwise (fun a b => ltP a b = true) → (∀ z ∈ L, H z.1 = some (.tup [.str z.2.1, .str z.2.2])) → Q (.ref l) (upd H l (.lst (L.map fun z => .ref z.1)))
theorem two_of {pins : Q4} {σ : St} {H : Hp} {s : Shared} (I : Inv X pins σ H s) {a : Addr} {k : Str × Str} (h : H a = some (.tup [.str k.1, .str k.2])) : TwoAt s.heap a k := by
 obtain ⟨its, r, ⟨o, e, c, n, d⟩, _⟩ := I.tuple (SqT.of h)
 cases r with
 | cons r1 rr =>
   cases rr with
   | cons r2 r3 =>
     cases r3
     obtain ⟨t, rfl⟩ := r1
     obtain ⟨u, rfl⟩ := r2
     exact ⟨o, n, t, u, e, c, d⟩
theorem Qnw {pins : Q4} {σ : St} {H : Hp} {s : Shared} (I : Inv X pins σ H s) : ∀ {kvs : List (List Key × V)} {zs : List (List Key × Addr × Value)} {ks : List (Str × Str)}, Paired (fun (p : List Key × V) (q : List Key × Addr × Value) => p.1 = q.1 ∧ H q.2.1 = some (.tup (p.1.map kV)) ∧ RelV p.2 q.2.2) kvs zs →
 kvs.map (·.1) = ks.map (fun k => [Sum.inr k.1, Sum.inr k.2]) → TwosAt s.heap (zs.map (·.2.1)) ks ∧ (∀ i, i < ks.length → H ((zs.map (·.2.1)).getD i 0) = some (.tup [.str (ks.getD i ("", "")).1, .str (ks.getD i ("", "")).2])) ∧ zs.map (·.1) = ks.map (fun k => [Sum.inr k.1, Sum.inr k.2]) := by
 intro kvs zs ks pr
 induction pr generalizing ks with
 | nil =>
   intro e
   cases ks with
   | nil => exact ⟨.nil, (fun i hi => absurd hi (Nat.not_lt_zero _)), rfl⟩
   | cons _ _ => cases e
 | @cons p z kvs zs r rr ih =>
   intro e
   cases ks with
   | nil => cases e
   | cons k ks =>
     simp only [List.map_cons, List.cons.injEq] at e
     obtain ⟨h1, h2, h3⟩ := ih e.2
     have ha : H z.2.1 = some (.tup [.str k.1, .str k.2]) := by
      have := r.2.1
      rw [e.1] at this
      exact this
     refine ⟨.cons (two_of I ha) h1, fun i hi => ?_, ?_⟩
     ·cases i with
      | zero => exact ha
      | succ i => simpa [List.getD] using h2 i (by simpa using hi)
     ·simp only [List.map_cons, List.cons.injEq]
      exact ⟨r.1.symm.trans e.1, h3⟩
theorem Qix {α : Type} (xs : List α) (d : α) : (List.range xs.length).map (fun i => xs.getD i d) = xs := by
 apply List.ext_getElem
 ·simp
 ·intro i h1 h2
  simp [List.getD, h2]
theorem Qdh (hc : X.calm = true) : CallR X (.builtin "sorted") rSortT := by
 intro pins s σ H xs us Q I rv h
 obtain ⟨d, kvs, ks, rfl, hd, hks, h64, q⟩ := h
 obtain ⟨u, rfl, ru⟩ := rv.one
 cases ru
 obtain ⟨hz, hsm, zs, pr, o, es, ep, ho, hcl, hdat, hes, hnd⟩ := (show ObjOk X.prog X.w H s.heap d (.dT kvs) from I.hok d _ hd)
 obtain ⟨T, hH, hzk⟩ := Qnw I pr hks
 have hv : es.toList.map (·.key) = (zs.map (·.2.1)).map Value.ref := by
  rw [hes, List.map_map, List.map_map]
  rfl
 have nd : ks.Nodup := by
  rw [hzk] at hnd
  exact List.Pairwise.of_map _ (fun a b h e => h (by rw [e])) hnd
 have hl : ((zs.map (·.2.1)).map Value.ref).length = ks.length := by rw [List.length_map, T.len]
 have O := Qjx nd
 rw [← hl] at O
 refine Qii (κ := tuples' true) hsm (I.ok.hd hc) ⟨o, ho, hcl, hdat⟩ hv (by omega) O (fun h2 h' tk kp => ⟨fun R hR => Qmg (s := { s with heap := h', toks := tk }) (T.keep kp) (by omega) hR, Qmx (s := { s with heap := h', toks := tk }) (T.keep kp) nd⟩) fun h' tk D p c PP u kp lD hD => ?_
 rw [hl] at PP u
 have hp : ∀ i ∈ p.toList, i < ks.length := fun i hi => List.mem_range.mp (PP.pm.mem_iff.mp hi)
 have hout : (p.toList.map fun i => ((zs.map (·.2.1)).map Value.ref).getD i Value.none) = (p.toList.map fun i => ((zs.map (·.2.1)).getD i 0, ks.getD i ("", ""))).map fun z => Value.ref z.1 := by
  rw [show ∀ (l : List Nat) (f : Nat → Addr × Str × Str), (l.map f).map (fun z => Value.ref z.1) = l.map (fun i => Value.ref (f i).1) from fun l f => by rw [List.map_map]; rfl]
  refine List.map_congr_left fun i hi => ?_
  have h1 : i < (zs.map (·.2.1)).length := by rw [T.len]; exact hp i hi
  show ((zs.map (·.2.1)).map Value.ref).getD i Value.none = Value.ref ((zs.map (·.2.1)).getD i 0)
  rw [List.getD, List.getD, List.getElem?_map, List.getElem?_eq_getElem h1]
  rfl
 have hm2 : (p.toList.map fun i => ((zs.map (·.2.1)).getD i 0, ks.getD i ("", ""))).map (·.2) = p.toList.map fun i => ks.getD i ("", "") := by
  rw [List.map_map]
  rfl
 rw [hout] at hD
 refine ⟨.ref D, _, I.laid (a := D) (o := .lst ((p.toList.map fun i => ((zs.map (·.2.1)).getD i 0, ks.getD i ("", ""))).map fun z => V.ref z.1)) (t' := tk) kp lD ⟨?_, (p.toList.map fun i => ((zs.map (·.2.1)).getD i 0, ks.getD i ("", ""))).map (fun z => Value.ref z.1), c, ?_, hD⟩, rfl, q D _ (I.hok.fresh lD) ?_ ?_ ?_⟩
 ·rw [List.length_map, List.length_map, Array.length_toList, PP.size]
  have : 64 ≤ sizeLine := by decide
  omega
 ·generalize (p.toList.map fun i => ((zs.map (·.2.1)).getD i 0, ks.getD i ("", ""))) = M
  induction M with
  | nil => exact .nil
  | cons z M ih => exact .cons rfl ih
 ·rw [hm2]
  have := PP.pm.map (fun i => ks.getD i ("", ""))
  rw [Qix] at this
  exact this
 ·rw [hm2, List.pairwise_iff_getElem]
  intro i j hi hj hij
  simp only [List.length_map, Array.length_toList] at hi hj; simp only [List.getElem_map, Array.getElem_toList]
  have := u i j hij (by rw [PP.size] at hj; exact hj)
  rw [gD hi, gD hj] at this
  exact this
 ·intro z hz
  obtain ⟨i, hi, rfl⟩ := List.mem_map.mp hz
  exact hH i (hp i hi)
end
end L2
namespace L2
open PySem PySem.Spec PyProof.Rows L3
section
variable {X : Cx}
theorem Qdp : ∀ {ns : List Int} {its : List Value}, Vals (ns.map V.int) its → ∀ (j : Nat) (h : j < its.length), ∃ t, its[j] = .int (ns.getD j 0) t
 | [], _, .nil, j, h => absurd h (Nat.not_lt_zero _)
 | n :: ns, _, .cons r rr, 0, _ => by
   obtain ⟨t, rfl⟩ := r
   exact ⟨t, rfl⟩
 | n :: ns, _, .cons r rr, j + 1, h => by
   obtain ⟨t, e⟩ := Qdp rr j (by simpa using h)
   exact ⟨t, by simpa [List.getD] using e⟩
theorem all_eq (ns ms : List Int) : ((List.range (min ns.length ms.length)).all (fun j => decide (ns.getD j 0 = ms.getD j 0)) && ns.length == ms.length) = decide (ns = ms) := by
 by_cases e : ns = ms
 ·subst e
  simp
 ·rw [decide_eq_false e]
  by_cases hl : ns.length = ms.length
  ·simp only [hl, beq_self_eq_true, Bool.and_true, Nat.min_self]
   rw [Bool.eq_false_iff]
   intro h
   refine e (List.ext_getElem hl fun i h1 h2 => ?_)
   have := List.all_eq_true.mp h i (List.mem_range.mpr h2)
   simpa [List.getD, h1, h2] using this
  ·simp [hl]
theorem Qni {cm : Bool} {k : Nat} (hr : Room cm k X.A) : OpR X (compareOp .NotEq) (fun x y H Q => ∃ (a b : Addr) (ns ms : List Int), x = .ref a ∧ y = .ref b ∧ SqT X.K H a (ns.map V.int) ∧ SqT X.K H b (ms.map V.int) ∧ Q (.bl (!decide (ns = ms))) H) := by
 intro pins s σ H x y v u Q I rx ry h
 obtain ⟨a, b, ns, ms, rfl, rfl, ha, hb, q⟩ := h
 cases rx
 cases ry
 obtain ⟨its, r, pl, hz⟩ := I.tuple ha
 obtain ⟨its2, r2, pl2, hz2⟩ := I.tuple hb
 have l1 := r.length
 have l2 := r2.length
 rw [List.length_map] at l1 l2
 have hu : X.A.units < cLine := by have := hr.un; omega
 refine SeqAt.RcNeAt.tuples (e := fun j => decide (ns.getD j 0 = ms.getD j 0)) (show s.heap.IsTuple a its.toArray from pl) (show s.heap.IsTuple b its2.toArray from pl2) hu (fun j h1 h2 => ?_) _ _ _ _ ?_
 ·simp only [List.size_toArray] at h1 h2
  obtain ⟨t, e1⟩ := Qdp r j h1
  obtain ⟨t2, e2⟩ := Qdp r2 j h2
  simp only [List.getElem_toArray]
  rw [e1, e2]
  exact SeqAt.EqAt.int_int _ _ _ _
 ·simp only [List.size_toArray]
  rw [← l1, ← l2, all_eq]
  exact ⟨.bl _, H, I, rfl, q⟩
end
end L2
namespace L2
open PySem PySem.Spec PyProof.Rows L3
theorem Qfa : ∀ {xs ys : List (Str × Str)}, xs.Perm ys → xs.Pairwise (fun a b => ltP a b = true) → ys.Pairwise (fun a b => ltP a b = true) → xs = ys
 | [], ys, p, _, _ => p.nil_eq
 | x :: xs, [], p, _, _ => absurd p.length_eq (by simp)
 | x :: xs, y :: ys, p, h1, h2 => by
   have a1 := List.pairwise_cons.mp h1
   have a2 := List.pairwise_cons.mp h2
   have e : x = y := by
    rcases List.mem_cons.mp (p.mem_iff.mp List.mem_cons_self) with z | z
    ·exact z
    ·rcases List.mem_cons.mp (p.mem_iff.mpr (List.mem_cons_self (a := y) (l := ys))) with z2 | z2
     ·exact z2.symm
     ·have b1 := a1.1 y z2
      have b2 := a2.1 x z
      have := Qnk b1 b2
      have hne : x ≠ y := fun e => by
       subst e
       unfold ltP at b1
       rw [if_pos rfl] at b1
       exact Qhx b1 rfl
      rw [Qj8 hne, b2] at b1
      cases b1
   subst e
   rw [Qfa (List.perm_cons x |>.mp p) a1.2 a2.2]
end L2
namespace L2
open PySem PySem.Spec PyProof.Rows L3
section
variable {X : Cx}
theorem Qjr {i : Nat} {t : Str} {elt iter tg : Expr} {g : TG} {xs : List Str} {pos cpos pos' : Pos} {scope : Scope} {cl : List (Str × Addr)} {wi : TI} {te : TE} (js : List Nat) (hN : X.N.Nodup) (hi' : X.N[i]? = some t) (hx : Loc X.env.scope t) (hc : X.calm = true) (L : LcOkT X xs scope cl js) (hi : PI X tg iter wi)
 (hg : ∀ C s2 H2 fp xe, PG (X.inC scope cl C s2 H2 fp (xs ++ js.map (fun j => X.N.getD j "")) xe) tg g)
 (he : ∀ C s2 H2 fp xe, PE (X.inC scope cl C s2 H2 fp (xs ++ js.map (fun j => X.N.getD j "")) xe) elt te)
 (hs : ∀ z, foldedSetIterable iter X.env z = pure z := by intro _; rfl) (hsw : swapsWith (.ListComp elt [⟨tg, iter, [], 0⟩] scope cpos) (some (.Name t pos')) pos.line X.env = pure true := by rfl)
 (hf : X.fn t = true ∨ X.env.scope.names.lookup t = some .local := by first | exact .inl rfl | exact .inr rfl | assumption) :
 PS X (.Assign [.Name t pos'] (.ListComp elt [⟨tg, iter, [], 0⟩] scope cpos) pos) (tAsg (tLCT wi g te xs.length js) (gName i)) := by
 intro pins s σ H D I h
 rw [exec_Assign_Name_used _ _ _ _ hsw]
 refine wpAny_bind (wpAny_standAt (wpAny_bind ?_))
 show wpAny _ X.A (do let _ ← comprehension (.ListComp elt [⟨tg, iter, [], 0⟩] scope cpos) scope X.env _ (newList []) false (eval iter X.env) (some (assign (.Name t pos') X.env))) _ _ s
 refine wpAny_bind (wpAny_mono (Qhz (use := some (assign (.Name t pos') X.env)) (Qc := fun _ s' => SP X pins D .next s') hc L hi hg he hs I h fun Dl C H4 s4 m hn fC I4 q => ?_) (fun _ s' hq => wpAny_pure (wpAny_pure hq)) fun _ _ e => e)
 show wpAny (model X.prog X.w) X.A (assign (.Name t pos') X.env (.ref Dl)) _ X.xe s4
 obtain ⟨oC, es, ep, hoC, hdC, rC⟩ := id hn
 have I4' : Inv X (pins ++ pinsAt [C] s4.heap) σ H4 s4 := (I4 s4.heap (.refl ..)).pinned (fun b hb => by rw [List.mem_singleton.mp hb]; exact fC) fun b hb => by
  rw [List.mem_singleton.mp hb]
  exact ⟨oC, hoC, fun v z => by rw [hdC] at z; cases z⟩
 refine thn (Qak hN hi' hx hf _ s4 σ H4 (.ref Dl) (.ref Dl) D.nx I4' rfl q) fun _ s5 ⟨σ5, H5, I5, q5⟩ => ?_
 obtain ⟨e5, n5, _⟩ := I5.pin (C, oC) (List.mem_append_right _ (List.mem_append_right _ (Qbu (List.mem_singleton.mpr rfl) hoC)))
 refine ⟨m, ⟨oC, es, ep, e5, hdC, rC⟩, fun h' sb => ⟨σ5, H5, ?_, q5⟩⟩
 obtain ⟨_, f1, _, f3, f4, f5⟩ := fC
 exact I5.unpinned.turned (t' := s5.toks) (it := C) (fun b o hb e => (sb.2 b hb).trans e) n5 f1 f3 f4 f5
end
end L2
namespace L2
open PySem PySem.Spec PyProof.Rows L3
section
variable {X : Cx}
end
theorem Qgr {X : Cx} {scope : Scope} {cl : List (Str × Addr)} {C : Addr} {s2 : Shared} {H2 : Hp} {fp : List Addr} {N' : List Str} {xe : Q3} : SlR (X.inC scope cl C s2 H2 fp N' xe) (rSlT X.K) := sl_tup (X := X.inC scope cl C s2 H2 fp N' xe)
theorem Qoi {X : Cx} {scope : Scope} {cl : List (Str × Addr)} {C : Addr} {s2 : Shared} {H2 : Hp} {fp : List Addr} {N' : List Str} {xe : Q3} {cm : Bool} {k : Nat} (hr : Room cm k X.A) :
 OpR (X.inC scope cl C s2 H2 fp N' xe) (compareOp .NotEq) (fun x y H Q => ∃ (a b : Addr) (ns ms : List Int), x = .ref a ∧ y = .ref b ∧ SqT X.K H a (ns.map V.int) ∧ SqT X.K H b (ms.map V.int) ∧ Q (.bl (!decide (ns = ms))) H) := Qni (X := X.inC scope cl C s2 H2 fp N' xe) hr
end L2
namespace L2
open PySem PySem.Spec PyProof.Rows L3
def ItE (K : Q5) (a : Addr) : It :=
 ⟨fun i H => ∃ xs x, SqL K H a xs ∧ xs[i]? = some x, fun i H x H' => ∃ t y, x = .ref t ∧ H t = none ∧ H' = upd H t (.tup [.int (i : Int), y]) ∧ ∀ xs, SqL K H a xs → xs[i]? = some y, fun i H => ∃ xs, SqL K H a xs ∧ xs.length ≤ i⟩
theorem Qi7 {P : Program} {w : World} {K : Q5} {elts : List Expr} {x1} {pos : Pos} (a e it : Addr) (hne : e ≠ it) : Turn P w K (.Tuple elts x1 pos) (ItE K a) [e, it] e (fun i h => ∃ old, IsEnum h e it (i : Int) old ∧ h.IsListIter it a i) where
 mem := by simp
 obj := fun i h st b hb => by
  obtain ⟨old, he, o, ho, hc, hd⟩ := st
  rcases List.mem_cons.mp hb with z | z
  ·subst z
   exact ⟨_, he, fun v z => by
    have z' : Data.fields _ = Data.cell v := z
    cases z'⟩
  ·rw [List.mem_singleton.mp z]
   exact ⟨o, ho, fun v z => by rw [hd] at z; cases z⟩
 keep := fun i h h' st k => by
  obtain ⟨old, he, hi⟩ := st
  exact ⟨old, k e (by simp) _ he, hi.at fun o q => k it (by simp) o q⟩
 item := by
  intro X hP hw hK hc i pins s σ H E I hf st hg
  subst hP hw hK
  obtain ⟨xs, x, hq, hx⟩ := hg
  obtain ⟨its, rv, p, hz⟩ := I.list hq
  obtain ⟨u, hu, ru⟩ := rv.get hx
  obtain ⟨old, he, hi⟩ := st
  obtain ⟨f0, f1, f2, f3, f4, f5⟩ := hf it (by simp)
  obtain ⟨g0, g1, g2, g3, g4, g5⟩ := hf e (by simp)
  refine wpAny_pyNext_enum_item he hi p.isList (x := u) (by simpa using hu) hne fun h1 heo hit1 ht1 hz1 hk1 => ?_
  refine ⟨_, rfl, wpAny_letOwnedTupleGo_enum heo fun h2 he2 hs2 => ?_⟩
  replace hs2 : Heap.SameBut e h1 h2 := hs2
  have hit2 : h2.IsListIter it a (i + 1) := hit1.at fun o q => (hs2.2 it (Ne.symm hne)).trans q
  obtain ⟨oi, hoi, _, _⟩ := id hi
  obtain ⟨oi2, hoi2, hic2, hid2⟩ := id hit2
  have le : e < s.heap.objs.size := Heap.lt_size he
  have li : it < s.heap.objs.size := Heap.lt_size hoi
  have gA : (s.heap.update it (fun _ => oi2)).get? it = some oi2 := Heap.get?_update_self (fun _ => oi2) hoi (Obj.isFreed_of_fields hid2)
  have oA : ∀ b, b ≠ it → (s.heap.update it (fun _ => oi2)).get? b = s.heap.get? b := fun b hb => Heap.get?_update_other _ _ (Ne.symm hb)
  have IA : Inv X pins σ H { s with heap := s.heap.update it (fun _ => oi2), toks := s.toks } := I.turned (t' := s.toks) (it := it) (fun b o hb q => (oA b hb).trans q) f0 f1 f3 f4 f5
  generalize hA : s.heap.update it (fun _ => oi2) = HA at gA oA IA
  have zA : HA.objs.size = s.heap.objs.size := by rw [← hA]; exact Heap.size_after_update ..
  obtain ⟨oe2, hoe2⟩ : ∃ o, h2.get? e = some o := ⟨_, he2⟩
  have hfe : oe2.isFreed = false := by
   have : oe2 = _ := Option.some.inj (hoe2.symm.trans he2)
   rw [this]
   exact Obj.isFreed_of_fields rfl
  have gB : (HA.update e (fun _ => oe2)).get? e = some oe2 := Heap.get?_update_self (fun _ => oe2) ((oA e hne).trans he) hfe
  have oB : ∀ b, b ≠ e → (HA.update e (fun _ => oe2)).get? b = HA.get? b := fun b hb => Heap.get?_update_other _ _ (Ne.symm hb)
  have IB := IA.turned (t' := s.toks) (it := e) (h' := HA.update e (fun _ => oe2)) (fun b o hb q => (oB b hb).trans q) g0 g1 g3 g4 g5
  have zB : (HA.update e (fun _ => oe2)).objs.size = s.heap.objs.size := by rw [← zA]; exact Heap.size_after_update ..
  generalize HA.update e (fun _ => oe2) = HB at gB oB IB zB
  have kB : ∀ b o, HB.get? b = some o → h2.get? b = some o := fun b o q => by
   by_cases be : b = e
   ·subst be
    rw [gB] at q
    cases q
    exact hoe2
   ·rw [oB b be] at q
    by_cases bi : b = it
    ·subst bi
     rw [gA] at q
     cases q
     exact hoi2
    ·rw [oA b bi] at q
     exact (hs2.2 b be).trans (hk1 b o be bi q)
  have hT : h2.get? s.heap.objs.size = some { cls := .type "tuple", data := .seq #[.int i s.toks, u] } := (hs2.2 _ (Nat.ne_of_gt le)).trans ht1
  have IC := IB.laid (a := s.heap.objs.size) (o := .tup [.int (i : Int), x]) (t' := s.toks + 1) (h' := h2) kB (Nat.le_of_eq zB) ⟨(by show 2 ≤ sizeLine; decide), [.int i s.toks, u], .cons ⟨s.toks, rfl⟩ (.cons ru .nil), ⟨_, hT, rfl, _, rfl⟩⟩
  refine ⟨.ref s.heap.objs.size, _, IC, rfl, ⟨_, x, rfl, I.hok.fresh (Nat.le_refl _), rfl, fun ys hy => by rw [I.Qhy hy hq]; exact hx⟩, ⟨_, he2, hit2⟩, fun b hb => ?_⟩
  have bl : b < s.heap.objs.size := by
   rcases List.mem_cons.mp hb with z | z
   ·rw [z]; exact le
   ·rw [List.mem_singleton.mp z]; exact li
  rw [Qah (Nat.ne_of_lt bl)]
  exact (hf b hb).1
 done := by
  intro X hP hw hK hc i pins s σ H E I hf st hg
  subst hP hw hK
  obtain ⟨xs, hq, hx⟩ := hg
  obtain ⟨its, rv, p, hz⟩ := I.list hq
  obtain ⟨old, he, hi⟩ := st
  obtain ⟨f0, f1, f2, f3, f4, f5⟩ := hf it (by simp)
  have hl := rv.length
  exact wpAny_pyNext_enum_end (I.ok.hd hc) he hi p.isList (by simp; omega) fun h' eb => ⟨rfl, I.turned (t' := s.toks) (fun b o hb e => eb b o hb e) f0 f1 f3 f4 f5⟩
 self := fun _ _ _ _ _ st h => by
  obtain ⟨old, he, hi⟩ := st
  exact wpAny_pyIter_enum he h
section
variable {X : Cx}
def iEnum (K : Q5) (ta : TA) : TI := fun σ H R => ta σ H fun vs H1 => ∃ a, vs = [.ref a] ∧ (∃ xs, SqL K H1 a xs) ∧ R (ItE K a) H1
theorem Qof {l : Expr} {elts : List Expr} {x1} {tp : Pos} {ta : TA} {p pos : Pos} (hg : Gl X "enumerate") (hm : X.mg "enumerate" = none) (ha : PA X [l] ta) (hs : starEach [l] X.env = [(false, eval l X.env)] := by rfl) :
 PI X (.Tuple elts x1 tp) (.Call (.Name "enumerate" p) [l] [] pos) (iEnum X.K ta) := by
 intro pins s σ H R I h
 refine Call_ (Qet I hg hm boot_enumerate (PyProof.Rows.callWith_type1 (thn (ha pos pins s σ H _ I h) fun us s1 ⟨vs, H1, I1, r1, q1⟩ => ?_) hs rfl))
 obtain ⟨a, e, ⟨xs, hq⟩, q⟩ := q1
 subst e
 cases r1 with
 | cons r rr =>
   cases rr
   cases r
   obtain ⟨its, rv, p, hz⟩ := I1.list hq
   refine call_enumerate_list p.isList fun h' he hit hsz hk => ?_
   refine wpAny_pyIter_enum he ?_
   refine ⟨s1.heap.objs.size + 1, [s1.heap.objs.size + 1, s1.heap.objs.size], _, _, H1, rfl, I1.kept (t' := s1.toks) hk, Qi7 a _ _ (Nat.succ_ne_self _), ⟨.none, he, hit⟩, fun b hb => ?_, q⟩
   rcases List.mem_cons.mp hb with z | z
   ·rw [z]
    exact I1.fpOk (Nat.le_succ _) (I1.hok.fresh (Nat.le_succ _))
   ·rw [List.mem_singleton.mp z]
    exact I1.fpOk (Nat.le_refl _) (I1.hok.fresh (Nat.le_refl _))
theorem Qh5 {K : Q5} {a : Addr} {xs : List V} {g : TG} {tb : TS} {D : Ends} {σ : St} {H : Hp} (Pv : Nat → St → Hp → Prop) (h0 : Pv 0 σ H) (hl : ∀ i σ H, i ≤ xs.length → Pv i σ H → SqL K H a xs)
 (hs : ∀ i x σ H t, xs[i]? = some x → Pv i σ H → H t = none → g (.ref t) σ (upd H t (.tup [.int (i : Int), x])) fun σ2 H2 => tb { D with nx := Pv (i + 1), ct := Pv (i + 1), bk := D.nx } σ2 H2) (hd : ∀ σ H, Pv xs.length σ H → D.nx σ H) :
 ∃ W : Nat → Nat → St → Hp → Prop, (∃ m, W 0 m σ H) ∧ ∀ i m σ H, W i m σ H →
   ((ItE K a).stop i H ∧ D.nx σ H) ∨ ((ItE K a).go i H ∧ ∃ N : St → Hp → Prop, (∀ σ' H', N σ' H' → ∃ m', m' < m ∧ W (i + 1) m' σ' H') ∧ ∀ x H', (ItE K a).yld i H x H' → g x σ H' fun σ2 H2 => tb { D with nx := N, ct := N, bk := D.nx } σ2 H2) := by
 refine ⟨fun i m σ H => m = xs.length - i ∧ i ≤ xs.length ∧ Pv i σ H, ⟨xs.length, by simp, Nat.zero_le _, h0⟩, ?_⟩
 rintro i m σ H ⟨rfl, hi, p⟩
 have q := hl i σ H hi p
 by_cases hlt : i < xs.length
 ·refine .inr ⟨⟨xs, xs[i], q, by simp [hlt]⟩, Pv (i + 1), fun σ' H' p' => ⟨xs.length - (i + 1), by omega, rfl, hlt, p'⟩, fun x H' y => ?_⟩
  obtain ⟨t, y, rfl, ht, rfl, hy⟩ := y
  exact hs i y σ H t (hy xs q) p ht
 ·have e : i = xs.length := by omega
  subst e
  exact .inl ⟨⟨xs, q, Nat.le_refl _⟩, hd σ H p⟩
theorem Qmu {k : Nat} (hr : Room true k X.A) : CallR X (.builtin "all") (fun xs H Q => ∃ (p : Addr) (bs : List Bool), xs = [.ref p] ∧ SqL X.K H p (bs.map V.bl) ∧ Q (.bl (bs.all id)) H) := by
 intro pins s σ H xs us Q I r h
 obtain ⟨p, bs, rfl, hq, q⟩ := h
 obtain ⟨u, rfl, rx⟩ := vals1 r
 cases rx
 obtain ⟨its, r', pl, hz⟩ := I.list hq
 have hb := Qie r'
 have hl := pl.isList
 have hlt : p < s.heap.objs.size := by obtain ⟨_, e, _⟩ := hl; exact Heap.lt_size e
 refine call_all_walk (wpAny_pyIter_list hl ?_)
 refine ⟨s.heap.objs.size, [s.heap.objs.size, p], [s.heap.objs.size], its.toArray.size, _, _, fun i => (bs[i]?).getD true, rfl, Walks.list (A := X.A.in1) (hr.hd rfl) _ p (Nat.ne_of_lt hlt) its.toArray,
  ⟨⟨_, Heap.get?_push_size _ rfl, rfl, rfl⟩, hl.push _⟩, fun i v s' Q' E' hP hQ => ?_, fun h' tk hk => ?_⟩
 ·obtain ⟨b, e, rfl⟩ := hb.get i v (by simpa using hP)
  simp only [e, Option.getD_some] at hQ
  exact wpAny_truthy_bool hQ
 ·have e : ((List.range its.toArray.size).all fun i => (bs[i]?).getD true) = bs.all id := by
   rw [List.size_toArray, hb.length]; exact LSm.range_all bs
  rw [e]
  exact ⟨.bl (bs.all id), H, I.kept (LSm.kept_iter hk), rfl, q⟩
end
end L2
namespace PySem.W
open PySem
section
variable {prog : Program} {w : World} {A : Around} {E : Q3} {s : Shared}
theorem Ql4 {it t : Addr} {i : Nat} {its : Array Value} {x : Value} {Q : Q3} (hit : s.heap.IsTupleIter it t i) (ht : s.heap.IsTuple t its) (hx : its[i]? = some x)
 (hQ : ∀ h', h'.IsTupleIter it t (i + 1) → Heap.SameBut it s.heap h' → Q x { s with heap := h' }) : wpAny (model prog w) A (Builtin.SmallTypes.nextOf (.ref it)) Q E s := by
 obtain ⟨oi, hoi, hci, hdi⟩ := id hit
 obtain ⟨ot, hot, _, nt, hdt⟩ := ht
 have g : ∀ (Q' : Q3), (∀ h', h'.IsTupleIter it t (i + 1) → Heap.SameBut it s.heap h' → Q' x { s with heap := h' }) → wpAny (model prog w) A.in1 (Builtin.«tuple_iterator.__next__» ⟨[.ref it], []⟩) (fun fin s' => ∃ v, fin = .done (.ret v) ∧ Q' v s') E s := fun Q' hQ' => by
  show wpAny _ _ (field (.ref it) 0 >>= _) _ _ s
  refine wpAny_bind (wpAny_field hoi hdi (x := .ref t) rfl ?_)
  show wpAny _ _ (if (Value.ref t == Value.none) = true then _ else _) _ _ s
  rw [if_neg (by simp)]
  show wpAny _ _ (field (.ref it) 1 >>= _) _ _ s
  refine wpAny_bind (wpAny_field hoi hdi (x := .int i 0) rfl ?_)
  show wpAny _ _ (seqItems? (.ref t) >>= _) _ _ s
  refine wpAny_bind (wpAny_seqItems hot hdt ?_)
  simp only [Int.toNat_natCast, hx]
  refine wpAny_bind (wpAny_setField hoi hdi (by simp) (wpAny_pure ⟨x, rfl, hQ' _ ?_ (Heap.SameBut.update ..)⟩))
  refine ⟨_, Heap.get?_update_self _ hoi (Obj.isFreed_of_fields (Obj.data_mapFields hdi _)), (Obj.cls_mapFields ..).trans hci, ?_⟩
  rw [Obj.data_mapFields hdi]
  simp [rawInt]
 unfold Builtin.SmallTypes.nextOf
 exact wpAny_bind (wpAny_callSpecial?_slot (name := Str.ofString "__next__") hit.typeIs F.slot_tuple_iterator_next (wpAny_call_entry F.slot_tuple_iterator_next hit.typeIs F.entry_tuple_iterator_next (g _ fun h' a b => wpAny_pure (hQ h' a b)) (F.args_tuple_iterator_next_1 _)))
theorem Qdg {it t : Addr} {i : Nat} {its : Array Value} {Q : Q3} (hh : A.handled = none) (hit : s.heap.IsTupleIter it t i) (ht : s.heap.IsTuple t its) (hx : its[i]? = none)
 (hE : ∀ h' e, Heap.ExtBut it s.heap h' → (∃ o, h'.get? e = some o ∧ o.cls = .type "StopIteration") → E (.ref e) { s with heap := h' }) : wpAny (model prog w) A (Builtin.SmallTypes.nextOf (.ref it)) Q E s := by
 obtain ⟨oi, hoi, hci, hdi⟩ := id hit
 obtain ⟨ot, hot, _, nt, hdt⟩ := ht
 unfold Builtin.SmallTypes.nextOf
 refine wpAny_bind (wpAny_callSpecial?_slot (name := Str.ofString "__next__") hit.typeIs F.slot_tuple_iterator_next (wpAny_call_entry F.slot_tuple_iterator_next hit.typeIs F.entry_tuple_iterator_next ?_ (F.args_tuple_iterator_next_1 _)))
 show wpAny _ _ (field (.ref it) 0 >>= _) _ _ s
 refine wpAny_bind (wpAny_field hoi hdi (x := .ref t) rfl ?_)
 show wpAny _ _ (if (Value.ref t == Value.none) = true then _ else _) _ _ s
 rw [if_neg (by simp)]
 show wpAny _ _ (field (.ref it) 1 >>= _) _ _ s
 refine wpAny_bind (wpAny_field hoi hdi (x := .int i 0) rfl ?_)
 show wpAny _ _ (seqItems? (.ref t) >>= _) _ _ s
 refine wpAny_bind (wpAny_seqItems hot hdt ?_)
 simp only [Int.toNat_natCast, hx]
 refine wpAny_bind (wpAny_rule (wpAny_bind (wpAny_setField hoi hdi (by simp) ?_)))
 show wpAny _ _ (newExc (.type "StopIteration") [] >>= _) _ _ _
 refine wpAny_bind ?_
 simp only [newExc, newTuple]
 refine wpAny_bind (wpAny_newObj_type ?_ (by size_fits))
 refine wpAny_bind (m := firstArgMember _ _) (wpAny_of_eq (a := Value.none) (by first | rfl | (simp only [firstArgMember]; rfl)) ?_)
 refine wpAny_newObj_type ?_ (by size_fits)
 simp only [raiseNew]
 refine wpAny_bind (wpAny_handled ?_)
 first | rw [show A.in1.handled = none from hh] | rw [hh]
 exact wpAny_bind (wpAny_pure (wpAny_throw (hE _ _ (((Heap.SameBut.update ..).extBut.push _).push _) ⟨_, Heap.get?_push_size _ rfl, rfl⟩)))
end
theorem drawsTup {prog : Program} {w : World} {A : Around} (hh : A.handled = none) (it l : Addr) (hne : l ≠ it) (its : Array Value) :
 Draws prog w A it [it, l] its.size (fun i v => its[i]? = some v) (fun i h => h.IsTupleIter it l i ∧ h.IsTuple l its) where
 live := fun _ _ st => let ⟨o, ho, _⟩ := st.1; ⟨o, ho⟩
 frame := fun _ _ _ st hk => by
  obtain ⟨⟨o, ho, r⟩, o2, ho2, r2⟩ := st
  exact ⟨⟨o, hk it (by simp) o ho, r⟩, o2, hk l (by simp) o2 ho2, r2⟩
 item := fun i s Q E hi st hQ => by
  refine Ql4 st.1 st.2 (x := its[i]) (by simp [hi]) fun h' hit' hs' => ?_
  exact hQ _ h' s.toks (by simp [hi]) ⟨hit', st.2.extBut hs'.extBut hne⟩ hs'
 done := fun s Q E st hE => Qdg hh st.1 st.2 (by simp) hE
theorem Qj2 (l : Addr) (its : Array Value) (n : Nat) (dct : Option Addr) (sl : Array Q6) :
 Meets (Builtin.«enumerate.__new__» ⟨[.type "enumerate", .ref l], []⟩) (fun _ R s => s.heap.get? l = some { cls := .type "tuple", dict := dct, data := .seq its n, slots := sl } ∧
  R (.ok (.ret (.ref (s.heap.push { cls := .type "tuple_iterator", data := .fields #[.ref l, .int 0 0] }).objs.size)))
    { s with heap := (s.heap.push { cls := .type "tuple_iterator", data := .fields #[.ref l, .int 0 0] }).push { cls := .type "enumerate", data := .fields #[.none, .bool false, .ref s.heap.objs.size, rawInt 0, .none, .none] } }) :=
 .of_wp fun prog w A R s h => by
  obtain ⟨hp, g, d, tk, os⟩ := s
  obtain ⟨hl, h⟩ := h
  have hsub := sub_enumerate
  have hL : Heap.IsTuple (Shared.heap ⟨hp, g, d, tk, os⟩) l its := ⟨_, hl, rfl, n, rfl⟩
  wp_walk using AutoSeq1.wpAny_loadPart' hl
  refine wpAny_stack_any fun st => wpAny_pure ?_
  split
  ·rename_i c _ _ _ _ _
   cases (c == Value.type "enumerate") <;> (wp_walk using AutoSeq1.wpAny_loadPart' hl, wpAny_pyIter_tuple hL; exact ⟨_, rfl, h⟩)
  ·wp_walk using AutoSeq1.wpAny_loadPart' hl, wpAny_pyIter_tuple hL
   exact ⟨_, rfl, h⟩
theorem Qi1 {prog : Program} {w : World} {A : Around} {E : Q3} {s : Shared} {l : Addr} {its : Array Value} {Q : Q3} (hL : s.heap.IsTuple l its)
 (h : ∀ h', IsEnum h' (s.heap.objs.size + 1) s.heap.objs.size 0 .none → h'.IsTupleIter s.heap.objs.size l 0 → h'.objs.size = s.heap.objs.size + 2 → (∀ b o, s.heap.get? b = some o → h'.get? b = some o) → Q (.ref (s.heap.objs.size + 1)) { s with heap := h' }) :
 wpAny (model prog w) A (call (.type "enumerate") [.ref l]) Q E s := by
 obtain ⟨⟨c, dct, dt, sl⟩, hl, hc, n, hd⟩ := hL
 replace hc : c = .type "tuple" := hc
 replace hd : dt = .seq its n := hd
 subst hc hd
 refine callType_new F.called_enumerate (by decide) (F.typeCall_enumerate_1 _) (F.newCall_enumerate_1 _) (fun obj => F.args_object_init_2 obj _) F.entry_enumerate_new (Qj2 l its n dct sl) ⟨hl, ?_⟩
 have hz : (s.heap.push { cls := .type "tuple_iterator", data := .fields #[.ref l, .int 0 0] }).objs.size = s.heap.objs.size + 1 := Heap.size_push ..
 show _ ∧ _
 rw [hz]
 have he : IsEnum ((s.heap.push { cls := .type "tuple_iterator", data := .fields #[.ref l, .int 0 0] }).push { cls := .type "enumerate", data := .fields #[.none, .bool false, .ref s.heap.objs.size, rawInt 0, .none, .none] }) (s.heap.objs.size + 1) s.heap.objs.size 0 .none := by
  have := Heap.get?_push_size (s.heap.push { cls := .type "tuple_iterator", data := .fields #[.ref l, .int 0 0] }) (o := { cls := .type "enumerate", data := .fields #[.none, .bool false, .ref s.heap.objs.size, rawInt 0, .none, .none] }) rfl
  rw [hz] at this
  exact this
 exact ⟨⟨_, he, rfl⟩, h _ he ⟨_, Heap.get?_push_of_some _ (Heap.get?_push_size _ rfl), rfl, rfl⟩ (by rw [Heap.size_push, hz]) fun b o x => Heap.get?_push_of_some _ (Heap.get?_push_of_some _ x)⟩
end PySem.W
namespace L2
open PySem PySem.W PySem.Spec PyProof.Rows L3
def ItU (K : Q5) (a : Addr) : It :=
 ⟨fun i H => ∃ xs x, SqT K H a xs ∧ xs[i]? = some x, fun i H x H' => ∃ t y, x = .ref t ∧ H t = none ∧ H' = upd H t (.tup [.int (i : Int), y]) ∧ ∀ xs, SqT K H a xs → xs[i]? = some y, fun i H => ∃ xs, SqT K H a xs ∧ xs.length ≤ i⟩
theorem Qih {P : Program} {w : World} {K : Q5} {elts : List Expr} {x1} {pos : Pos} (a e it : Addr) (hne : e ≠ it) : Turn P w K (.Tuple elts x1 pos) (ItU K a) [e, it] e (fun i h => ∃ old, IsEnum h e it (i : Int) old ∧ h.IsTupleIter it a i) where
 mem := by simp
 obj := fun i h st b hb => by
  obtain ⟨old, he, o, ho, hc, hd⟩ := st
  rcases List.mem_cons.mp hb with z | z
  ·subst z
   exact ⟨_, he, fun v z => by
    have z' : Data.fields _ = Data.cell v := z
    cases z'⟩
  ·rw [List.mem_singleton.mp z]
   exact ⟨o, ho, fun v z => by rw [hd] at z; cases z⟩
 keep := fun i h h' st k => by
  obtain ⟨old, he, o, ho, r⟩ := st
  exact ⟨old, k e (by simp) _ he, o, k it (by simp) o ho, r⟩
 item := by
  intro X hP hw hK hc i pins s σ H E I hf st hg
  subst hP hw hK
  obtain ⟨xs, x, hq, hx⟩ := hg
  obtain ⟨its, rv, p, hz⟩ := I.tuple hq
  obtain ⟨u, hu, ru⟩ := rv.get hx
  obtain ⟨old, he, hi⟩ := st
  obtain ⟨f0, f1, f2, f3, f4, f5⟩ := hf it (by simp)
  obtain ⟨g0, g1, g2, g3, g4, g5⟩ := hf e (by simp)
  obtain ⟨oi, hoi, _, _⟩ := id hi
  obtain ⟨ol, hol, _⟩ := (show s.heap.IsTuple a its.toArray from p)
  have le : e < s.heap.objs.size := Heap.lt_size he
  have li : it < s.heap.objs.size := Heap.lt_size hoi
  have nai : a ≠ it := fun z => by
   obtain ⟨o2, ho2, hc2, hd2⟩ := id hi
   obtain ⟨o3, ho3, hc3, _⟩ := (show s.heap.IsTuple a its.toArray from p)
   rw [z, ho2] at ho3
   cases ho3
   rw [hc2] at hc3
   exact absurd hc3 (by decide)
  have nae : a ≠ e := fun z => by
   obtain ⟨o3, ho3, hc3, _⟩ := (show s.heap.IsTuple a its.toArray from p)
   rw [z, he] at ho3
   cases ho3
   have hc4 : Value.type "enumerate" = Value.type "tuple" := hc3
   exact absurd hc4 (by decide)
  have hlt : i < its.toArray.size := by
   have := (List.getElem?_eq_some_iff.mp hu).1
   simpa using this
  refine wpAny_pyNext_enum_itemD (drawsTup (A := X.A.in1) (I.ok.hd hc) it a nai its.toArray) he ⟨hi, p⟩ hlt hne (by simp [hne, Ne.symm nae]) fun x' h1 tk hP ho1 hs1 ht1 hz1 hk1 => ?_
  have hxx : x' = u := by
   have a1 : its.toArray[i]? = some u := by simpa using hu
   rw [a1] at hP
   exact (Option.some.inj hP).symm
  subst hxx
  refine ⟨_, rfl, wpAny_letOwnedTupleGo_enum ho1 fun h2 he2 hs2 => ?_⟩
  replace hs2 : Heap.SameBut e h1 h2 := hs2
  have hit2 : h2.IsTupleIter it a (i + 1) := by
   obtain ⟨o, ho, r⟩ := hs1.1
   exact ⟨o, (hs2.2 it (Ne.symm hne)).trans ho, r⟩
  obtain ⟨oi2, hoi2, hic2, hid2⟩ := id hit2
  have gA : (s.heap.update it (fun _ => oi2)).get? it = some oi2 := Heap.get?_update_self (fun _ => oi2) hoi (Obj.isFreed_of_fields hid2)
  have oA : ∀ b, b ≠ it → (s.heap.update it (fun _ => oi2)).get? b = s.heap.get? b := fun b hb => Heap.get?_update_other _ _ (Ne.symm hb)
  have IA : Inv X pins σ H { s with heap := s.heap.update it (fun _ => oi2), toks := s.toks } := I.turned (t' := s.toks) (it := it) (fun b o hb q => (oA b hb).trans q) f0 f1 f3 f4 f5
  generalize hA : s.heap.update it (fun _ => oi2) = HA at gA oA IA
  have zA : HA.objs.size = s.heap.objs.size := by rw [← hA]; exact Heap.size_after_update ..
  obtain ⟨oe2, hoe2⟩ : ∃ o, h2.get? e = some o := ⟨_, he2⟩
  have hfe : oe2.isFreed = false := by
   have : oe2 = _ := Option.some.inj (hoe2.symm.trans he2)
   rw [this]
   exact Obj.isFreed_of_fields rfl
  have gB : (HA.update e (fun _ => oe2)).get? e = some oe2 := Heap.get?_update_self (fun _ => oe2) ((oA e hne).trans he) hfe
  have oB : ∀ b, b ≠ e → (HA.update e (fun _ => oe2)).get? b = HA.get? b := fun b hb => Heap.get?_update_other _ _ (Ne.symm hb)
  have IB := IA.turned (t' := s.toks) (it := e) (h' := HA.update e (fun _ => oe2)) (fun b o hb q => (oB b hb).trans q) g0 g1 g3 g4 g5
  have zB : (HA.update e (fun _ => oe2)).objs.size = s.heap.objs.size := by rw [← zA]; exact Heap.size_after_update ..
  generalize HA.update e (fun _ => oe2) = HB at gB oB IB zB
  have kB : ∀ b o, HB.get? b = some o → h2.get? b = some o := fun b o q => by
   by_cases be : b = e
   ·subst be
    rw [gB] at q
    cases q
    exact hoe2
   ·rw [oB b be] at q
    by_cases bi : b = it
    ·subst bi
     rw [gA] at q
     cases q
     exact hoi2
    ·rw [oA b bi] at q
     exact (hs2.2 b be).trans (hk1 b o be bi q)
  have hT : h2.get? s.heap.objs.size = some { cls := .type "tuple", data := .seq #[.int i tk, x'] } := (hs2.2 _ (Nat.ne_of_gt le)).trans ht1
  have IC := IB.laid (a := s.heap.objs.size) (o := .tup [.int (i : Int), x]) (t' := tk + 1) (h' := h2) kB (Nat.le_of_eq zB) ⟨(by show 2 ≤ sizeLine; decide), [.int i tk, x'], .cons ⟨tk, rfl⟩ (.cons ru .nil), ⟨_, hT, rfl, _, rfl⟩⟩
  refine ⟨.ref s.heap.objs.size, _, IC, rfl, ⟨_, x, rfl, I.hok.fresh (Nat.le_refl _), rfl, fun ys hy => by rw [I.Qi9 hy hq]; exact hx⟩, ⟨_, he2, hit2⟩, fun b hb => ?_⟩
  have bl : b < s.heap.objs.size := by
   rcases List.mem_cons.mp hb with z | z
   ·rw [z]; exact le
   ·rw [List.mem_singleton.mp z]; exact li
  rw [Qah (Nat.ne_of_lt bl)]
  exact (hf b hb).1
 done := by
  intro X hP hw hK hc i pins s σ H E I hf st hg
  subst hP hw hK
  obtain ⟨xs, hq, hx⟩ := hg
  obtain ⟨its, rv, p, hz⟩ := I.tuple hq
  obtain ⟨old, he, hi⟩ := st
  obtain ⟨f0, f1, f2, f3, f4, f5⟩ := hf it (by simp)
  have hl := rv.length
  have ni : its.toArray[i]? = none := by simp; omega
  have T : s.heap.IsTuple a its.toArray := p
  have hT : s.TypeIs (.ref e) "enumerate" := ⟨_, he, rfl⟩
  refine wpAny_mono (Q := fun r s1 => r = none ∧ ∃ h', s1 = { s with heap := h' } ∧ Heap.ExtBut it s.heap h') ?_ (fun r s1 hq => ?_) fun _ _ z => z
  ·unfold pyNext
   refine wpAny_bind (wpAny_attempt (wpAny_callSpecial?_slot (name := Str.ofString "__next__") hT F.slot_enumerate_next (wpAny_call_entry F.slot_enumerate_next hT F.entry_enumerate_next ?_ (F.args_enumerate_next_1 _))))
   show wpAny _ _ (field (.ref e) 2 >>= _) _ _ _
   refine wpAny_bind (wpAny_field he rfl (x := .ref it) rfl ?_)
   refine wpAny_bind (Qdg (A := X.A.in1) (I.ok.hd hc) hi T ni fun h' x hb hx' => ?_)
   obtain ⟨o, ho, hcs⟩ := hx'
   refine wpAny_bind (wpAny_isInstance (T := "StopIteration") (b := true) ⟨o, ho, hcs⟩ isSubtype_stop ?_)
   exact wpAny_pure ⟨rfl, h', rfl, hb⟩
  ·obtain ⟨rfl, h', rfl, eb⟩ := hq
   exact ⟨rfl, I.turned (t' := s.toks) (fun b o hb e => eb b o hb e) f0 f1 f3 f4 f5⟩
 self := fun _ _ _ _ _ st h => by
  obtain ⟨old, he, hi⟩ := st
  exact wpAny_pyIter_enum he h
section
variable {X : Cx}
def iEnumT (K : Q5) (ta : TA) : TI := fun σ H R => ta σ H fun vs H1 => ∃ a, vs = [.ref a] ∧ (∃ xs, SqT K H1 a xs) ∧ R (ItU K a) H1
theorem Qly {l : Expr} {elts : List Expr} {x1} {tp : Pos} {ta : TA} {p pos : Pos} (hg : Gl X "enumerate") (hm : X.mg "enumerate" = none) (ha : PA X [l] ta) (hs : starEach [l] X.env = [(false, eval l X.env)] := by rfl) :
 PI X (.Tuple elts x1 tp) (.Call (.Name "enumerate" p) [l] [] pos) (iEnumT X.K ta) := by
 intro pins s σ H R I h
 refine Call_ (Qet I hg hm boot_enumerate (PyProof.Rows.callWith_type1 (thn (ha pos pins s σ H _ I h) fun us s1 ⟨vs, H1, I1, r1, q1⟩ => ?_) hs rfl))
 obtain ⟨a, e, ⟨xs, hq⟩, q⟩ := q1
 subst e
 cases r1 with
 | cons r rr =>
   cases rr
   cases r
   obtain ⟨its, rv, p, hz⟩ := I1.tuple hq
   refine Qi1 (show s1.heap.IsTuple a its.toArray from p) fun h' he hit hsz hk => ?_
   refine wpAny_pyIter_enum he ?_
   refine ⟨s1.heap.objs.size + 1, [s1.heap.objs.size + 1, s1.heap.objs.size], _, _, H1, rfl, I1.kept (t' := s1.toks) hk, Qih a _ _ (Nat.succ_ne_self _), ⟨.none, he, hit⟩, fun b hb => ?_, q⟩
   rcases List.mem_cons.mp hb with z | z
   ·rw [z]
    exact I1.fpOk (Nat.le_succ _) (I1.hok.fresh (Nat.le_succ _))
   ·rw [List.mem_singleton.mp z]
    exact I1.fpOk (Nat.le_refl _) (I1.hok.fresh (Nat.le_refl _))
theorem Qga {K : Q5} {a : Addr} {xs : List V} {g : TG} {tb : TS} {D : Ends} {σ : St} {H : Hp} (Pv : Nat → St → Hp → Prop) (h0 : Pv 0 σ H) (hl : ∀ i σ H, i ≤ xs.length → Pv i σ H → SqT K H a xs)
 (hs : ∀ i x σ H t, xs[i]? = some x → Pv i σ H → H t = none → g (.ref t) σ (upd H t (.tup [.int (i : Int), x])) fun σ2 H2 => tb { D with nx := Pv (i + 1), ct := Pv (i + 1), bk := D.nx } σ2 H2) (hd : ∀ σ H, Pv xs.length σ H → D.nx σ H) :
 ∃ W : Nat → Nat → St → Hp → Prop, (∃ m, W 0 m σ H) ∧ ∀ i m σ H, W i m σ H →
   ((ItU K a).stop i H ∧ D.nx σ H) ∨ ((ItU K a).go i H ∧ ∃ N : St → Hp → Prop, (∀ σ' H', N σ' H' → ∃ m', m' < m ∧ W (i + 1) m' σ' H') ∧ ∀ x H', (ItU K a).yld i H x H' → g x σ H' fun σ2 H2 => tb { D with nx := N, ct := N, bk := D.nx } σ2 H2) := by
 refine ⟨fun i m σ H => m = xs.length - i ∧ i ≤ xs.length ∧ Pv i σ H, ⟨xs.length, by simp, Nat.zero_le _, h0⟩, ?_⟩
 rintro i m σ H ⟨rfl, hi, p⟩
 have q := hl i σ H hi p
 by_cases hlt : i < xs.length
 ·refine .inr ⟨⟨xs, xs[i], q, by simp [hlt]⟩, Pv (i + 1), fun σ' H' p' => ⟨xs.length - (i + 1), by omega, rfl, hlt, p'⟩, fun x H' y => ?_⟩
  obtain ⟨t, y, rfl, ht, rfl, hy⟩ := y
  exact hs i y σ H t (hy xs q) p ht
 ·have e : i = xs.length := by omega
  subst e
  exact .inl ⟨⟨xs, q, Nat.le_refl _⟩, hd σ H p⟩
end
end L2
namespace L2
open PySem PySem.W PySem.Spec PyProof.Rows L3
section
variable {X : Cx} {CX : CXT} {cm : Bool} {k : Nat} {f C : Addr} {fd : FuncData} {ps : List Str} {sp : Sp} {dvs : List V} {ds : List Value} {E : XK} {x m : Str} {p pos apos : Pos} {e : Expr} {es : List Expr} {t : TA} {mc : Value}
end
theorem Qlz {X : Cx} {x1 x2 x3 : Str} {p1 p2 p3 pos : Pos} {k : Nat} {scope : Scope} {cl : List (Str × Addr)} {js : List Nat} (hc : X.calm = true) (L : LcOkT X [x1, x2, x3] scope cl js) :
 ∀ (C : Addr) (s2 : Shared) (H2 : Hp) (fp : List Addr) (xe : Q3), PG (X.inC scope cl C s2 H2 fp ([x1, x2, x3] ++ js.map (fun j => X.N.getD j "")) xe) (.Tuple [.Name x1 p1, .Name x2 p2, .Name x3 p3] k pos) (gTup X.K 3 (gCons (gName 0) (gCons (gName 1) (gCons (gName 2) gNil)))) := fun C s2 H2 fp xe =>
 Qcc (X := X.inC scope cl C s2 H2 fp ([x1, x2, x3] ++ js.map (fun j => X.N.getD j "")) xe) hc (Qam (Qc0 (i := 0) L rfl List.mem_cons_self) (Qam (Qc0 (i := 1) L rfl (List.mem_cons_of_mem _ List.mem_cons_self)) (Qam (Qc0 (i := 2) L rfl (List.mem_cons_of_mem _ (List.mem_cons_of_mem _ List.mem_cons_self))) Qbx)))
end L2
namespace L2
open PySem PySem.W PySem.Spec PyProof.Rows L3
section
variable {X : Cx}
end
end L2
namespace L2
open PySem PySem.W PySem.Spec PyProof.Rows L3
section
variable {X : Cx} {CX : CXT} {cm : Bool} {k : Nat} {E : XK} {m : Str} {pos apos : Pos} {o : Expr} {ta : TE}
end
end L2
namespace L2
open PySem PySem.W PySem.Spec PyProof.Rows L3
section
variable {X : Cx}
end
end L2
namespace L2
open PySem PySem.W PySem.Spec PyProof.Rows L3
section
variable {X : Cx}
end
end L2
namespace L2
open PySem PySem.W PySem.Spec PyProof.Rows L3
section
variable {X : Cx} {CX : CXT} {cm : Bool} {k : Nat} {E : XK} {m : Str} {pos apos : Pos} {o e : Expr} {es : List Expr} {ta : TE} {t : TA}
end
end L2
namespace L2
open PySem PySem.W PySem.Spec PyProof.Rows L3
section
variable {X : Cx}
end
end L2
namespace L2
open PySem PySem.W PySem.Spec PyProof.Rows L3
section
variable {X : Cx}
end
end L2
namespace L2
open PySem PySem.W PySem.Spec PyProof.Rows L3
section
variable {X : Cx}
end
end L2
namespace L2
open PySem PySem.W PySem.Spec PyProof.Rows L3
section
variable {X : Cx}
end
end L2
namespace L2
open PySem PySem.W PySem.Spec PyProof.Rows L3
section
variable {prog : Program} {w : World} {s : Shared} {A : Around} {E : Q3} {M : Model}
structure StrS (prog : Program) (w : World) (h : Heap) (a : Addr) (es : Array (Int × Value)) (ep : Nat) (t : SetTable) : Prop where
 ob : ∃ o, h.get? a = some o ∧ o.ExactSet ∧ o.data = .set es ep t
 el : ElemsOf (strKind prog w) es.toList
 ft : t.fits es.size = true
 pl : es.size = 0 ∨ t.plain = false
 ld : t.led = !w.params.followText "set-order"
 sm : es.size < scanBound
end
end L2
namespace L2
open PySem PySem.W PySem.Spec PyProof.Rows L3
section
variable {prog : Program} {w : World} {A : Around} {R : Result → Shared → Prop} {I : Addr} {fp wr : List Addr} {G : Array GenState → Array GenState → Prop} {n : Nat} {P : Nat → Value → Prop} {St : Nat → Shared → Prop}
end
section
variable {prog : Program} {w : World} {A : Around} {E : Q3} {s : Shared}
end
end L2
namespace L2
open PySem PySem.W PySem.Spec PyProof.Rows L3
section
variable {prog : Program} {w : World} {A : Around} {E : Q3} {s : Shared}
end
end L2
namespace L2
open PySem PySem.W PySem.Spec PyProof.Rows L3
section
variable {prog : Program} {w : World} {A : Around} {E : Q3} {s : Shared}
end
end L2
namespace L2
open PySem PySem.W PySem.Spec PyProof.Rows L3
section
variable {prog : Program} {w : World} {A : Around} {E : Q3} {s : Shared}
end
end L2
namespace L2
open PySem PySem.W PySem.Spec PyProof.Rows L3
theorem Ql9 {xs ys : List Str} (p : xs.Perm ys) (h1 : xs.Pairwise (fun a b => ltS a b = true)) (h2 : ys.Pairwise (fun a b => ltS a b = true)) : xs = ys := by
 have g : ∀ {l : List Str}, l.Pairwise (fun a b => ltS a b = true) → (l.map fun x => (x, ("" : Str))).Pairwise (fun a b => ltP a b = true) := fun h => by
  rw [List.pairwise_map]
  refine h.imp fun {a b} e => ?_
  unfold ltP
  rw [if_neg (Qhx e)]
  exact e
 have := Qfa (p.map fun x => (x, ("" : Str))) (g h1) (g h2)
 have h := congrArg (List.map Prod.fst) this
 have e : (Prod.fst ∘ fun x : Str => (x, ("" : Str))) = id := rfl
 rw [List.map_map, List.map_map, e, List.map_id, List.map_id] at h
 exact h
section
variable {prog : Program} {w : World} {A : Around} {E : Q3} {s : Shared}
end
end L2
namespace L2
open PySem PySem.W PySem.Spec PyProof.Rows L3
section
variable {prog : Program} {w : World} {A : Around} {E : Q3} {s : Shared}
end
section
variable {X : Cx}
end
end L2
namespace L2
open PySem PySem.W PySem.Spec PyProof.Rows L3
section
variable {X : Cx}
end
end L2
namespace L2
open PySem PySem.Spec PyProof.Rows L3
section
variable {X : Cx} {pins : Q4} {σ : St} {H : Hp} {s : Shared}
theorem Inv.freezeK {d : Addr} {kvs : List (Key × V)} {o : Obj} (I : Inv X pins σ H s) (hd : H d = some (.dK kvs)) (ho : s.heap.get? d = some o) : Inv X pins σ (upd H d (.frz o (.dK kvs))) s := by
 have ne : ∀ b, H b = none → b ≠ d := fun b e z => by rw [z, hd] at e; cases e
 refine I.step (h' := s.heap) (g' := s.gens) (t' := s.toks) (d' := s.drawn) (ch := []) (fun _ z => nomatch z) (fun b o _ _ _ e _ => e) (fun b o _ _ _ e _ => ⟨o.slots, e⟩) (fun b o _ _ n => by rw [Qah (ne b n)]; exact n) (fun b o _ e => ⟨o, e⟩)
  (fun b xs e => ?_) (fun b o u e => ?_) (fun b ps e => ⟨#[], ?_⟩) (fun m h => h) ?_ I.bare
 ·rw [Qah (Qbd e hd (by intro z; cases z))]; exact e
 ·rw [Qah (Qbd e hd (by intro z; cases z))]; exact e
 ·rw [Qah (Qbd e hd (by intro z; cases z))]; simpa using e
 ·have own : ∀ (c y : Addr), H c = some (.own y) → upd H d (.frz o (.dK kvs)) c = some (.own y) := fun c y e => by rw [Qah (Qbd e hd (by intro z; cases z))]; exact e
  have tup : ∀ (c : Addr) (xs : List V), H c = some (.tup xs) → upd H d (.frz o (.dK kvs)) c = some (.tup xs) := fun c xs e => by rw [Qah (Qbd e hd (by intro z; cases z))]; exact e
  intro b u e
  by_cases hb : b = d
  ·subst hb
   rw [Qab] at e
   cases e
   exact ⟨ho, (I.hok b _ hd).stay (fun _ _ _ q => q) (fun c q => own c b q) tup⟩
  ·rw [Qah hb] at e
   exact (I.hok b u e).stay (fun _ _ _ q => q) (fun c q => own c b q) tup
end
theorem kv_at {l : List (Key × V)} {m : List (Key × Value)} (r : KV l m) : ∀ (j : Nat) kv, l[j]? = some kv → ∃ u, m[j]? = some (kv.1, u) ∧ RelV kv.2 u := by
 unfold KV at r
 induction r with
 | nil => intro j p hp; simp at hp
 | @cons p q ps qs h t ih =>
   intro j p' hp
   cases j with
   | zero =>
     cases hp
     obtain ⟨q1, q2⟩ := q
     refine ⟨q2, ?_, h.2⟩
     show some (q1, q2) = _
     rw [h.1]
   | succ j => exact ih j p' (by simpa using hp)
def ItI (d : Addr) (o : Obj) (kvs : List (Key × V)) : It :=
 ⟨fun i H => H d = some (.frz o (.dK kvs)) ∧ i < kvs.length, fun i H x H' => ∃ t kv, x = .ref t ∧ H t = none ∧ H' = upd H t (.tup [kV kv.1, kv.2]) ∧ kvs[i]? = some kv, fun i H => H d = some (.frz o (.dK kvs)) ∧ kvs.length ≤ i⟩
theorem Qig {P : Program} {w : World} {K : Q5} {elts : List Expr} {x1} {pos : Pos} {d it : Addr} {o : Obj} {kvs : List (Key × V)} {vs : List (Key × Value)} {ep : Nat} (rel : KV kvs vs) (hdi : d ≠ it)
 (hda : ∀ h : Heap, h.get? d = some o → h.DictAt (mixKind P w) d vs ep) : Turn P w K (.Tuple elts x1 pos) (ItI d o kvs) [it] it (fun i h => ∃ ok ov, IsItemIter h it d i vs.length ep ok ov) where
 mem := by simp
 obj := fun i h st b hb => by
  obtain ⟨ok, ov, he⟩ := st
  rw [List.mem_singleton.mp hb]
  exact ⟨_, he, fun v z => by
   have z' : Data.fields _ = Data.cell v := z
   cases z'⟩
 keep := fun i h h' st k => by
  obtain ⟨ok, ov, he⟩ := st
  exact ⟨ok, ov, k it (by simp) _ he⟩
 item := by
  intro X hP hw hK hc i pins s σ H E I hf st hg
  subst hP hw hK
  obtain ⟨hdf, hlt⟩ := hg
  obtain ⟨ok, ov, hi⟩ := st
  obtain ⟨f0, f1, f2, f3, f4, f5⟩ := hf it (by simp)
  obtain ⟨kv, hkv⟩ : ∃ kv, kvs[i]? = some kv := ⟨_, List.getElem?_eq_getElem hlt⟩
  obtain ⟨u, hu, ru⟩ := kv_at rel i kv hkv
  have raw := hda s.heap (show ObjOk X.prog X.w H s.heap d (.frz o (.dK kvs)) from I.hok d _ hdf).1
  refine wpAny_pyNext_items_item hi raw hu fun key h1 hkey heo ht1 hz1 hk1 => ?_
  refine ⟨_, rfl, wpAny_letOwnedTupleGo_items heo fun h2 he2 hs2 => ?_⟩
  replace hs2 : Heap.SameBut it h1 h2 := hs2
  have li : it < s.heap.objs.size := Heap.lt_size hi
  obtain ⟨oi2, hoi2⟩ : ∃ o, h2.get? it = some o := ⟨_, he2⟩
  have hfe : oi2.isFreed = false := by
   have : oi2 = _ := Option.some.inj (hoi2.symm.trans he2)
   rw [this]
   exact Obj.isFreed_of_fields rfl
  have gA : (s.heap.update it (fun _ => oi2)).get? it = some oi2 := Heap.get?_update_self (fun _ => oi2) hi hfe
  have oA : ∀ b, b ≠ it → (s.heap.update it (fun _ => oi2)).get? b = s.heap.get? b := fun b hb => Heap.get?_update_other _ _ (Ne.symm hb)
  have IA : Inv X pins σ H { s with heap := s.heap.update it (fun _ => oi2), toks := s.toks } := I.turned (t' := s.toks) (it := it) (fun b o hb q => (oA b hb).trans q) f0 f1 f3 f4 f5
  generalize hA : s.heap.update it (fun _ => oi2) = HA at gA oA IA
  have zA : HA.objs.size = s.heap.objs.size := by rw [← hA]; exact Heap.size_after_update ..
  have kB : ∀ b o, HA.get? b = some o → h2.get? b = some o := fun b o q => by
   by_cases bi : b = it
   ·subst bi
    rw [gA] at q
    cases q
    exact hoi2
   ·rw [oA b bi] at q
    exact (hs2.2 b bi).trans (hk1 b o bi q)
  have hT : h2.get? s.heap.objs.size = some { cls := .type "tuple", data := .seq #[key, u] } := (hs2.2 _ (Nat.ne_of_gt li)).trans ht1
  have IC := IA.laid (a := s.heap.objs.size) (o := .tup [kV kv.1, kv.2]) (t' := s.toks) (h' := h2) kB (Nat.le_of_eq zA) ⟨(by show 2 ≤ sizeLine; decide), [key, u], .cons (Qgv hkey) (.cons ru .nil), ⟨_, hT, rfl, _, rfl⟩⟩
  refine ⟨.ref s.heap.objs.size, _, IC, rfl, ⟨_, kv, rfl, I.hok.fresh (Nat.le_refl _), rfl, hkv⟩, ⟨_, _, he2⟩, fun b hb => ?_⟩
  rw [List.mem_singleton.mp hb, Qah (Nat.ne_of_lt li)]
  exact f0
 done := by
  intro X hP hw hK hc i pins s σ H E I hf st hg
  subst hP hw hK
  obtain ⟨hdf, hge⟩ := hg
  obtain ⟨ok, ov, hi⟩ := st
  obtain ⟨f0, f1, f2, f3, f4, f5⟩ := hf it (by simp)
  have raw := hda s.heap (show ObjOk X.prog X.w H s.heap d (.frz o (.dK kvs)) from I.hok d _ hdf).1
  have hl : kvs.length = vs.length := rel.length
  exact wpAny_pyNext_items_end (I.ok.hd hc) hi raw (List.getElem?_eq_none (by omega)) fun h' eb => ⟨rfl, I.turned (t' := s.toks) (fun b o hb e => eb b o hb e) f0 f1 f3 f4 f5⟩
 self := fun A i s Q E st h => by
  obtain ⟨ok, ov, he⟩ := st
  exact PySem.W.kcp_self he h
section
variable {X : Cx}
def iItems (te : TE) : TI := fun σ H R => te σ H fun x H1 => ∃ (v d : Addr) (kvs : List (Key × V)), x = .ref v ∧ H1 v = some (ivw v d) ∧ H1 d = some (.dK kvs) ∧ ∀ o : Obj, R (ItI d o kvs) (upd H1 d (.frz o (.dK kvs)))
theorem Qlx {elts : List Expr} {x1} {tp : Pos} {e : Expr} {te : TE} (he : PE X e te) : PI X (.Tuple elts x1 tp) e (iItems te) := by
 intro pins s σ H R I h
 refine thn (he pins s σ H _ I h) fun v s1 ⟨x, H1, I1, r1, q1⟩ => ?_
 obtain ⟨v, d, kvs, rfl, hv, hd, q⟩ := q1
 cases r1
 obtain ⟨z, hsm, vs, rel, dd⟩ := Qg7 I1.hok hd
 obtain ⟨ep, da⟩ := dd.dictAt
 have hvw : s1.heap.IsItemsView v d := (I1.hok v _ hv).1
 obtain ⟨o, es, ho, rest⟩ := id da
 have I2 := I1.freezeK hd ho
 refine wpAny_pyIter_items hvw da ?_
 have k : ∀ b u, s1.heap.get? b = some u → (s1.heap.push { cls := .type "dict_itemiterator", data := .fields #[.none, .bool false, .ref d, .int 0 0, .int vs.length 0, .int ep 0, .none, .none] }).get? b = some u := fun b u e => Heap.get?_push_of_some _ e
 have I3 : Inv X pins σ (upd H1 d (.frz o (.dK kvs))) { s1 with heap := s1.heap.push { cls := .type "dict_itemiterator", data := .fields #[.none, .bool false, .ref d, .int 0 0, .int vs.length 0, .int ep 0, .none, .none] } } := I2.kept (t' := s1.toks) k
 refine ⟨s1.heap.objs.size, [s1.heap.objs.size], _, ItI d o kvs, upd H1 d (.frz o (.dK kvs)), rfl, I3, Qig rel (Nat.ne_of_lt (Heap.lt_size ho)) (fun h hh => ⟨o, es, hh, rest⟩), ⟨_, _, Heap.get?_push_size _ rfl⟩, fun b hb => ?_, q o⟩
 rw [List.mem_singleton.mp hb]
 exact I2.fpOk (Nat.le_refl _) (I2.hok.fresh (Nat.le_refl _))
theorem Qkq {d : Addr} {o : Obj} {kvs : List (Key × V)} {g : TG} {tb : TS} {D : Ends} {σ : St} {H : Hp} (Pv : Nat → St → Hp → Prop) (h0 : Pv 0 σ H) (hl : ∀ i σ H, i ≤ kvs.length → Pv i σ H → H d = some (.frz o (.dK kvs)))
 (hs : ∀ i kv σ H t, kvs[i]? = some kv → Pv i σ H → H t = none → g (.ref t) σ (upd H t (.tup [kV kv.1, kv.2])) fun σ2 H2 => tb { D with nx := Pv (i + 1), ct := Pv (i + 1), bk := D.nx } σ2 H2) (hd : ∀ σ H, Pv kvs.length σ H → D.nx σ H) :
 ∃ W : Nat → Nat → St → Hp → Prop, (∃ m, W 0 m σ H) ∧ ∀ i m σ H, W i m σ H →
   ((ItI d o kvs).stop i H ∧ D.nx σ H) ∨ ((ItI d o kvs).go i H ∧ ∃ N : St → Hp → Prop, (∀ σ' H', N σ' H' → ∃ m', m' < m ∧ W (i + 1) m' σ' H') ∧ ∀ x H', (ItI d o kvs).yld i H x H' → g x σ H' fun σ2 H2 => tb { D with nx := N, ct := N, bk := D.nx } σ2 H2) := by
 refine ⟨fun i m σ H => m = kvs.length - i ∧ i ≤ kvs.length ∧ Pv i σ H, ⟨kvs.length, by simp, Nat.zero_le _, h0⟩, ?_⟩
 rintro i m σ H ⟨rfl, hi, p⟩
 have q := hl i σ H hi p
 by_cases hlt : i < kvs.length
 ·refine .inr ⟨⟨q, hlt⟩, Pv (i + 1), fun σ' H' p' => ⟨kvs.length - (i + 1), by omega, rfl, hlt, p'⟩, fun x H' y => ?_⟩
  obtain ⟨t, kv, rfl, ht, rfl, hk⟩ := y
  exact hs i kv σ H t hk p ht
 ·have e : i = kvs.length := by omega
  subst e
  exact .inl ⟨⟨q, Nat.le_refl _⟩, hd σ H p⟩
end
end L2
namespace L2
open PySem PySem.W PySem.Spec PyProof.Rows L3
section
variable {X : Cx}
end
end L2
namespace L2
open PySem PySem.Spec PyProof.Rows L3
section
variable {X : Cx}
def vvw (v d : Addr) : HO := .ext fun h => h.IsValuesView v d
def rVals : V → List V → Hp → VK → Prop := fun x vs H Q => ∃ (d : Addr) (kvs : List (Key × V)), x = .ref d ∧ vs = [] ∧ H d = some (.dK kvs) ∧ ∀ v, H v = none → Q (.ref v) (upd H v (vvw v d))
theorem Qj4 : MtR X "dict.values" rVals := by
 intro pins s σ H x vs v us Q I rx rv h
 obtain ⟨d, kvs, rfl, rfl, hd, q⟩ := h
 cases rx
 cases rv
 obtain ⟨z, hsm, xs, rel, dd⟩ := Qg7 I.hok hd
 refine call_meetsIn PySem.F.slot_dict_values dd.typeIs PySem.F.entry_dict_values (PySem.F.args_dict_values_1 _) (meets_dict_values (mixKind X.prog X.w) d hsm) ⟨⟨xs, dd⟩, ?_⟩
 refine ⟨.ref s.heap.objs.size, _, I.laid (a := s.heap.objs.size) (o := vvw s.heap.objs.size d) (t' := s.toks) (fun _ _ q => Heap.get?_push_of_some _ q) (Nat.le_refl _) ?_, rfl, q _ I.fresh⟩
 exact ⟨⟨_, Heap.get?_push_size _ rfl, rfl, rfl⟩, ⟨_, Heap.get?_push_size _ rfl⟩, fun h1 h2 ⟨o, ho, hc, hd⟩ k => ⟨o, k o ho, hc, hd⟩⟩
def rListVals : List V → Hp → VK → Prop := fun xs H Q => ∃ (v d : Addr) (kvs : List (Key × V)), xs = [.ref v] ∧ H v = some (vvw v d) ∧ H d = some (.dK kvs) ∧ ∀ l, H l = none → Q (.ref l) (upd H l (.lst (kvs.map (·.2))))
theorem Qeh (hc : X.calm = true) : CallR X (.type "list") rListVals := by
 intro pins s σ H xs us Q I rv h
 obtain ⟨v, d, kvs, rfl, hv, hd, q⟩ := h
 obtain ⟨u, rfl, ru⟩ := rv.one
 cases ru
 obtain ⟨z, hsm, vs, rel, dd⟩ := Qg7 I.hok hd
 obtain ⟨ep, da⟩ := dd.dictAt
 have hvw : s.heap.IsValuesView v d := (I.hok v _ hv).1
 have rl : kvs.length = vs.length := rel.length
 refine PySem.W.kdl_call (PySem.W.kdl_values (knd := mixKind X.prog X.w) (kvs := vs) (ep := ep)) (I.ok.hd hc) ⟨hvw, da⟩ (by omega) fun h' tk acc c hk hS hacc => ?_
 have hv : Vals (kvs.map (·.2)) acc.toList := by
  have all : ∀ {kvs : List (Key × V)} {vs : List (Key × Value)} (us : List Value), KV kvs vs → us.length = vs.length → (∀ (j : Nat) v, us[j]? = some v → ∃ k, vs[j]? = some (k, v)) → Vals (kvs.map (·.2)) us := by
   intro kvs vs us r
   unfold KV at r
   induction r generalizing us with
   | nil =>
     intro h1 _
     cases us with
     | nil => exact .nil
     | cons _ _ => simp at h1
   | @cons p q ps qs h t ih =>
     intro h1 h2
     cases us with
     | nil => simp at h1
     | cons u us =>
       obtain ⟨k, e1⟩ := h2 0 u rfl
       cases e1
       exact .cons h.2 (ih us (by simpa using h1) fun j v hj => by
        obtain ⟨k, e3⟩ := h2 (j + 1) v (by simpa using hj)
        exact ⟨k, by simpa using e3⟩)
  refine all acc.toList rel (by rw [Array.length_toList]; exact hacc.1) fun j v hj => hacc.2 j v ?_
  rw [← Array.getElem?_toList]
  exact hj
 refine ⟨.ref s.heap.objs.size, _, I.laid (a := s.heap.objs.size) (o := .lst (kvs.map (·.2))) (t' := tk) hk (Nat.le_refl _) ⟨by rw [List.length_map]; exact z, acc.toList, c, hv, ?_⟩, rfl, q _ I.fresh⟩
 rw [hS]
end
end L2
namespace Z
end Z
namespace N11
def gF (a b : Int) : Int := (Int.gcd a b : Nat)
theorem g_abs (a b : Int) : Int.gcd (a.natAbs : Int) (b.natAbs : Int) = Int.gcd a b := rfl
theorem g_turn {a b : Int} (ha : 0 ≤ a) (hb : 0 < b) : Int.gcd b (a.fmod b) = Int.gcd a b := by
 rw [Int.fmod_eq_emod_of_nonneg a (Int.le_of_lt hb)]
 obtain ⟨m, rfl⟩ := Int.eq_ofNat_of_zero_le ha
 obtain ⟨n, rfl⟩ := Int.eq_ofNat_of_zero_le (Int.le_of_lt hb)
 show Nat.gcd n (((m : Int) % (n : Int)).natAbs) = Nat.gcd m n
 rw [← Int.natCast_emod, Int.natAbs_natCast, Nat.gcd_comm n, ← Nat.gcd_rec, Nat.gcd_comm]
theorem g_out {a : Int} (ha : 0 ≤ a) : (Int.gcd a 0 : Int) = a := by
 rw [Int.gcd_zero_right]
 omega
theorem frac {t b g : Int} (hb : b ≠ 0) (hg : g = (if b < 0 then -(gF t b) else gF t b)) :
 g ≠ 0 ∧ (Int.fdiv b g ≥ 1) ∧ gF (Int.fdiv t g) (Int.fdiv b g) = 1 ∧ Int.fdiv t g * b = t * Int.fdiv b g ∧ Int.fdiv t g * g = t ∧ Int.fdiv b g * g = b := by
 have g0 : 0 < Int.gcd t b := Int.gcd_pos_of_ne_zero_right t hb
 have gd : g ≠ 0 := by rw [hg]; unfold gF; split <;> omega
 have d1 : (Int.gcd t b : Int) ∣ t := Int.gcd_dvd_left ..
 have d2 : (Int.gcd t b : Int) ∣ b := Int.gcd_dvd_right ..
 have e1 : g ∣ t := by
  rw [hg]; unfold gF; split
  ·exact (Int.neg_dvd).mpr d1
  ·exact d1
 have e2 : g ∣ b := by
  rw [hg]; unfold gF; split
  ·exact (Int.neg_dvd).mpr d2
  ·exact d2
 obtain ⟨x, hx⟩ := e1
 obtain ⟨y, hy⟩ := e2
 have fx : Int.fdiv t g = x := by rw [hx]; exact Int.mul_fdiv_cancel_left x gd
 have fy : Int.fdiv b g = y := by rw [hy]; exact Int.mul_fdiv_cancel_left y gd
 rw [fx, fy]
 have na : g.natAbs = Int.gcd t b := by rw [hg]; unfold gF; split <;> omega
 have gg : Int.gcd x y = 1 := by
  have : Int.gcd t b = g.natAbs * Int.gcd x y := by
   conv => lhs; rw [hx, hy]
   rw [Int.gcd_mul_left]
  rw [na] at this
  exact Nat.eq_of_mul_eq_mul_left g0 (by omega)
 refine ⟨gd, ?_, ?_, ?_, ?_, ?_⟩
 ·-- y ≥ 1
  by_cases c : b < 0
  ·rw [if_pos c] at hg
   have gn : g < 0 := by rw [hg]; unfold gF; omega
   by_cases z : 1 ≤ y
   ·exact z
   ·exfalso
    have := Int.mul_nonneg (show (0 : Int) ≤ -g by omega) (show (0 : Int) ≤ -y by omega)
    rw [Int.neg_mul_neg] at this
    omega
  ·rw [if_neg c] at hg
   have gn : 0 < g := by rw [hg]; unfold gF; omega
   by_cases z : 1 ≤ y
   ·exact z
   ·exfalso
    have := Int.mul_nonneg (show (0 : Int) ≤ g by omega) (show (0 : Int) ≤ -y by omega)
    rw [Int.mul_neg] at this
    omega
 ·unfold gF; rw [gg]; rfl
 ·rw [hy, hx]; rw [Int.mul_comm g x, Int.mul_assoc]
 ·rw [hx, Int.mul_comm]
 ·rw [hy, Int.mul_comm]
end N11
namespace N11
structure GI (o p a b : Int) : Prop where
 is : gF a b = gF o p
theorem g_told (t b : Int) : 0 ≤ gF t b ∧ (b = 0 ∨ (0 < gF t b ∧ gF t b ≤ (b.natAbs : Int))) := by
 refine ⟨by unfold gF; omega, ?_⟩
 by_cases c : b = 0
 ·exact .inl c
 ·have g0 : 0 < Int.gcd t b := Int.gcd_pos_of_ne_zero_right t c
  have d := Nat.le_of_dvd (show 0 < b.natAbs by omega) (Int.gcd_dvd_natAbs_right t b)
  exact .inr ⟨by unfold gF; omega, by unfold gF; omega⟩
theorem Qku (a b : Int) : (Int.fdiv a b).natAbs ≤ a.natAbs := by
 rcases a with (_ | k) | k <;> rcases b with (_ | j) | j
 all_goals first
  | exact Nat.zero_le _
  | exact Nat.div_le_self _ _
  | exact Nat.succ_le_succ (Nat.div_le_self _ _)
  | (show (Int.fdiv 0 _).natAbs ≤ 0; rw [Int.zero_fdiv]; exact Nat.le_refl _)
theorem low {t b d : Int} (hb : b ≠ 0) (hd : d = (if b < 0 then -(gF t b) else gF t b)) :
 1 ≤ Int.fdiv b d ∧ Int.fdiv b d ≤ (b.natAbs : Int) ∧ -(t.natAbs : Int) ≤ Int.fdiv t d ∧ Int.fdiv t d ≤ (t.natAbs : Int) ∧
 gF (Int.fdiv t d) (Int.fdiv b d) = 1 ∧ Int.fdiv t d * b = t * Int.fdiv b d := by
 have h := frac (t := t) (b := b) (g := d) hb hd
 have f1 := Qku b d
 have f2 := Qku t d
 exact ⟨h.2.1, by omega, by omega, by omega, h.2.2.1, h.2.2.2.1⟩
end N11
namespace N11
theorem Qoy {a b : Int} (ha : 0 ≤ a) (hb : 0 < b) : gF b (a % b) = gF a b := by
 have h := g_turn ha hb
 rw [Int.fmod_eq_emod_of_nonneg a (Int.le_of_lt hb)] at h
 unfold gF
 rw [h]
theorem Qoz (a b : Int) : gF ((a.natAbs : Nat) : Int) ((b.natAbs : Nat) : Int) = gF a b := by
 unfold gF
 rw [g_abs]
theorem g_end {a b x : Int} (h : gF x 0 = gF a b) (hx : 0 ≤ x) : x = gF a b := by
 rw [← h]
 unfold gF
 rw [g_out hx]
def dF (t b : Int) : Int := if b < 0 then -(gF t b) else gF t b
theorem dF_in {t b : Int} (hb : b ≠ 0) : dF t b ≠ 0 ∧ (dF t b).natAbs ≤ b.natAbs := by
 have h := g_told t b
 unfold dF
 split <;> omega
theorem lowD {t b : Int} (hb : b ≠ 0) : 1 ≤ Int.fdiv b (dF t b) ∧ Int.fdiv b (dF t b) ≤ (b.natAbs : Int) ∧ (Int.fdiv t (dF t b)).natAbs ≤ t.natAbs ∧ gF (Int.fdiv t (dF t b)) (Int.fdiv b (dF t b)) = 1 ∧ Int.fdiv t (dF t b) * b = t * Int.fdiv b (dF t b) := by
 have h := low (t := t) (b := b) (d := dF t b) hb rfl
 exact ⟨h.1, h.2.1, by omega, h.2.2.2.2.1, h.2.2.2.2.2⟩
end N11
namespace N13
theorem quot (x y : Int) : x = y * Int.fdiv x y + Int.fmod x y := by
 rw [Int.fmod_def]
 omega
def sizeF (t b : Int) : Int := Int.fdiv (2 * (t.natAbs : Int) + b) (2 * b)
def nearF (t b : Int) : Int := if t < 0 then -(sizeF t b) else sizeF t b
theorem Qc9 (t b : Int) (hb : 1 ≤ b) : 0 ≤ sizeF t b ∧ -b < 2 * (sizeF t b * b) - 2 * (t.natAbs : Int) ∧ 2 * (sizeF t b * b) - 2 * (t.natAbs : Int) ≤ b := by
 have q := quot (2 * (t.natAbs : Int) + b) (2 * b)
 have r0 := Int.fmod_nonneg_of_pos (2 * (t.natAbs : Int) + b) (show 0 < 2 * b by omega)
 have r1 := Int.fmod_lt_of_pos (2 * (t.natAbs : Int) + b) (show 0 < 2 * b by omega)
 have e : 2 * b * sizeF t b = 2 * (sizeF t b * b) := by
  rw [Int.mul_assoc, Int.mul_comm b]
 have n0 : 0 ≤ sizeF t b := by
  unfold sizeF
  rw [Int.fdiv_eq_ediv_of_nonneg _ (by omega)]
  exact Int.ediv_nonneg (by omega) (by omega)
 have q' : 2 * (t.natAbs : Int) + b = 2 * b * sizeF t b + Int.fmod (2 * (t.natAbs : Int) + b) (2 * b) := q
 rw [e] at q'
 exact ⟨n0, by omega, by omega⟩
theorem Qn5 (t b : Int) (hb : 1 ≤ b) : sizeF t b ≤ (t.natAbs : Int) + 1 := by
 obtain ⟨n0, lo, hi⟩ := Qc9 t b hb
 have := Int.mul_le_mul_of_nonneg_left hb n0
 rw [Int.mul_one] at this
 by_cases c : sizeF t b ≤ (t.natAbs : Int) + 1
 ·exact c
 ·exfalso
  have h1 : (t.natAbs : Int) + 2 ≤ sizeF t b := by omega
  have h2 := Int.mul_le_mul_of_nonneg_right h1 (show (0 : Int) ≤ b by omega)
  rw [Int.add_mul] at h2
  have h3 := Int.mul_le_mul_of_nonneg_left hb (show (0 : Int) ≤ (t.natAbs : Int) by omega)
  rw [Int.mul_one] at h3
  omega
theorem Qln (t b : Int) : sizeF (-t) b = sizeF t b := by
 unfold sizeF
 rw [Int.natAbs_neg]
theorem Qjf (b : Int) (hb : 1 ≤ b) : sizeF 0 b = 0 := by
 obtain ⟨n0, lo, hi⟩ := Qc9 0 b hb
 by_cases c : sizeF 0 b = 0
 ·exact c
 ·have := Int.mul_le_mul_of_nonneg_right (show (1 : Int) ≤ sizeF 0 b by omega) (show (0 : Int) ≤ b by omega)
  simp at hi
  omega
theorem Qip (t b : Int) (hb : 1 ≤ b) :
 (nearF t b).natAbs = sizeF t b ∧ 0 ≤ sizeF t b ∧ sizeF t b ≤ (t.natAbs : Int) + 1 ∧
 (nearF t b * b = if t < 0 then -(sizeF t b * b) else sizeF t b * b) ∧
 ((((nearF t b).natAbs : Nat) : Int) * b = sizeF t b * b) ∧
 -b < 2 * (sizeF t b * b) - 2 * (t.natAbs : Int) ∧ 2 * (sizeF t b * b) - 2 * (t.natAbs : Int) ≤ b ∧
 nearF (0 - t) b = 0 - nearF t b := by
 obtain ⟨n0, lo, hi⟩ := Qc9 t b hb
 have l := Qn5 t b hb
 have e : (nearF t b).natAbs = sizeF t b := by
  unfold nearF
  split <;> omega
 refine ⟨e, n0, l, ?_, by rw [e], lo, hi, ?_⟩
 ·unfold nearF
  split
  ·rw [Int.neg_mul]
  ·rfl
 ·unfold nearF
  rw [Int.zero_sub, Qln]
  by_cases z : t = 0
  ·subst z
   simp [Qjf b hb]
  ·split <;> split <;> omega
end N13
namespace N13
def nearZ (t b : Int) : Int := if t < 0 then -(Int.fdiv (2 * ((t.natAbs : Nat) : Int) + b) (2 * b)) else Int.fdiv (2 * ((t.natAbs : Nat) : Int) + b) (2 * b)
end N13
namespace N13
theorem nearNeg {t b : Int} (hb : 1 ≤ b) : nearZ (0 - t) b = 0 - nearZ t b := (Qip t b hb).2.2.2.2.2.2.2
end N13
namespace N18
variable {α : Type}
end N18
namespace N21
variable {κ : Type} [DecidableEq κ]
def tot (c : κ) : List (κ × Int) → Int
 | [] => 0
 | p :: r => (if p.1 = c then p.2 else 0) + tot c r
def add (acc : List κ) (c : κ) : List κ := if c ∈ acc then acc else acc ++ [c]
def firsts (cs : List κ) : List κ := cs.foldl add []
theorem Qd7 (cs : List κ) (c : κ) : firsts (cs ++ [c]) = add (firsts cs) c := by
 unfold firsts
 rw [List.foldl_append]
 rfl
theorem Qf3 (c : κ) : ∀ (cs acc : List κ), c ∈ cs.foldl add acc ↔ c ∈ acc ∨ c ∈ cs
 | [], acc => by simp
 | d :: cs, acc => by
   rw [List.foldl_cons, Qf3 c cs (add acc d), List.mem_cons]
   unfold add
   split
   ·rename_i h
    constructor
    ·rintro (h1 | h1)
     ·exact .inl h1
     ·exact .inr (.inr h1)
    ·rintro (h1 | rfl | h1)
     ·exact .inl h1
     ·exact .inl h
     ·exact .inr h1
   ·rw [List.mem_append, List.mem_singleton]
    constructor
    ·rintro ((h1 | h1) | h1)
     ·exact .inl h1
     ·exact .inr (.inl h1)
     ·exact .inr (.inr h1)
    ·rintro (h1 | h1 | h1)
     ·exact .inl (.inl h1)
     ·exact .inl (.inr h1)
     ·exact .inr h1
theorem Qa2 {c : κ} {cs : List κ} : c ∈ firsts cs ↔ c ∈ cs := by
 unfold firsts
 rw [Qf3]
 simp
theorem Qoq (acc : List κ) (c : κ) : (add acc c).length ≤ acc.length + 1 := by
 unfold add
 split
 ·omega
 ·rw [List.length_append]; exact Nat.le_refl _
theorem Qf6 : ∀ (cs acc : List κ), (cs.foldl add acc).length ≤ acc.length + cs.length
 | [], acc => by simp
 | d :: cs, acc => by
   have h1 := Qf6 cs (add acc d)
   have h2 := Qoq acc d
   rw [List.foldl_cons, List.length_cons]
   omega
theorem Qcf (cs : List κ) : (firsts cs).length ≤ cs.length := by
 have := Qf6 cs ([] : List κ)
 unfold firsts
 simpa using this
theorem Qdl (c : κ) (p : κ × Int) : ∀ P : List (κ × Int), tot c (P ++ [p]) = tot c P + (if p.1 = c then p.2 else 0)
 | [] => by show _ + 0 = 0 + _; omega
 | q :: r => by
   show _ + tot c (r ++ [p]) = _ + tot c r + _
   rw [Qdl c p r]
   omega
theorem Qds {c : κ} : ∀ {P : List (κ × Int)}, c ∉ P.map (·.1) → tot c P = 0
 | [], _ => rfl
 | q :: r, h => by
   have h1 : ¬ q.1 = c := fun e => h (by rw [← e]; exact List.mem_cons_self)
   have h2 := Qds (P := r) fun m => h (List.mem_cons_of_mem _ m)
   show (if q.1 = c then q.2 else 0) + tot c r = 0
   rw [if_neg h1, h2]
   rfl
theorem Qej (c : κ) : ∀ P : List (κ × Int), ((P.filter fun p => decide (p.1 = c)).map (·.2)).sum = tot c P
 | [] => rfl
 | q :: r => by
   have ih := Qej c r
   by_cases h : q.1 = c
   ·rw [List.filter_cons_of_pos (by simpa using h), List.map_cons, List.sum_cons, ih]
    show _ = (if q.1 = c then q.2 else 0) + tot c r
    rw [if_pos h]
   ·rw [List.filter_cons_of_neg (by simpa using h), ih]
    show _ = (if q.1 = c then q.2 else 0) + tot c r
    rw [if_neg h, Int.zero_add]
theorem Qj0 {acc : List κ} (h : acc.Nodup) (c : κ) : (add acc c).Nodup := by
 unfold add
 split
 ·exact h
 ·rename_i n
  exact List.nodup_append.mpr ⟨h, by simp, fun a ha b hb => by rw [List.mem_singleton.mp hb]; exact fun e => n (e ▸ ha)⟩
theorem Qdz : ∀ (cs acc : List κ), acc.Nodup → (cs.foldl add acc).Nodup
 | [], _, h => h
 | d :: cs, acc, h => Qdz cs (add acc d) (Qj0 h d)
theorem Qa9 (cs : List κ) : (firsts cs).Nodup := Qdz cs [] List.nodup_nil
theorem Qgb : ∀ (cs acc : List κ), ∃ T, cs.foldl add acc = acc ++ T
 | [], acc => ⟨[], by simp⟩
 | d :: cs, acc => by
   obtain ⟨T, h⟩ := Qgb cs (add acc d)
   rw [List.foldl_cons, h]
   unfold add
   split
   ·exact ⟨T, rfl⟩
   ·exact ⟨d :: T, by simp⟩
theorem Qg6 (c : κ) (cs : List κ) : ∃ T, firsts (c :: cs) = c :: T := by
 obtain ⟨T, h⟩ := Qgb cs [c]
 exact ⟨T, h⟩
def rs (P : List (κ × Int)) : List (κ × Int) := (firsts (P.map (·.1))).map fun c => (c, tot c P)
end N21
namespace N22
set_option linter.unusedSectionVars false
variable {κ : Type} [DecidableEq κ]
abbrev Rv (κ : Type) := κ × κ × κ × Int
def sumIf (p : Rv κ → Bool) : List (Rv κ) → Int
 | [] => 0
 | z :: r => (if p z = true then z.2.2.2 else 0) + sumIf p r
theorem Qdt (p : Rv κ → Bool) : ∀ A B : List (Rv κ), sumIf p (A ++ B) = sumIf p A + sumIf p B
 | [], B => (Int.zero_add _).symm
 | z :: r, B => by
   show _ + sumIf p (r ++ B) = _ + sumIf p r + _
   rw [Qdt p r B]
   omega
theorem Qc6 {p : Rv κ → Bool} : ∀ {L : List (Rv κ)}, (∀ z ∈ L, p z = false) → sumIf p L = 0
 | [], _ => rfl
 | z :: r, h => by
   show (if p z = true then z.2.2.2 else 0) + sumIf p r = 0
   rw [h z List.mem_cons_self, Qc6 fun y hy => h y (List.mem_cons_of_mem _ hy)]
   rfl
def sm (g : κ → Int) : List κ → Int
 | [] => 0
 | c :: r => g c + sm g r
theorem Qc7 {g : κ → Int} : ∀ {l : List κ}, (∀ c ∈ l, g c = 0) → sm g l = 0
 | [], _ => rfl
 | c :: r, h => by
   show g c + sm g r = 0
   rw [h c List.mem_cons_self, Qc7 fun y hy => h y (List.mem_cons_of_mem _ hy)]
   rfl
theorem Qfp (g h : κ → Int) : ∀ l : List κ, sm (fun c => g c + h c) l = sm g l + sm h l
 | [] => rfl
 | c :: r => by
   show g c + h c + sm (fun c => g c + h c) r = g c + sm g r + (h c + sm h r)
   rw [Qfp g h r]
   omega
theorem Qcb {g h : κ → Int} : ∀ {l : List κ}, (∀ c ∈ l, g c = h c) → sm g l = sm h l
 | [], _ => rfl
 | c :: r, e => by
   show g c + sm g r = h c + sm h r
   rw [e c List.mem_cons_self, Qcb fun y hy => e y (List.mem_cons_of_mem _ hy)]
theorem Qdf (g : κ → Int) (c : κ) : ∀ {l : List κ}, l.Nodup → sm (fun d => if d = c then g d else 0) l = if c ∈ l then g c else 0
 | [], _ => by simp [sm]
 | d :: r, h => by
   obtain ⟨h1, h2⟩ := List.nodup_cons.mp h
   show (if d = c then g d else 0) + sm (fun d => if d = c then g d else 0) r = _
   rw [Qdf g c h2]
   by_cases e : d = c
   ·subst e
    simp [h1]
   ·simp [e, Ne.symm e]
def oneDue (b : κ → κ) (s : κ) (t : κ → κ → Int) (f c : κ) : List (Rv κ) := if t f c ≠ 0 then [(f, b s, c, -t f c), (s, b f, c, t f c)] else []
def rowDue (b : κ → κ) (s : κ) (t : κ → κ → Int) (C : List κ) (f : κ) : List (Rv κ) := C.flatMap (oneDue b s t f)
def dues (b : κ → κ) (s : κ) (t : κ → κ → Int) (T C : List κ) : List (Rv κ) := T.flatMap (rowDue b s t C)
theorem Qn1 (p : Rv κ → Bool) (b : κ → κ) (s : κ) (t : κ → κ → Int) (f c : κ) : sumIf p (oneDue b s t f c) = (if p (f, b s, c, -t f c) = true then -t f c else 0) + (if p (s, b f, c, t f c) = true then t f c else 0) := by
 unfold oneDue
 by_cases h : t f c = 0
 ·rw [if_neg (by simpa using h), h]
  simp [sumIf]
 ·rw [if_pos h]
  show (if p (f, b s, c, -t f c) = true then -t f c else 0) + ((if p (s, b f, c, t f c) = true then t f c else 0) + 0) = _
  rw [Int.add_zero]
theorem Qew (p : Rv κ → Bool) (g : κ → List (Rv κ)) : ∀ l : List κ, sumIf p (l.flatMap g) = sm (fun f => sumIf p (g f)) l
 | [] => rfl
 | f :: r => by
   rw [List.flatMap_cons, Qdt, Qew p g r]
   rfl
theorem Qlm (p : Rv κ → Bool) (b : κ → κ) (s : κ) (t : κ → κ → Int) (T C : List κ) : sumIf p (dues b s t T C) = sm (fun f => sm (fun c => (if p (f, b s, c, -t f c) = true then -t f c else 0) + (if p (s, b f, c, t f c) = true then t f c else 0)) C) T := by
 unfold dues
 rw [Qew]
 refine Qcb fun f _ => ?_
 unfold rowDue
 rw [Qew]
 exact Qcb fun c _ => Qn1 p b s t f c
def pFC (f c : κ) : Rv κ → Bool := fun z => decide (z.1 = f) && decide (z.2.2.1 = c)
def pOw (b : κ → κ) (f o c : κ) : Rv κ → Bool := fun z => decide (z.1 = f) && (decide (z.2.1 = b o) && decide (z.2.2.1 = c))
theorem Qo3 (b : κ → κ) (s : κ) (t : κ → κ → Int) {T C : List κ} (nT : T.Nodup) (nC : C.Nodup) (f c : κ) :
 sumIf (pFC f c) (dues b s t T C) = (if f ∈ T then (if c ∈ C then -t f c else 0) else 0) + (if s = f then (if c ∈ C then sm (fun g => t g c) T else 0) else 0) := by
 rw [Qlm]
 have e : ∀ g, sm (fun d => (if pFC f c (g, b s, d, -t g d) = true then -t g d else 0) + (if pFC f c (s, b g, d, t g d) = true then t g d else 0)) C = (if g = f then (if c ∈ C then -t g c else 0) else 0) + (if s = f then (if c ∈ C then t g c else 0) else 0) := by
  intro g
  rw [Qfp]
  congr 1
  ·by_cases h : g = f
   ·rw [if_pos h, ← Qdf (fun d => -t g d) c nC]
    refine Qcb fun d _ => ?_
    by_cases hd : d = c <;> simp [pFC, h, hd]
   ·rw [if_neg h]
    refine Qc7 fun d _ => ?_
    simp [pFC, h]
  ·by_cases h : s = f
   ·rw [if_pos h, ← Qdf (fun d => t g d) c nC]
    refine Qcb fun d _ => ?_
    by_cases hd : d = c <;> simp [pFC, h, hd]
   ·rw [if_neg h]
    refine Qc7 fun d _ => ?_
    simp [pFC, h]
 rw [Qcb fun g _ => e g, Qfp, Qdf (fun g => if c ∈ C then -t g c else 0) f nT]
 congr 1
 by_cases h : s = f
 ·simp only [h, if_true]
  by_cases hc : c ∈ C
  ·simp [hc]
  ·simp only [hc, if_false]
   exact Qc7 fun _ _ => rfl
 ·simp only [h, if_false]
  exact Qc7 fun _ _ => rfl
theorem part (c : κ) : ∀ {V : List (Rv κ)} {F : List κ}, F.Nodup → (∀ z ∈ V, z.1 ∈ F) → sm (fun f => sumIf (pFC f c) V) F = sumIf (fun z => decide (z.2.2.1 = c)) V
 | [], F, _, _ => Qc7 fun _ _ => rfl
 | z :: V, F, nF, h => by
   have ih := part c (V := V) nF fun y hy => h y (List.mem_cons_of_mem _ hy)
   have e : sm (fun f => sumIf (pFC f c) (z :: V)) F = sm (fun f => if f = z.1 then (if z.2.2.1 = c then z.2.2.2 else 0) else 0) F + sm (fun f => sumIf (pFC f c) V) F := by
    rw [← Qfp]
    refine Qcb fun f _ => ?_
    show (if pFC f c z = true then z.2.2.2 else 0) + sumIf (pFC f c) V = _
    congr 1
    by_cases h1 : f = z.1
    ·subst h1
     by_cases h2 : z.2.2.1 = c <;> simp [pFC, h2]
    ·simp [pFC, h1, Ne.symm h1]
   rw [e, ih, Qdf (fun _ => if z.2.2.1 = c then z.2.2.2 else 0) z.1 nF, if_pos (h z List.mem_cons_self)]
   show _ = (if decide (z.2.2.1 = c) = true then z.2.2.2 else 0) + _
   by_cases h2 : z.2.2.1 = c <;> simp [h2]
theorem Qkn (b : κ → κ) {V : List (Rv κ)} {s : κ} {T C : List κ} (nF : (s :: T).Nodup) (nC : C.Nodup) (hF : ∀ z ∈ V, z.1 ∈ s :: T) (hC : ∀ z ∈ V, z.2.2.1 ∈ C) (h0 : ∀ c ∈ C, sumIf (fun z => decide (z.2.2.1 = c)) V = 0) (f c : κ) :
 sumIf (pFC f c) V + sumIf (pFC f c) (dues b s (fun f c => sumIf (pFC f c) V) T C) = 0 := by
 obtain ⟨n1, nT⟩ := List.nodup_cons.mp nF
 rw [Qo3 b s _ nT nC]
 by_cases hc : c ∈ C
 ·have pt := part c nF hF
  rw [h0 c hc] at pt
  have pt' : sumIf (pFC s c) V + sm (fun f => sumIf (pFC f c) V) T = 0 := pt
  by_cases hs : s = f
  ·subst hs
   simp only [n1, if_false, if_true, hc]
   omega
  ·by_cases hf : f ∈ T
   ·simp only [hf, hs, if_true, if_false, hc]
    omega
   ·have : sumIf (pFC f c) V = 0 := Qc6 fun z hz => by
     have hz1 := hF z hz
     have : z.1 ≠ f := fun e => by
      rw [e] at hz1
      rcases List.mem_cons.mp hz1 with h | h
      ·exact hs h.symm
      ·exact hf h
     simp [pFC, this]
    rw [this]
    simp [hf, hs]
 ·have : sumIf (pFC f c) V = 0 := Qc6 fun z hz => by
   have hz1 := hC z hz
   have : z.2.2.1 ≠ c := fun e => hc (e ▸ hz1)
   simp [pFC, this]
  rw [this]
  simp [hc]
end N22
namespace N25
set_option linter.unusedSectionVars false
def sg {α : Type} (g : α → Int) : List α → Int
 | [] => 0
 | z :: r => g z + sg g r
theorem Qbt {α : Type} (g : α → Int) : ∀ A B : List α, sg g (A ++ B) = sg g A + sg g B
 | [], B => (Int.zero_add _).symm
 | z :: r, B => by
   show g z + sg g (r ++ B) = g z + sg g r + sg g B
   rw [Qbt g r B]
   omega
theorem Qa4 {α β : Type} (g : β → Int) (f : α → β) : ∀ A : List α, sg g (A.map f) = sg (fun z => g (f z)) A
 | [] => rfl
 | z :: r => by
   show g (f z) + sg g (r.map f) = g (f z) + sg (fun z => g (f z)) r
   rw [Qa4 g f r]
theorem Qb2 {α : Type} (g : α → Int) (p : α → Bool) : ∀ A : List α, sg g (A.filter p) = sg (fun z => if p z = true then g z else 0) A
 | [] => rfl
 | z :: r => by
   show _ = (if p z = true then g z else 0) + sg (fun z => if p z = true then g z else 0) r
   by_cases h : p z = true
   ·rw [List.filter_cons_of_pos h, if_pos h, ← Qb2 g p r]
    rfl
   ·rw [List.filter_cons_of_neg h, if_neg h, ← Qb2 g p r, Int.zero_add]
theorem Qa0 {α : Type} {g h : α → Int} : ∀ {A : List α}, (∀ z ∈ A, g z = h z) → sg g A = sg h A
 | [], _ => rfl
 | z :: r, e => by
   show g z + sg g r = h z + sg h r
   rw [e z List.mem_cons_self, Qa0 fun y hy => e y (List.mem_cons_of_mem _ hy)]
theorem Qbf {α : Type} {g : α → Int} : ∀ {A : List α}, (∀ z ∈ A, g z = 0) → sg g A = 0
 | [], _ => rfl
 | z :: r, e => by
   show g z + sg g r = 0
   rw [e z List.mem_cons_self, Qbf fun y hy => e y (List.mem_cons_of_mem _ hy)]
   rfl
theorem Qez {α β : Type} (g : β → Int) (f : α → List β) : ∀ A : List α, sg g (A.flatMap f) = sg (fun z => sg g (f z)) A
 | [] => rfl
 | z :: r => by
   rw [List.flatMap_cons, Qbt, Qez g f r]
   rfl
theorem Qhh {α : Type} (B : Nat) (g : α → Int) : ∀ A : List α, (∀ z ∈ A, (g z).natAbs ≤ B) → (sg g A).natAbs ≤ A.length * B
 | [], _ => Nat.zero_le _
 | z :: r, h => by
   have h1 := h z List.mem_cons_self
   have h2 := Qhh B g r fun y hy => h y (List.mem_cons_of_mem _ hy)
   show (g z + sg g r).natAbs ≤ (r.length + 1) * B
   rw [Nat.add_mul, Nat.one_mul]
   generalize r.length * B = m at *
   omega
variable {κ : Type} [DecidableEq κ]
theorem Qje (g : κ → Int) : ∀ A : List κ, N22.sm g A = sg g A
 | [] => rfl
 | z :: r => by
   show g z + N22.sm g r = g z + sg g r
   rw [Qje g r]
theorem Qex (p : N22.Rv κ → Bool) : ∀ A : List (N22.Rv κ), N22.sumIf p A = sg (fun z => if p z = true then z.2.2.2 else 0) A
 | [] => rfl
 | z :: r => by
   show (if p z = true then z.2.2.2 else 0) + N22.sumIf p r = _
   rw [Qex p r]
   rfl
theorem Qfk (c : κ) : ∀ P : List (κ × Int), N21.tot c P = sg (fun p => if p.1 = c then p.2 else 0) P
 | [] => rfl
 | z :: r => by
   show (if z.1 = c then z.2 else 0) + N21.tot c r = _
   rw [Qfk c r]
   rfl
theorem Qgd (g : N22.Rv κ → Int) (b : κ → κ) (s : κ) (t : κ → κ → Int) (T C : List κ) (h : ∀ f c, g (f, b s, c, -t f c) + g (s, b f, c, t f c) = 0) : sg g (N22.dues b s t T C) = 0 := by
 unfold N22.dues
 rw [Qez]
 refine Qbf fun f _ => ?_
 unfold N22.rowDue
 rw [Qez]
 refine Qbf fun c _ => ?_
 unfold N22.oneDue
 split
 ·show g _ + (g _ + 0) = 0
  rw [Int.add_zero]
  exact h f c
 ·rfl
abbrev Lv (κ : Type) := κ × (κ × κ) × Int × Int
def lnv (W : κ → Int → Int) (v : N22.Rv κ) : Lv κ := (v.1, (v.2.1, v.2.2.1), v.2.2.2, W v.2.2.1 v.2.2.2)
def fw (W : κ → Int → Int) (V : List (N22.Rv κ)) : List (κ × Int) := V.map fun v => (v.1, W v.2.2.1 v.2.2.2)
def rone (ro t : κ) (p : κ × Int) : List (Lv κ) := if p.2 ≠ 0 then [(p.1, (ro, t), 0, -p.2)] else []
def rnd (ro t : κ) (P : List (κ × Int)) : List (Lv κ) := (N21.rs P).flatMap (rone ro t)
def lines (W : κ → Int → Int) (ro t : κ) (V : List (N22.Rv κ)) : List (Lv κ) := V.map (lnv W) ++ rnd ro t (fw W V)
theorem Qm5 (g : Lv κ → Int) (ro t : κ) (P : List (κ × Int)) (h0 : ∀ f, g (f, (ro, t), 0, 0) = 0) : sg g (rnd ro t P) = sg (fun f => g (f, (ro, t), 0, -N21.tot f P)) (N21.firsts (P.map (·.1))) := by
 unfold rnd
 rw [Qez]
 unfold N21.rs
 rw [Qa4]
 refine Qa0 fun f _ => ?_
 unfold rone
 split
 ·show g _ + 0 = _
  rw [Int.add_zero]
 ·rename_i z
  have z0 : N21.tot f P = 0 := by simpa using z
  rw [z0]
  exact (h0 f).symm
theorem Qcx {ro t : κ} {P : List (κ × Int)} {z : Lv κ} (h : z ∈ rnd ro t P) : z.2.1 = (ro, t) ∧ z.2.2.1 = 0 := by
 unfold rnd at h
 obtain ⟨p, _, hp⟩ := List.mem_flatMap.mp h
 unfold rone at hp
 split at hp
 ·rw [List.mem_singleton.mp hp]
  exact ⟨rfl, rfl⟩
 ·cases hp
theorem total {F : List κ} (nF : F.Nodup) : ∀ P : List (κ × Int), (∀ p ∈ P, p.1 ∈ F) → sg (fun c => N21.tot c P) F = sg (·.2) P
 | [], _ => Qbf fun _ _ => rfl
 | p :: P, h => by
   have ih := total nF P fun q hq => h q (List.mem_cons_of_mem _ hq)
   have e : sg (fun c => N21.tot c (p :: P)) F = N22.sm (fun d => if d = p.1 then p.2 else 0) F + sg (fun c => N21.tot c P) F := by
    rw [← Qje, ← Qje, ← N22.Qfp]
    refine N22.Qcb fun c _ => ?_
    show (if p.1 = c then p.2 else 0) + N21.tot c P = _
    congr 1
    by_cases e : c = p.1
    ·rw [if_pos e, if_pos e.symm]
    ·rw [if_neg e, if_neg (Ne.symm e)]
   rw [e, ih, N22.Qdf (fun _ => p.2) p.1 nF, if_pos (h p List.mem_cons_self)]
   rfl
theorem Qm6 {α : Type} (g : α → Int) : ∀ A : List α, sg (fun z => -g z) A = -sg g A
 | [] => rfl
 | z :: r => by
   show -g z + sg (fun z => -g z) r = -(g z + sg g r)
   rw [Qm6 g r]
   omega
theorem Qob (ro t : κ) (P : List (κ × Int)) : sg (·.2.2.2) (rnd ro t P) = -sg (·.2) P := by
 rw [Qm5 (fun z => z.2.2.2) ro t P (fun _ => rfl)]
 show sg (fun f => -N21.tot f P) _ = _
 rw [Qm6, total (N21.Qa9 _) P fun p hp => N21.Qa2.mpr (List.mem_map.mpr ⟨p, hp, rfl⟩)]
theorem Qe0 (ro t : κ) (P : List (κ × Int)) (f : κ) : sg (fun z => if z.1 = f then z.2.2.2 else 0) (rnd ro t P) = -N21.tot f P := by
 rw [Qm5 (fun z => if z.1 = f then z.2.2.2 else 0) ro t P (fun _ => by split <;> rfl)]
 show sg (fun d => if d = f then -N21.tot d P else 0) _ = _
 rw [← Qje, N22.Qdf (fun d => -N21.tot d P) f (N21.Qa9 _)]
 split
 ·rfl
 ·rename_i h
  rw [N21.Qds fun m => h (N21.Qa2.mpr m)]
  rfl
theorem Qh4 (W : κ → Int → Int) (ro t : κ) (V : List (N22.Rv κ)) (f c : κ) (h : N22.sumIf (N22.pFC f c) V = 0) : sg (fun z => if z.2.1.2 = c then z.2.2.1 else 0) ((lines W ro t V).filter fun z => decide (z.1 = f)) = 0 := by
 rw [Qb2]
 unfold lines
 rw [Qbt, Qa4]
 have e1 : sg (fun z => if decide (z.1 = f) = true then (if z.2.1.2 = c then z.2.2.1 else 0) else 0) (rnd ro t (fw W V)) = 0 := Qbf fun z hz => by
  rw [(Qcx hz).2]
  simp
 rw [e1, Int.add_zero]
 refine Eq.trans ?_ h
 rw [Qex]
 refine Qa0 fun v _ => ?_
 show (if decide (v.1 = f) = true then (if v.2.2.1 = c then v.2.2.2 else 0) else 0) = _
 unfold N22.pFC
 by_cases h1 : v.1 = f <;> by_cases h2 : v.2.2.1 = c <;> simp [h1, h2]
theorem Qh3 (W : κ → Int → Int) (ro t : κ) (V : List (N22.Rv κ)) (f : κ) : sg (·.2.2.2) ((lines W ro t V).filter fun z => decide (z.1 = f)) = 0 := by
 rw [Qb2]
 unfold lines
 rw [Qbt, Qa4]
 have e1 : sg (fun z : Lv κ => if decide (z.1 = f) = true then z.2.2.2 else 0) (rnd ro t (fw W V)) = -N21.tot f (fw W V) := by
  rw [← Qe0 ro t (fw W V) f]
  exact Qa0 fun z _ => by by_cases h : z.1 = f <;> simp [h]
 rw [e1, Qfk]
 unfold fw
 rw [Qa4]
 have e2 : sg (fun v => if decide ((lnv W v).1 = f) = true then (lnv W v).2.2.2 else 0) V = sg (fun v => if v.1 = f then W v.2.2.1 v.2.2.2 else 0) V := Qa0 fun v _ => by
  show (if decide (v.1 = f) = true then W v.2.2.1 v.2.2.2 else 0) = _
  by_cases h : v.1 = f <;> simp [h]
 rw [e2]
 show sg (fun v => if v.1 = f then W v.2.2.1 v.2.2.2 else 0) V + -sg (fun v => if v.1 = f then W v.2.2.1 v.2.2.2 else 0) V = 0
 omega
theorem Qo4 (W : κ → Int → Int) (odd : ∀ c a, W c (-a) = -W c a) (b : κ → κ) (s : κ) (t : κ → κ → Int) (T C : List κ) : sg (·.2.2.2) ((N22.dues b s t T C).map (lnv W)) = 0 := by
 rw [Qa4]
 refine Qgd _ b s t T C fun f d => ?_
 show W d (-t f d) + W d (t f d) = 0
 rw [odd]
 omega
def only (a : κ) (V : List (N22.Rv κ)) : List (N22.Rv κ) := V.map fun v => (a, v.2)
theorem Qlp (W : κ → Int → Int) (ro t a : κ) (V D : List (N22.Rv κ)) (k : κ × κ) : sg (fun z => if z.2.1 = k then z.2.2.1 else 0) (V.map (lnv W) ++ rnd ro t (fw W (V ++ D))) = sg (fun z => if z.2.1 = k then z.2.2.1 else 0) (lines W ro t (only a V)) := by
 unfold lines only
 rw [Qbt, Qbt, Qa4, Qa4, Qa4]
 have e : ∀ P, sg (fun z => if z.2.1 = k then z.2.2.1 else 0) (rnd ro t P) = 0 := fun P => Qbf fun z hz => by
  rw [(Qcx hz).2]
  simp
 rw [e, e]
 rfl
theorem Qlo (W : κ → Int → Int) (ro t a : κ) (V D : List (N22.Rv κ)) (hD : sg (·.2.2.2) (D.map (lnv W)) = 0) (k : κ × κ) : sg (fun z => if z.2.1 = k then z.2.2.2 else 0) (V.map (lnv W) ++ rnd ro t (fw W (V ++ D))) = sg (fun z => if z.2.1 = k then z.2.2.2 else 0) (lines W ro t (only a V)) := by
 unfold lines only
 rw [Qbt, Qbt, Qa4, Qa4, Qa4]
 have e : ∀ P, sg (fun z => if z.2.1 = k then z.2.2.2 else 0) (rnd ro t P) = if (ro, t) = k then -sg (·.2) P else 0 := fun P => by
  by_cases h : (ro, t) = k
  ·rw [if_pos h, ← Qob ro t P]
   refine Qa0 fun z hz => ?_
   rw [(Qcx hz).1, if_pos h]
  ·rw [if_neg h]
   refine Qbf fun z hz => ?_
   rw [(Qcx hz).1, if_neg h]
 rw [e, e]
 have f : sg (·.2) (fw W (V ++ D)) = sg (·.2) (fw W (V.map fun v => (a, v.2))) := by
  unfold fw
  rw [List.map_append, Qbt, Qa4, Qa4, Qa4, Qa4]
  rw [Qa4] at hD
  have hD' : sg (fun z : N22.Rv κ => W z.2.2.1 z.2.2.2) D = 0 := hD
  show _ + sg (fun z : N22.Rv κ => W z.2.2.1 z.2.2.2) D = _
  rw [hD', Int.add_zero]
 rw [f]
 rfl
end N25
namespace N24
open N25
variable {κ : Type} [DecidableEq κ]
theorem Qdu {α : Type} (g h : α → Int) : ∀ A : List α, sg (fun z => g z + h z) A = sg g A + sg h A
 | [] => rfl
 | z :: r => by
   show g z + h z + sg (fun z => g z + h z) r = g z + sg g r + (h z + sg h r)
   rw [Qdu g h r]
   omega
theorem Qle {α : Type} (k : α → κ) (g : α → Int) {C : List κ} (nC : C.Nodup) : ∀ V : List α, (∀ v ∈ V, k v ∈ C) → sg (fun c => sg (fun v => if k v = c then g v else 0) V) C = sg g V
 | [], _ => Qbf fun _ _ => rfl
 | v :: V, h => by
   have ih := Qle k g nC V fun y hy => h y (List.mem_cons_of_mem _ hy)
   have e : sg (fun c => sg (fun v => if k v = c then g v else 0) (v :: V)) C = sg (fun c => if c = k v then g v else 0) C + sg (fun c => sg (fun v => if k v = c then g v else 0) V) C := by
    rw [← Qdu]
    refine Qa0 fun c _ => ?_
    show (if k v = c then g v else 0) + _ = _
    congr 1
    by_cases e : c = k v
    ·rw [if_pos e, if_pos e.symm]
    ·rw [if_neg e, if_neg (Ne.symm e)]
   rw [e, ih, ← Qje, N22.Qdf (fun _ => g v) (k v) nC, if_pos (h v List.mem_cons_self)]
   rfl
end N24
namespace N24
end N24
namespace N28
open N25
variable {κ : Type} [DecidableEq κ]
theorem Qn6 {α : Type} (g : α → Int) {A B : List α} (p : A.Perm B) : sg g A = sg g B := by
 induction p with
 | nil => rfl
 | cons x _ ih =>
   show g x + sg g _ = g x + sg g _
   rw [ih]
 | swap x y l =>
   show g y + (g x + sg g l) = g x + (g y + sg g l)
   omega
 | trans _ _ h1 h2 => rw [h1, h2]
def gOw (W : κ → Int → Int) (b : κ → κ) (f o c : κ) (v : N22.Rv κ) : Int := if N22.pOw b f o c v = true then W v.2.2.1 v.2.2.2 else 0
theorem Qdu {α : Type} (g h : α → Int) : ∀ A : List α, sg (fun z => g z + h z) A = sg g A + sg h A
 | [] => rfl
 | z :: r => by
   show g z + h z + sg (fun z => g z + h z) r = g z + sg g r + (h z + sg h r)
   rw [Qdu g h r]
   omega
theorem swap (W : κ → Int → Int) (odd : ∀ c a, W c (-a) = -W c a) (b : κ → κ) (hb : ∀ x y, b x = b y → x = y) (s : κ) (t : κ → κ → Int) (T C : List κ) (f o c : κ) :
 sg (gOw W b f o c) (N22.dues b s t T C) + sg (gOw W b o f c) (N22.dues b s t T C) = 0 := by
 rw [← Qdu]
 refine Qgd _ b s t T C fun f' d => ?_
 have hbs : ∀ x y, (b x = b y) ↔ x = y := fun x y => ⟨hb x y, fun e => by rw [e]⟩
 show ((if N22.pOw b f o c (f', b s, d, -t f' d) = true then W d (-t f' d) else 0) + (if N22.pOw b o f c (f', b s, d, -t f' d) = true then W d (-t f' d) else 0)) + ((if N22.pOw b f o c (s, b f', d, t f' d) = true then W d (t f' d) else 0) + (if N22.pOw b o f c (s, b f', d, t f' d) = true then W d (t f' d) else 0)) = 0
 rw [odd]
 have e1 : N22.pOw b f o c (f', b s, d, -t f' d) = N22.pOw b o f c (s, b f', d, t f' d) := by
  unfold N22.pOw
  simp only [hbs]
  by_cases h1 : f' = f <;> by_cases h2 : s = o <;> simp [h1, h2]
 have e2 : N22.pOw b o f c (f', b s, d, -t f' d) = N22.pOw b f o c (s, b f', d, t f' d) := by
  unfold N22.pOw
  simp only [hbs]
  by_cases h1 : f' = o <;> by_cases h2 : s = f <;> simp [h1, h2]
 rw [e1, e2]
 split <;> split <;> omega
theorem Qpa {α : Type} (k : α → κ) (g : α → Int) {F : List κ} (nF : F.Nodup) (V : List α) (h : ∀ v ∈ V, k v ∈ F) : sg (fun f => sg g (V.filter fun v => decide (k v = f))) F = sg g V := by
 have e : ∀ f, sg g (V.filter fun v => decide (k v = f)) = sg (fun v => if k v = f then g v else 0) V := fun f => by
  rw [Qb2]
  exact Qa0 fun v _ => by by_cases h : k v = f <;> simp [h]
 rw [Qa0 fun f _ => e f]
 exact N24.Qle k g nF V h
end N28
namespace K28
open PySem L2 L3
def top (i : Nat) : Stmt := PySem.Challenge.pw_groupbooks_k28_whole_books_sum.main.body.getD i (.Pass ⟨0, 0, 0, 0⟩)
abbrev sbp0 : Stmt := top 9
abbrev sbj0 : Stmt := top 10
abbrev sbh0 : Stmt := top 11
abbrev sbe0 : Stmt := top 12
abbrev sbq0 : Stmt := top 13
abbrev sbl0 : Stmt := top 14
abbrev sbf0 : Stmt := top 15
abbrev sbm0 : Stmt := top 17
abbrev sbo0 : Stmt := top 18
abbrev sbg0 : Stmt := top 19
abbrev sbc0 : Stmt := top 20
abbrev sbd0 : Stmt := top 23
abbrev sbi0 : Stmt := top 24
abbrev sbn0 : Stmt := top 26
abbrev sal0 : Stmt := top 30
abbrev sar0 : Stmt := top 32
abbrev sas0 : Stmt := top 33
abbrev san0 : Stmt := top 34
abbrev sak0 : Stmt := top 35
abbrev sat0 : Stmt := top 36
abbrev saz0 : Stmt := top 37
abbrev sbb0 : Stmt := top 39
abbrev sau0 : Stmt := top 40
abbrev sax0 : Stmt := top 41
abbrev sam0 : Stmt := top 42
abbrev saw0 : Stmt := top 43
abbrev say0 : Stmt := top 44
abbrev sao0 : Stmt := top 45
abbrev saq0 : Stmt := top 46
abbrev sba0 : Stmt := top 47
abbrev sap0 : Stmt := top 48
abbrev sav0 : Stmt := top 49
abbrev sbk0 : Stmt := top 50
section
variable {P : Program} {w : World} {K : Q5} {mg : Str → Option Value} {base : Heap} {cm : Bool}
def spLaw (K : Q5) : Sp := fun vs H Q _ => ∃ (a : Addr) (ns : List Int), vs = [.ref a] ∧ SqL K H a (ns.map V.int) ∧ ns.length ≤ 63 ∧ (∀ w ∈ ns, PySem.Builtin.Int.intBits w ≤ 2 ^ 20) ∧ ∀ H', Q (.bl true) H'
def spCell (K : Q5) : Sp := fun vs H Q _ => ∃ (a : Addr) (ns : List Int) (k : Nat), vs = [.ref a, .int k] ∧ SqL K H a (ns.map V.int) ∧ Q (.int (ns.getD k 0)) H
def spG : Sp := fun vs H Q _ => ∃ a b : Int, vs = [.int a, .int b] ∧ Q (.int (N11.gF a b)) H
def spFrac (C : Addr) : Sp := fun vs H Q E => ∃ t b : Int, vs = [.int t, .int b] ∧ (b = 0 → E (.ref C) none H) ∧ (b ≠ 0 → b.natAbs ≤ 2 ^ 250 * 2 ^ 250 * 2 ^ 250 * 2 ^ 250 ∧ ∀ p, H p = none → Q (.ref p) (upd H p (.tup [.int (Int.fdiv t (N11.dF t b)), .int (Int.fdiv b (N11.dF t b))])))
theorem Qae {H : Hp} {p : Addr} {o : HO} (h : H p = none) : Same H (upd H p o) := fun b o' hb => by
 rw [Qah (Qai hb h)]
 exact hb
theorem Qat {H0 H : Hp} {p : Addr} {o : HO} (e : Same H0 H) (h : H0 p = none) : Same H0 (upd H p o) := fun b o' hb => by
 rw [Qah (Qai hb h)]
 exact e _ _ hb
theorem Qmq (ws : List Int) (lo hi : Option Int) : ∃ us : List Int, cutV (ws.map V.int) lo hi = us.map V.int ∧ us.length ≤ ws.length ∧ ∀ w ∈ us, w ∈ ws := by
 refine ⟨(ws.drop (HT.sIx ws.length 0 lo)).take (HT.sIx ws.length ws.length hi - HT.sIx ws.length 0 lo), ?_, ?_, fun w hw => List.mem_of_mem_drop (List.mem_of_mem_take hw)⟩
 ·unfold cutV
  rw [List.length_map, ← List.map_drop, ← List.map_take]
 ·rw [List.length_take, List.length_drop]
  omega
def spMix : Sp := fun vs H Q _ => ∃ c b : Int, vs = [.int c, .int b] ∧ b.natAbs ≤ 2 ^ 62 ∧ ∀ m : Int, 0 ≤ m → m < 2 ^ 31 → Q (.int m) H
def HeadL (x : Str) : Prop := ∃ c, x.cps.toList.head? = some c ∧ 97 ≤ c
def Let (x : Str) : Prop := HeadL x ∧ x.length ≤ 8
theorem Qfg (x y : Str) : (x ++ y).cps.toList = x.cps.toList ++ y.cps.toList := by
 show (x.cps ++ y.cps).toList = _
 simp
def due (x : Str) : Str := ".due." ++ x
theorem Qo6 (x y : Str) (h : due x = due y) : x = y := by
 have e := congrArg (fun z : Str => z.cps.toList) h
 simp only [due, Qfg] at e
 have e2 := List.append_cancel_left e
 obtain ⟨⟨a⟩⟩ := x
 obtain ⟨⟨b⟩⟩ := y
 have e3 : a = b := e2
 rw [e3]
def L26 : Str := "abcdefghijklmnopqrstuvwxyz"
theorem Qnm {i : Int} (h0 : 0 ≤ i) (h1 : i < 26) : atI L26.cps.toList i = some (97 + i.toNat) := by
 obtain ⟨n, rfl⟩ := Int.eq_ofNat_of_zero_le h0
 have hn : n < 26 := by omega
 have all : ∀ n, n < 26 → L26.cps.toList[n]? = some (97 + n) := by decide+kernel
 exact Qct (all n hn)
theorem Qkb : L26.length ≤ sizeLine := by decide+kernel
theorem sq8 : ∀ i : Nat, i < 8 → 0 ≤ (0 + (i : Int)) * (0 + (i : Int)) ∧ (0 + (i : Int)) * (0 + (i : Int)) ≤ 49 := by decide
theorem Qce {ws : List Str} {i : Nat} {x : V} (h : (ws.map V.str)[i]? = some x) : ∃ w, ws[i]? = some w ∧ x = .str w := by
 rw [List.getElem?_map] at h
 cases e : ws[i]? with
 | none => rw [e] at h; cases h
 | some z => rw [e] at h; exact ⟨z, rfl, (Option.some.inj h).symm⟩
theorem Qfo {ws : List Str} {i : Int} (h0 : 0 ≤ i) (h1 : i < ws.length) : ∃ w, w ∈ ws ∧ atI (ws.map V.str) i = some (.str w) := by
 obtain ⟨n, rfl⟩ := Int.eq_ofNat_of_zero_le h0
 have hn : n < ws.length := by omega
 exact ⟨ws[n], List.getElem_mem hn, Qct (by rw [List.getElem?_map, List.getElem?_eq_getElem hn]; rfl)⟩
theorem Qjc {ws : List Str} {n : Nat} (hn : n < ws.length) : atI (ws.map V.str) ((n : Nat) : Int) = some (.str (ws.getD n "")) := Qct (by rw [List.getElem?_map, List.getElem?_eq_getElem hn]; simp [List.getD, hn])
theorem take3 {ws : List Str} {n : Nat} (h3 : n < 3) (hn : n < ws.length) : ws.getD n "" ∈ ws.take 3 := by
 rw [List.getD, List.getElem?_eq_getElem hn]
 exact List.mem_take_iff_getElem.mpr ⟨n, by omega, rfl⟩
theorem Qkk {ws : List Int} {i : Int} (h0 : 0 ≤ i) (h1 : i < ws.length) : ∃ w ∈ ws, atI (ws.map V.int) i = some (.int w) := by
 obtain ⟨n, rfl⟩ := Int.eq_ofNat_of_zero_le h0
 have hn : n < ws.length := by omega
 exact ⟨ws[n], List.getElem_mem hn, Qct (by rw [List.getElem?_map, List.getElem?_eq_getElem hn]; rfl)⟩
theorem Qib (xs : List V) (t : Nat) : cutV xs (some (t : Int)) none = xs.drop (min t xs.length) := by
 unfold cutV
 rw [HT.sIx_nat, HT.sIx_none]
 exact List.take_of_length_le (by rw [List.length_drop]; omega)
theorem Qia (xs : List V) (t : Nat) : cutV xs none (some (t : Int)) = xs.take (min t xs.length) := by
 unfold cutV
 rw [HT.sIx_nat, HT.sIx_none]
 simp
def sg (c : Nat) : Str := ⟨#[c]⟩
theorem Qh2 : ∀ ls : List Nat, (Str.join "" (ls.map sg)).cps.toList = ls
 | [] => rfl
 | [x] => rfl
 | x :: y :: r => by
   show (sg x ++ "" ++ Str.join "" ((y :: r).map sg)).cps.toList = _
   rw [Qfg, Qfg, Qh2 (y :: r)]
   rfl
theorem Qev (ls : List Nat) : (Txt.join "" (ls.map sg)).cps.toList = ls := by
 unfold Txt.join
 rw [StrLaws.glued_eq_join]
 exact Qh2 ls
theorem Qm7 {ls : List Nat} : ∀ z ∈ ls.map sg, z.length = 1 := fun z hz => by
 obtain ⟨c, _, rfl⟩ := List.mem_map.mp hz
 rfl
def atN (c : Int) : Nat := (c % 999983 / 24 % (1 + c % 999983 / 3 % 8)).toNat
def Dn (c : Int) (bs : List Int) (i : Nat) (x : Str) : Prop :=
 if c % 999983 % 3 = 1 then x.cps.toList.length = i + 1 else x.cps.toList[atN c]? = some (97 + ((bs.getD (atN c) 0 + (i : Int)) % 26).toNat)
theorem Qmo {c : Int} {bs : List Int} {xs : List Str} (hl : xs.length ≤ 8) (h : ∀ j x, xs[j]? = some x → Dn c bs j x) : xs.Nodup := by
 refine List.pairwise_iff_getElem.mpr fun i j hi hj hij e => ?_
 have a := h i xs[i] (List.getElem?_eq_getElem hi)
 have b := h j xs[j] (List.getElem?_eq_getElem hj)
 rw [← e] at b
 unfold Dn at a b
 split at a
 ·rename_i z
  rw [if_pos z] at b
  omega
 ·rename_i z
  rw [if_neg z] at b
  rw [a] at b
  have := Option.some.inj b
  omega
theorem cut_nd (ws : List Str) (t : Nat) (hn : ws.Nodup) : ∃ us : List Str, cutV (ws.map V.str) (some (t : Int)) none ++ cutV (ws.map V.str) none (some (t : Int)) = us.map V.str ∧ us.length = ws.length ∧ us.Nodup ∧ ∀ w, w ∈ us ↔ w ∈ ws := by
 refine ⟨ws.drop (min t ws.length) ++ ws.take (min t ws.length), ?_, ?_, ?_, fun w => ?_⟩
 ·rw [Qib, Qia, List.length_map, List.map_append, List.map_drop, List.map_take]
 ·rw [List.length_append, List.length_drop, List.length_take]
  omega
 ·have p : (ws.drop (min t ws.length) ++ ws.take (min t ws.length)).Perm ws := by
   have := List.perm_append_comm (l₁ := ws.drop (min t ws.length)) (l₂ := ws.take (min t ws.length))
   rw [List.take_append_drop] at this
   exact this
  exact p.nodup_iff.mpr hn
 ·have p : (ws.drop (min t ws.length) ++ ws.take (min t ws.length)).Perm ws := by
   have := List.perm_append_comm (l₁ := ws.drop (min t ws.length)) (l₂ := ws.take (min t ws.length))
   rw [List.take_append_drop] at this
   exact this
  exact p.mem_iff
def Dn5 (c : Int) (bs : List Int) (i : Nat) (x : Str) : Prop := Dn c bs i x ∧ Let x
theorem Qk0 {c : Int} {bs : List Int} {xs : List Str} {y : Str} (h : ∀ j x, xs[j]? = some x → Dn5 c bs j x) (hy : Dn5 c bs xs.length y) : ∀ j x, (xs ++ [y])[j]? = some x → Dn5 c bs j x := fun j x e => by
 rcases Nat.lt_trichotomy j xs.length with l | l | l
 ·rw [List.getElem?_append_left l] at e
  exact h j x e
 ·subst l
  rw [List.getElem?_append_right (Nat.le_refl _), Nat.sub_self] at e
  cases e
  exact hy
 ·rw [List.getElem?_eq_none (by rw [List.length_append]; show xs.length + 1 ≤ j; omega)] at e
  cases e
theorem Qnl {ls : List Nat} (h1 : 1 ≤ ls.length) (h8 : ls.length ≤ 8) (h : ∀ u ∈ ls, 97 ≤ u) : Let (Txt.join "" (ls.map sg)) := by
 refine ⟨?_, ?_⟩
 ·cases ls with
  | nil => simp at h1
  | cons a r => exact ⟨a, by rw [Qev]; rfl, h a List.mem_cons_self⟩
 ·show (Txt.join "" (ls.map sg)).cps.size ≤ 8
  rw [← Array.length_toList, Qev]
  exact h8
theorem Qpf {ws : List Int} {n : Nat} (hn : n < ws.length) : atI (ws.map V.int) ((n : Nat) : Int) = some (.int (ws.getD n 0)) := Qct (by rw [List.getElem?_map, List.getElem?_eq_getElem hn]; simp [List.getD, hn])
def spNames : Sp := fun vs H Q _ => ∃ (c : Int) (m : Nat), vs = [.int c, .int m] ∧ 1 ≤ m ∧ m ≤ 8 ∧ ∀ l (xs : List Str) H', Same H H' → H' l = some (.lst (xs.map V.str)) → xs.length = m → (∀ x ∈ xs, Let x) → xs.Nodup → Q (.ref l) H'
def spCoins : Sp := fun vs H Q _ => ∃ c : Int, vs = [.int c] ∧ ∀ l (xs : List Str) H', Same H H' → H' l = some (.lst (xs.map V.str)) → xs.length = 4 → xs.Nodup → Q (.ref l) H'
theorem Qpd {a b : Int} {n : Nat} (h : a.natAbs ≤ b.natAbs) (hb : PySem.Builtin.Int.intBits b ≤ n) : PySem.Builtin.Int.intBits a ≤ n := PyProof.Rows.bits_of_natAbs_le h hb
theorem Qoo {c : Int} (h : PySem.Builtin.Int.intBits c ≤ 2 ^ 20) : PySem.IntMulOk (c / 3) ((1000003 : Int) ^ (7 : Int).toNat) :=
 PySem.IntMulOk.of_le (m := 2 ^ 20) (n := 200) (Qpd (by omega) h) (by decide+kernel) (by decide)
theorem m38 (x : Int) : (x % (2 * (10 : Int) ^ (38 : Int).toNat + 1) - (10 : Int) ^ (38 : Int).toNat).natAbs ≤ 2 ^ 127 := by
 show (x % (2 * (10 : Int) ^ 38 + 1) - (10 : Int) ^ 38).natAbs ≤ 2 ^ 127
 omega
def spAmt : Sp := fun vs H Q _ => ∃ c : Int, vs = [.int c] ∧ PySem.Builtin.Int.intBits c ≤ 2 ^ 20 ∧ ∀ a : Int, a.natAbs ≤ 2 ^ 127 → Q (.int a) H
abbrev Sd := Addr × Str × Str × Str × Int
def tupZ (z : Sd) : HO := .tup [.str z.2.1, .str z.2.2.1, .str z.2.2.2.1, .int z.2.2.2.2]
def rfs (L : List Sd) : List V := L.map fun z => .ref z.1
theorem Qbc (L : List Sd) : (rfs L).length = L.length := List.length_map ..
theorem Qdv (A B : List Sd) : rfs (A ++ B) = rfs A ++ rfs B := List.map_append ..
theorem Qem {L : List Sd} {i : Nat} {x : V} (h : (rfs L)[i]? = some x) : ∃ z, L[i]? = some z ∧ x = .ref z.1 := by
 unfold rfs at h
 rw [List.getElem?_map] at h
 cases e : L[i]? with
 | none => rw [e] at h; cases h
 | some z => rw [e] at h; exact ⟨z, rfl, (Option.some.inj h).symm⟩
def Ro (fs as cs : List Str) (B : Nat) (z : Sd) : Prop := z.2.1 ∈ fs ∧ z.2.2.1 ∈ as ∧ z.2.2.2.1 ∈ cs.take 3 ∧ z.2.2.2.2.natAbs ≤ B
def Rows (fs as cs : List Str) (B : Nat) (H : Hp) (L : List Sd) : Prop := ∀ z ∈ L, H z.1 = some (tupZ z) ∧ Ro fs as cs B z
theorem Rows.same {fs as cs : List Str} {B : Nat} {H H' : Hp} {L : List Sd} (r : Rows fs as cs B H L) (e : Same H H') : Rows fs as cs B H' L := fun z hz => ⟨e _ _ (r z hz).1, (r z hz).2⟩
structure Ls (H : Hp) (fl al cl : Addr) (fs as cs : List Str) : Prop where
 f : H fl = some (.lst (fs.map V.str))
 a : H al = some (.lst (as.map V.str))
 c : H cl = some (.lst (cs.map V.str))
 lf : 1 ≤ fs.length
 la : as.length = 3
 lc : 3 ≤ cs.length
 pf : ∀ x ∈ fs, Let x
 pa : ∀ x ∈ as, Let x
theorem Ls.same {H H' : Hp} {fl al cl : Addr} {fs as cs : List Str} (L : Ls H fl al cl fs as cs) (e : Same H H') : Ls H' fl al cl fs as cs := ⟨e _ _ L.f, e _ _ L.a, e _ _ L.c, L.lf, L.la, L.lc, L.pf, L.pa⟩
theorem three3 (a b c : Int) {i : Nat} (h : i < 3) : ∃ v : Int, atI [V.int a, V.int b, V.int c] (0 + (i : Int)) = some (.int v) ∧ (v = a ∨ v = b ∨ v = c) := by
 have : i = 0 ∨ i = 1 ∨ i = 2 := by omega
 rcases this with rfl | rfl | rfl
 ·exact ⟨a, rfl, .inl rfl⟩
 ·exact ⟨b, rfl, .inr (.inl rfl)⟩
 ·exact ⟨c, rfl, .inr (.inr rfl)⟩
theorem Qbv {H : Hp} {p : Addr} {xs ys : List V} {z : Addr} {o : List V} (h : H z = some (.tup o)) (hp : H p = some (.lst xs)) : upd H p (.lst ys) z = some (.tup o) := by
 rw [Qah (Qbd h hp (by intro z; cases z))]
 exact h
def spSide : Sp := fun vs H Q _ => ∃ (p am : Int) (fl al cl : Addr) (fs as cs : List Str), vs = [.int p, .int am, .ref fl, .ref al, .ref cl] ∧ Ls H fl al cl fs as cs ∧ ∀ t (f ac co : Str), H t = none → f ∈ fs → ac ∈ as → co ∈ cs.take 3 → Q (.ref t) (upd H t (.tup [.str f, .str ac, .str co, .int am]))
def prs (L : List Sd) : List (Str × Int) := L.map fun z => (z.2.2.2.1, z.2.2.2.2)
theorem Qgo (c : Str) : ∀ A B : List (Str × Int), N21.tot c (A ++ B) = N21.tot c A + N21.tot c B
 | [], B => (Int.zero_add _).symm
 | z :: r, B => by
   show _ + N21.tot c (r ++ B) = _ + N21.tot c r + _
   rw [Qgo c r B]
   omega
theorem Qny (c : Str) (L : List Sd) (t : Nat) (z : Sd) : N21.tot c (prs (L.take t ++ z :: L.drop t)) = N21.tot c (prs L) + (if z.2.2.2.1 = c then z.2.2.2.2 else 0) := by
 have h : prs L = prs (L.take t) ++ prs (L.drop t) := by
  unfold prs
  rw [← List.map_append, List.take_append_drop]
 rw [h, Qgo]
 unfold prs
 rw [List.map_append, Qgo, List.map_cons]
 show _ + ((if z.2.2.2.1 = c then z.2.2.2.2 else 0) + N21.tot c ((L.drop t).map _)) = _
 omega
theorem Qe1 {L : List Sd} {i : Nat} {z : Sd} (h : L[i]? = some z) : prs (L.take (i + 1)) = prs (L.take i) ++ [(z.2.2.2.1, z.2.2.2.2)] := by
 unfold prs
 rw [List.take_succ, h, List.map_append]
 rfl
theorem Qe2 (L : List Sd) : (prs L).length = L.length := List.length_map ..
theorem Qfl (B : Nat) (c : Str) : ∀ P : List (Str × Int), (∀ p ∈ P, p.2.natAbs ≤ B) → (N21.tot c P).natAbs ≤ P.length * B
 | [], _ => Nat.zero_le _
 | z :: r, h => by
   have h1 := h z List.mem_cons_self
   have h2 := Qfl B c r fun y hy => h y (List.mem_cons_of_mem _ hy)
   show ((if z.1 = c then z.2 else 0) + N21.tot c r).natAbs ≤ (r.length + 1) * B
   rw [Nat.add_mul, Nat.one_mul]
   generalize r.length * B = m at *
   split <;> omega
def bnd (i : Nat) : Nat := 2 ^ 127 * 64 ^ i
theorem bnd_s (i : Nat) : bnd (i + 1) = 64 * bnd i := by
 unfold bnd
 have h : 64 ^ (i + 1) = 64 ^ i * 64 := rfl
 rw [h, ← Nat.mul_assoc]
 exact Nat.mul_comm _ _
theorem Rows.le {fs as cs : List Str} {B C : Nat} {H : Hp} {L : List Sd} (r : Rows fs as cs B H L) (h : B ≤ C) : Rows fs as cs C H L := fun z hz => ⟨(r z hz).1, (r z hz).2.1, (r z hz).2.2.1, (r z hz).2.2.2.1, Nat.le_trans (r z hz).2.2.2.2 h⟩
theorem Qlq {fs as cs : List Str} {B : Nat} {H : Hp} {L : List Sd} (r : Rows fs as cs B H L) (c : Str) (h : L.length ≤ 64) : (N21.tot c (prs L)).natAbs ≤ 64 * B := by
 have h1 := Qfl B c (prs L) fun p hp => by
  obtain ⟨z, hz, rfl⟩ := List.mem_map.mp hp
  exact (r z hz).2.2.2.2
 rw [Qe2] at h1
 exact Nat.le_trans h1 (Nat.mul_le_mul_right B h)
def spClosed : Sp := fun vs H Q _ => ∃ (sl fl al cl : Addr) (c : Int) (L : List Sd) (fs as cs : List Str), vs = [.ref sl, .ref fl, .ref al, .ref cl, .int c] ∧ H sl = some (.lst (rfs L)) ∧ Rows fs as cs (2 ^ 127) H L ∧ L.length ≤ 36 ∧ Ls H fl al cl fs as cs ∧
 ∀ (p : Addr) (L' : List Sd) H', Same H H' → H p = none → H' p = some (.lst (rfs L')) → Rows fs as cs (2 ^ 145) H' L' → L'.length ≤ 39 → (∀ j, j < 3 → N21.tot (cs.getD j "") (prs L') = 0) → Q (.ref p) H'
def RT (H : Hp) (L : List Sd) : Prop := ∀ z ∈ L, H z.1 = some (tupZ z)
theorem RT.same {H H' : Hp} {L : List Sd} (r : RT H L) (e : Same H H') : RT H' L := fun z hz => e _ _ (r z hz)
theorem Rows.rt {fs as cs : List Str} {B : Nat} {H : Hp} {L : List Sd} (r : Rows fs as cs B H L) : RT H L := fun z hz => (r z hz).1
abbrev Rw := Addr × Str × Int
def rfr (R : List Rw) : List V := R.map fun z => .ref z.1
def tupR (z : Rw) : HO := .tup [.str z.2.1, .int z.2.2]
theorem Qji {L : List Rw} {i : Nat} {x : V} (h : (rfr L)[i]? = some x) : ∃ z, L[i]? = some z ∧ x = .ref z.1 := by
 unfold rfr at h
 rw [List.getElem?_map] at h
 cases e : L[i]? with
 | none => rw [e] at h; cases h
 | some z => rw [e] at h; exact ⟨z, rfl, (Option.some.inj h).symm⟩
theorem Qgn {α κ : Type} [DecidableEq α] [DecidableEq κ] (kf : α → κ) (inj : ∀ a b, kf a = kf b → a = b) (g : α → V) (c : α) : ∀ fs : List α, valV (fs.map fun c => (kf c, g c)) (kf c) = if c ∈ fs then some (g c) else none
 | [] => rfl
 | d :: fs => by
   rw [List.map_cons]
   by_cases h : d = c
   ·subst h
    rw [Qbm rfl, if_pos List.mem_cons_self]
   ·rw [Qbn (fun e => h (inj _ _ e)), Qgn kf inj g c fs]
    simp [List.mem_cons, Ne.symm h]
theorem Qjq {α κ : Type} [DecidableEq α] [DecidableEq κ] (kf : α → κ) (inj : ∀ a b, kf a = kf b → a = b) (g : α → V) (c : α) (v : V) (fs : List α) : putK (fs.map fun c => (kf c, g c)) (kf c) v = (N21.add fs c).map fun d => (kf d, if d = c then v else g d) := by
 unfold putK N21.add
 rw [Qci, Qgn kf inj]
 by_cases h : c ∈ fs
 ·rw [if_pos h, if_pos h]
  simp only [Option.isSome_some, if_true, List.map_map]
  refine List.map_congr_left fun d _ => ?_
  by_cases e : d = c
  ·subst e
   simp
  ·have e2 : ¬ kf d = kf c := fun z => e (inj _ _ z)
   simp [e, e2]
 ·rw [if_neg h, if_neg h]
  simp only [Option.isSome_none, Bool.false_eq_true, if_false, List.map_append, List.map_cons, List.map_nil, if_true]
  congr 1
  refine List.map_congr_left fun d hd => ?_
  rw [if_neg (fun e => h (by rw [← e]; exact hd))]
def kvG {α κ : Type} [DecidableEq α] (kf : α → κ) (P : List (α × Int)) : List (κ × V) := (N21.firsts (P.map (·.1))).map fun c => (kf c, V.int (N21.tot c P))
theorem Qdd {α κ : Type} [DecidableEq α] (kf : α → κ) (P : List (α × Int)) : (kvG kf P).length ≤ P.length := by
 unfold kvG
 rw [List.length_map]
 have := N21.Qcf (P.map (·.1))
 rw [List.length_map] at this
 exact this
theorem Qd2 {α κ : Type} [DecidableEq α] [DecidableEq κ] (kf : α → κ) (inj : ∀ a b, kf a = kf b → a = b) (P : List (α × Int)) (c : α) : (valV (kvG kf P) (kf c)).getD (.int 0) = .int (N21.tot c P) := by
 unfold kvG
 rw [Qgn kf inj (fun c => V.int (N21.tot c P))]
 by_cases h : c ∈ N21.firsts (P.map (·.1))
 ·rw [if_pos h]
  rfl
 ·rw [if_neg h, N21.Qds (fun m => h (N21.Qa2.mpr m))]
  rfl
theorem Qfd {α κ : Type} [DecidableEq α] [DecidableEq κ] (kf : α → κ) (inj : ∀ a b, kf a = kf b → a = b) (P : List (α × Int)) (c : α) (am : Int) : putK (kvG kf P) (kf c) (.int (N21.tot c P + am)) = kvG kf (P ++ [(c, am)]) := by
 unfold kvG
 rw [Qjq kf inj (fun c => V.int (N21.tot c P)), List.map_append]
 show _ = (N21.firsts (P.map (·.1) ++ [c])).map _
 rw [N21.Qd7]
 refine List.map_congr_left fun d _ => ?_
 rw [N21.Qdl]
 by_cases e : d = c
 ·subst e
  simp
 ·simp [e, Ne.symm e]
def kS : Str → Key := Sum.inr
theorem Qc3 (a b : Str) (h : kS a = kS b) : a = b := Sum.inr.inj h
def kT (p : Str × Str) : List Key := [Sum.inr p.1, Sum.inr p.2]
theorem Qkg (a b : Str × Str) (h : kT a = kT b) : a = b := by
 obtain ⟨a1, a2⟩ := a
 obtain ⟨b1, b2⟩ := b
 simp [kT] at h
 rw [h.1, h.2]
theorem kv_zip (as : List Addr) (P : List (Str × Int)) (hl : as.length = (kvG kS P).length) : rfr (as.zip (N21.rs P)) = as.map V.ref ∧ (as.zip (N21.rs P)).map (·.2) = N21.rs P := by
 have hl2 : as.length = (N21.rs P).length := by
  rw [hl]
  unfold kvG N21.rs
  rw [List.length_map, List.length_map]
 constructor
 ·unfold rfr
  have h : (as.zip (N21.rs P)).map Prod.fst = as := List.map_fst_zip (by omega)
  calc (as.zip (N21.rs P)).map (fun z => V.ref z.1) = ((as.zip (N21.rs P)).map Prod.fst).map V.ref := by rw [List.map_map]; rfl
   _ = as.map V.ref := by rw [h]
 ·exact List.map_snd_zip (by omega)
def spRests : Sp := fun vs H Q _ => ∃ (l : Addr) (L : List Sd), vs = [.ref l] ∧ H l = some (.lst (rfs L)) ∧ RT H L ∧ L.length ≤ 30000 ∧
 ∀ (p : Addr) (R : List Rw) H', Same H H' → H p = none → H' p = some (.lst (rfr R)) → R.map (·.2) = N21.rs (prs L) → (∀ z ∈ R, H' z.1 = some (tupR z)) → Q (.ref p) H'
def p2 (L : List Sd) : List ((Str × Str) × Int) := L.map fun z => ((z.2.1, z.2.2.2.1), z.2.2.2.2)
theorem Qoh {L : List Sd} {i : Nat} {z : Sd} (h : L[i]? = some z) : p2 (L.take (i + 1)) = p2 (L.take i) ++ [((z.2.1, z.2.2.2.1), z.2.2.2.2)] := by
 unfold p2
 rw [List.take_succ, h, List.map_append]
 rfl
theorem p2_len (L : List Sd) : (p2 L).length = L.length := List.length_map ..
def vls (L : List Sd) : List (N22.Rv Str) := L.map (·.2)
def tf (L : List Sd) (f c : Str) : Int := N22.sumIf (N22.pFC f c) (vls L)
theorem Qm1 (f c : Str) : ∀ L : List Sd, N21.tot (f, c) (p2 L) = tf L f c
 | [] => rfl
 | z :: r => by
   have ih := Qm1 f c r
   show (if (z.2.1, z.2.2.2.1) = (f, c) then z.2.2.2.2 else 0) + N21.tot (f, c) (p2 r) = (if N22.pFC f c z.2 = true then z.2.2.2.2 else 0) + N22.sumIf (N22.pFC f c) (vls r)
   rw [ih]
   unfold tf
   congr 1
   by_cases h1 : z.2.1 = f <;> by_cases h2 : z.2.2.2.1 = c <;> simp [N22.pFC, h1, h2]
theorem Qja (c : Str) : ∀ L : List Sd, N21.tot c (prs L) = N22.sumIf (fun z => decide (z.2.2.1 = c)) (vls L)
 | [] => rfl
 | z :: r => by
   have ih := Qja c r
   show (if z.2.2.2.1 = c then z.2.2.2.2 else 0) + N21.tot c (prs r) = (if decide (z.2.2.2.1 = c) = true then z.2.2.2.2 else 0) + N22.sumIf _ (vls r)
   rw [ih]
   congr 1
   by_cases h : z.2.2.2.1 = c <;> simp [h]
def spHalf : Sp := fun vs H Q _ => ∃ (l : Addr) (L : List Sd), vs = [.ref l] ∧ H l = some (.lst (rfs L)) ∧ RT H L ∧ L.length ≤ 60 ∧ ∀ (d : Addr) H', Same H H' → H' d = some (.dT (kvG kT (p2 L))) → Q (.ref d) H'
def frm (L : List Sd) : List Str := N21.firsts (L.map (·.2.1))
def cns (L : List Sd) : List Str := N21.firsts ((prs L).map (·.1))
theorem Qep : ∀ (cs fs : List Str), putAll (fs.map fun c => ((Sum.inr c : Key), V.bl true)) (cs.map fun c => ((Sum.inr c : Key), V.bl true)) = (cs.foldl N21.add fs).map fun c => ((Sum.inr c : Key), V.bl true)
 | [], fs => rfl
 | c :: cs, fs => by
   show putAll (putK (fs.map fun c => ((Sum.inr c : Key), V.bl true)) (Sum.inr c) (.bl true)) (cs.map fun c => ((Sum.inr c : Key), V.bl true)) = _
   have h := Qjq (fun c : Str => (Sum.inr c : Key)) (fun a b h => Sum.inr.inj h) (fun _ => V.bl true) c (.bl true) fs
   rw [h]
   have e : ((N21.add fs c).map fun d => ((Sum.inr d : Key), if d = c then V.bl true else V.bl true)) = (N21.add fs c).map fun d => ((Sum.inr d : Key), V.bl true) := List.map_congr_left fun d _ => by simp
   rw [e, Qep cs (N21.add fs c)]
   rfl
def spFirmsIn : Sp := fun vs H Q _ => ∃ (l : Addr) (L : List Sd), vs = [.ref l] ∧ H l = some (.lst (rfs L)) ∧ RT H L ∧ L.length ≤ 60 ∧ ∀ (p : Addr) H', Same H H' → H' p = some (.lst ((frm L).map V.str)) → Q (.ref p) H'
def dvs (L : List Sd) (cs : List Str) : List (N22.Rv Str) := N22.dues due ((frm L).headD "") (tf L) ((frm L).drop 1) cs
def spAdd : Sp := fun vs H Q _ => ∃ (l cl : Addr) (L : List Sd) (cs : List Str), vs = [.ref l, .ref cl] ∧ H l = some (.lst (rfs L)) ∧ RT H L ∧ L.length ≤ 60 ∧ (∀ z ∈ L, Let z.2.1) ∧ H cl = some (.lst (cs.map V.str)) ∧ cs.length ≤ 60 ∧
 ∀ (p : Addr) (D : List Sd) H', Same H H' → H p = none → H' p = some (.lst (rfs D)) → RT H' D → vls D = dvs L cs → D.length ≤ 10000 → Q (.ref p) H'
def spWith : Sp := fun vs H Q _ => ∃ (l : Addr) (L : List Sd), vs = [.ref l] ∧ H l = some (.lst (rfs L)) ∧ RT H L ∧ L.length ≤ 60 ∧ (∀ z ∈ L, Let z.2.1) ∧ (∀ z ∈ L, N21.tot z.2.2.2.1 (prs L) = 0) ∧
 ∀ (p : Addr) (D : List Sd) H', Same H H' → H p = none → H' p = some (.lst (rfs (L ++ D))) → RT H' D → vls D = dvs L (cns L) → D.length ≤ 10000 → Q (.ref p) H'
theorem Qky (s : Str) (t : Str → Str → Int) (C : List Str) {T : List Str} {i : Nat} {f : Str} (h : T[i]? = some f) : N22.dues due s t (T.take (i + 1)) C = N22.dues due s t (T.take i) C ++ N22.rowDue due s t C f := by
 unfold N22.dues
 rw [List.take_succ, h, List.flatMap_append]
 simp
theorem Qhj (s : Str) (t : Str → Str → Int) (f : Str) {C : List Str} {j : Nat} {c : Str} (h : C[j]? = some c) : (C.take (j + 1)).flatMap (N22.oneDue due s t f) = (C.take j).flatMap (N22.oneDue due s t f) ++ N22.oneDue due s t f c := by
 rw [List.take_succ, h, List.flatMap_append]
 simp
theorem Qo1 (L : List Sd) : (frm L).length ≤ L.length := by
 have := N21.Qcf (L.map (·.2.1))
 rw [List.length_map] at this
 exact this
theorem Qde {L : List Sd} {f : Str} (h : f ∈ frm L) : ∃ z ∈ L, z.2.1 = f := List.mem_map.mp (N21.Qa2.mp h)
theorem Qi4 (A B : List Sd) : vls (A ++ B) = vls A ++ vls B := List.map_append ..
theorem RT.app {H : Hp} {A B : List Sd} (a : RT H A) (b : RT H B) : RT H (A ++ B) := fun z hz => (List.mem_append.mp hz).elim (a z) (b z)
theorem due5 {s : Str} (h : s.length ≤ 8) : (".due." : Str).length + s.length ≤ sizeLine := by
 have e : (".due." : Str).length = 5 := rfl
 have hline : 600 ≤ sizeLine := by decide
 omega
theorem cut1 (ws : List Str) : cutV (ws.map V.str) (some 1) none = (ws.drop 1).map V.str := by
 have h : cutV (ws.map V.str) (some 1) none = _ := Qib (ws.map V.str) 1
 rw [h, List.length_map]
 cases ws with
 | nil => rfl
 | cons a r =>
   rw [List.length_cons, show min 1 (r.length + 1) = 1 by omega]
   rfl
theorem Qhd {L : List Sd} {i : Nat} {z : Sd} (h : L[i]? = some z) : vls (L.take (i + 1)) = vls (L.take i) ++ [z.2] := by
 unfold vls
 rw [List.take_succ, h, List.map_append]
 rfl
theorem Qdo (L : List Sd) : (vls L).length = L.length := List.length_map ..
theorem Qkv {L : List Sd} (h0 : ∀ z ∈ L, N21.tot z.2.2.2.1 (prs L) = 0) (f c : Str) : N22.sumIf (N22.pFC f c) (vls L ++ dvs L (cns L)) = 0 := by
 rw [N22.Qdt]
 cases hF : frm L with
 | nil =>
   have hL : L = [] := by
    cases L with
    | nil => rfl
    | cons z r =>
      obtain ⟨T, hT⟩ := N21.Qg6 z.2.1 (r.map (·.2.1))
      have : frm (z :: r) = z.2.1 :: T := hT
      rw [this] at hF
      cases hF
   subst hL
   rfl
 | cons s T =>
   have hd : dvs L (cns L) = N22.dues due s (fun f c => N22.sumIf (N22.pFC f c) (vls L)) T (cns L) := by
    unfold dvs
    rw [hF]
    rfl
   rw [hd]
   refine N22.Qkn due (by rw [← hF]; exact N21.Qa9 _) (N21.Qa9 _) (fun v hv => ?_) (fun v hv => ?_) (fun c hc => ?_) f c
   ·obtain ⟨z, hz, rfl⟩ := List.mem_map.mp hv
    rw [← hF]
    exact N21.Qa2.mpr (List.mem_map.mpr ⟨z, hz, rfl⟩)
   ·obtain ⟨z, hz, rfl⟩ := List.mem_map.mp hv
    exact N21.Qa2.mpr (List.mem_map.mpr ⟨(z.2.2.2.1, z.2.2.2.2), List.mem_map.mpr ⟨z, hz, rfl⟩, rfl⟩)
   ·obtain ⟨pz, mp, ep⟩ := List.mem_map.mp (N21.Qa2.mp hc)
    obtain ⟨z, mz, ez⟩ := List.mem_map.mp mp
    have h := h0 z mz
    rw [Qja] at h
    rw [← ep, ← ez]
    exact h
abbrev Pl := Str × Str
abbrev Pr := Pl × Int × Int
abbrev Rw4 := Addr × Pr
def tup4 (z : Rw4) : HO := .tup [.str z.2.1.1, .str z.2.1.2, .int z.2.2.1, .int z.2.2.2]
def rf4 (L : List Rw4) : List V := L.map fun z => .ref z.1
abbrev Ln := Addr × Str × Pr
def tup5 (z : Ln) : HO := .tup [.str z.2.1, .str z.2.2.1.1, .str z.2.2.1.2, .int z.2.2.2.1, .int z.2.2.2.2]
def rf5 (L : List Ln) : List V := L.map fun z => .ref z.1
theorem Qb6 (L : List Rw4) : (rf4 L).length = L.length := List.length_map ..
theorem Qbo (L : List Ln) : (rf5 L).length = L.length := List.length_map ..
theorem Qgu (A B : List Rw4) : rf4 (A ++ B) = rf4 A ++ rf4 B := List.map_append ..
theorem Qgt (A B : List Ln) : rf5 (A ++ B) = rf5 A ++ rf5 B := List.map_append ..
theorem Qdy {α : Type} {f : α → Addr} {L : List α} {i : Nat} {x : V} (h : (L.map fun z => V.ref (f z))[i]? = some x) : ∃ z, L[i]? = some z ∧ x = .ref (f z) := by
 rw [List.getElem?_map] at h
 cases e : L[i]? with
 | none => rw [e] at h; cases h
 | some z => rw [e] at h; exact ⟨z, rfl, (Option.some.inj h).symm⟩
theorem Qen {L : List Rw4} {i : Nat} {x : V} (h : (rf4 L)[i]? = some x) : ∃ z, L[i]? = some z ∧ x = .ref z.1 := Qdy h
theorem Qdx {L : List Ln} {i : Nat} {x : V} (h : (rf5 L)[i]? = some x) : ∃ z, L[i]? = some z ∧ x = .ref z.1 := Qdy h
theorem Qa7 {α : Type} {L : List α} {i : Nat} {z : α} (h : L[i]? = some z) : L.take (i + 1) = L.take i ++ [z] := by
 rw [List.take_succ, h]
 rfl
def pA (P : List Pr) : List (Pl × Int) := P.map fun p => (p.1, p.2.1)
def pW (P : List Pr) : List (Pl × Int) := P.map fun p => (p.1, p.2.2)
def kys (P : List Pr) : List Pl := N21.firsts (P.map (·.1))
def ta (P : List Pr) (k : Pl) : Int := N21.tot k (pA P)
def tw (P : List Pr) (k : Pl) : Int := N21.tot k (pW P)
def kk (k : Pl) : List Key := [Sum.inr k.1, Sum.inr k.2]
theorem Qnn {k l : Pl} (h : kk k = kk l) : k = l := by
 unfold kk at h
 simp at h
 exact Prod.ext h.1 h.2
theorem Qn0 (P : List Pr) (p : Pr) (k : Pl) : ta (P ++ [p]) k = ta P k + (if p.1 = k then p.2.1 else 0) := by
 unfold ta pA
 rw [List.map_append]
 exact N21.Qdl k (p.1, p.2.1) _
theorem Qnx (P : List Pr) (p : Pr) (k : Pl) : tw (P ++ [p]) k = tw P k + (if p.1 = k then p.2.2 else 0) := by
 unfold tw pW
 rw [List.map_append]
 exact N21.Qdl k (p.1, p.2.2) _
theorem Qh0 (P : List Pr) (p : Pr) : kys (P ++ [p]) = N21.add (kys P) p.1 := by
 unfold kys
 rw [List.map_append]
 exact N21.Qd7 _ _
theorem Qfm {P : List Pr} {k : Pl} (h : k ∉ kys P) : ta P k = 0 ∧ tw P k = 0 := by
 have h1 : k ∉ P.map (·.1) := fun m => h (N21.Qa2.mpr m)
 constructor
 ·refine N21.Qds (P := pA P) ?_
  unfold pA
  rw [List.map_map]
  exact h1
 ·refine N21.Qds (P := pW P) ?_
  unfold pW
  rw [List.map_map]
  exact h1
def kvT (A : Pl → Addr) (P : List Pr) : List (List Key × V) := (kys P).map fun k => (kk k, V.ref (A k))
theorem Qkd (A : Pl → Addr) (P : List Pr) : (kvT A P).length ≤ P.length := by
 unfold kvT kys
 rw [List.length_map]
 have := N21.Qcf (P.map (·.1))
 rw [List.length_map] at this
 exact this
theorem Qdj (g : Pl → V) (c : Pl) : ∀ fs : List Pl, valV (fs.map fun c => (kk c, g c)) (kk c) = if c ∈ fs then some (g c) else none
 | [] => rfl
 | d :: fs => by
   rw [List.map_cons]
   by_cases h : d = c
   ·subst h
    rw [Qbm rfl, if_pos List.mem_cons_self]
   ·rw [Qbn (fun e => h (Qnn e)), Qdj g c fs]
    simp [List.mem_cons, Ne.symm h]
theorem Qlt (g : Pl → V) (c : Pl) (v : V) (fs : List Pl) : putK (fs.map fun c => (kk c, g c)) (kk c) v = (N21.add fs c).map fun d => (kk d, if d = c then v else g d) := by
 unfold putK N21.add
 rw [Qci, Qdj]
 by_cases h : c ∈ fs
 ·rw [if_pos h, if_pos h]
  simp only [Option.isSome_some, if_true, List.map_map]
  refine List.map_congr_left fun d _ => ?_
  by_cases e : d = c
  ·subst e
   simp
  ·have e2 : ¬ kk d = kk c := fun z => e (Qnn z)
   simp [e, e2]
 ·rw [if_neg h, if_neg h]
  simp only [Option.isSome_none, Bool.false_eq_true, if_false, List.map_append, List.map_cons, List.map_nil, if_true]
  congr 1
  refine List.map_congr_left fun d hd => ?_
  rw [if_neg (fun e => h (by rw [← e]; exact hd))]
theorem Qfc {A : Pl → Addr} {P : List Pr} {k : Pl} (h : k ∈ kys P) : valV (kvT A P) (kk k) = some (.ref (A k)) := by
 unfold kvT
 rw [Qdj (fun k => V.ref (A k)), if_pos h]
theorem Qos (A : Pl → Addr) (P : List Pr) (p : Pr) (n : Addr) : putK (kvT A P) (kk p.1) (.ref n) = kvT (fun k => if k = p.1 then n else A k) (P ++ [p]) := by
 unfold kvT
 rw [Qlt (fun k => V.ref (A k)), Qh0]
 refine List.map_congr_left fun d _ => ?_
 by_cases e : d = p.1
 ·simp [e]
 ·simp [e]
def two (x y : Int) : HO := .tup [.int x, .int y]
def Sums (H : Hp) (d : Addr) (P : List Pr) (A : Pl → Addr) : Prop := H d = some (.dT (kvT A P)) ∧ ∀ k ∈ kys P, H (A k) = some (two (ta P k) (tw P k))
theorem Sums.same {H H' : Hp} {d : Addr} {P : List Pr} {A : Pl → Addr} (S : Sums H d P A) (e : Same H H') : Sums H' d P A := ⟨e _ _ S.1, fun k hk => e _ _ (S.2 k hk)⟩
theorem Sums.get {H : Hp} {d z : Addr} {P : List Pr} {A : Pl → Addr} (S : Sums H d P A) (k : Pl) (hz : H z = some (two 0 0)) : ∃ s, (valV (kvT A P) (kk k)).getD (.ref z) = .ref s ∧ H s = some (two (ta P k) (tw P k)) := by
 by_cases h : k ∈ kys P
 ·exact ⟨A k, by rw [Qfc h]; rfl, S.2 k h⟩
 ·refine ⟨z, ?_, ?_⟩
  ·unfold kvT
   rw [Qdj (fun k => V.ref (A k)), if_neg h]
   rfl
  ·rw [(Qfm h).1, (Qfm h).2]
   exact hz
theorem Sums.put {H : Hp} {d n : Addr} {P : List Pr} {A : Pl → Addr} {p : Pr} (S : Sums H d P A) (hn : H n = some (two (ta P p.1 + p.2.1) (tw P p.1 + p.2.2))) : Sums (upd H d (.dT (putK (kvT A P) (kk p.1) (.ref n)))) d (P ++ [p]) (fun k => if k = p.1 then n else A k) := by
 refine ⟨by rw [Qab, Qos], fun k hk => ?_⟩
 have keep : ∀ z o, H z = some (.tup o) → upd H d (.dT (putK (kvT A P) (kk p.1) (.ref n))) z = some (.tup o) := fun z o hz => by
  rw [Qah (Qbd hz S.1 (by intro z; cases z))]
  exact hz
 rw [Qn0, Qnx]
 by_cases e : k = p.1
 ·subst e
  show upd H d (.dT (putK (kvT A P) (kk p.1) (.ref n))) (if p.1 = p.1 then n else A p.1) = _
  rw [if_pos rfl, if_pos rfl, if_pos rfl]
  exact keep _ _ hn
 ·show upd H d (.dT (putK (kvT A P) (kk p.1) (.ref n))) (if k = p.1 then n else A k) = _
  rw [if_neg e, if_neg (Ne.symm e), if_neg (Ne.symm e), Int.add_zero, Int.add_zero]
  refine keep _ _ (S.2 k ?_)
  rw [Qh0] at hk
  unfold N21.add at hk
  split at hk
  ·exact hk
  ·rcases List.mem_append.mp hk with m | m
   ·exact m
   ·exact absurd (List.mem_singleton.mp m) e
theorem Qh1 (A : Pl → Addr) (P : List Pr) : (kvT A P).map (·.1) = (kys P).map (fun k => [Sum.inr k.1, Sum.inr k.2]) := by
 unfold kvT
 rw [List.map_map]
 rfl
theorem Qkc (P : List Pr) : (kys P).length ≤ P.length := by
 unfold kys
 have := N21.Qcf (P.map (·.1))
 rw [List.length_map] at this
 exact this
def nz (P : List Pr) (k : Pl) : Bool := !decide ([ta P k, tw P k] = [0, 0])
def fg (P : List Pr) (ks : List Pl) : List Pr := (ks.filter (nz P)).map fun k => (k, ta P k, tw P k)
def Fig (P : List Pr) (gs : List Pr) : Prop := ∃ ks : List Pl, ks.Perm (kys P) ∧ ks.Pairwise (fun a b => ltP a b = true) ∧ gs = fg P ks
theorem fg_nx {P : List Pr} {ks : List Pl} {i : Nat} {k : Pl} (h : ks[i]? = some k) : fg P (ks.take (i + 1)) = if nz P k = true then fg P (ks.take i) ++ [(k, ta P k, tw P k)] else fg P (ks.take i) := by
 unfold fg
 rw [Qa7 h, List.filter_append, List.map_append]
 by_cases z : nz P k = true
 ·rw [if_pos z, List.filter_cons_of_pos z]
  rfl
 ·rw [if_neg z, List.filter_cons_of_neg z]
  simp
theorem Qbi {H : Hp} {p : Addr} {xs ys : List V} {z : Addr} {o : List V} (h : H z = some (.tup o)) (hp : H p = some (.lst xs)) : upd H p (.lst ys) z = some (.tup o) := by
 rw [Qah (Qbd h hp (by intro z; cases z))]
 exact h
def R4 (H : Hp) (R : List Rw4) : Prop := ∀ z ∈ R, H z.1 = some (tup4 z)
def R5 (H : Hp) (L : List Ln) : Prop := ∀ z ∈ L, H z.1 = some (tup5 z)
theorem R4.same {H H' : Hp} {R : List Rw4} (h : R4 H R) (e : Same H H') : R4 H' R := fun z hz => e _ _ (h z hz)
theorem R5.same {H H' : Hp} {R : List Ln} (h : R5 H R) (e : Same H H') : R5 H' R := fun z hz => e _ _ (h z hz)
theorem Qf1 {α : Type} [BEq α] [LawfulBEq α] : ∀ (l A : List α), l.Nodup → (∀ x ∈ l, x ∈ A) → l.length ≤ A.length
 | [], _, _, _ => Nat.zero_le _
 | a :: r, A, h, hs => by
   have h1 := List.nodup_cons.mp h
   have h2 := Qf1 r (A.erase a) h1.2 fun x hx => (List.mem_erase_of_ne (fun e => h1.1 (by rw [← e]; exact hx))).mpr (hs x (List.mem_cons_of_mem _ hx))
   have h3 := List.length_erase_of_mem (hs a List.mem_cons_self)
   have h4 := List.length_pos_of_mem (hs a List.mem_cons_self)
   rw [List.length_cons]
   omega
theorem fig_eq {P Q gs hs : List Pr} (h1 : Fig P gs) (h2 : Fig Q hs) (ea : ∀ k, ta P k = ta Q k) (ew : ∀ k, tw P k = tw Q k) : gs = hs := by
 obtain ⟨ks, p1, w1, rfl⟩ := h1
 obtain ⟨ls, p2, w2, rfl⟩ := h2
 have en : nz P = nz Q := funext fun k => by
  unfold nz
  rw [ea, ew]
 have inP : ∀ (P : List Pr) k, nz P k = true → k ∈ kys P := fun P k h => by
  by_cases m : k ∈ kys P
  ·exact m
  ·unfold nz at h
   rw [(Qfm m).1, (Qfm m).2] at h
   simp at h
 have pm : (ks.filter (nz P)).Perm (ls.filter (nz Q)) := by
  refine (List.perm_ext_iff_of_nodup ((p1.nodup_iff.mpr (N21.Qa9 _)).filter _) ((p2.nodup_iff.mpr (N21.Qa9 _)).filter _)).mpr fun k => ?_
  rw [List.mem_filter, List.mem_filter]
  constructor
  ·rintro ⟨_, h⟩
   rw [en] at h
   exact ⟨p2.mem_iff.mpr (inP Q k h), h⟩
  ·rintro ⟨_, h⟩
   rw [← en] at h
   exact ⟨p1.mem_iff.mpr (inP P k h), h⟩
 have e := Qfa pm (w1.filter _) (w2.filter _)
 unfold fg
 rw [e]
 refine List.map_congr_left fun k _ => ?_
 rw [ea, ew]
theorem Qed (P : List Pr) (k : Pl) : ta P k = N25.sg (fun p => if p.1 = k then p.2.1 else 0) P := by
 unfold ta pA
 rw [N25.Qfk, N25.Qa4]
theorem Qec (P : List Pr) (k : Pl) : tw P k = N25.sg (fun p => if p.1 = k then p.2.2 else 0) P := by
 unfold tw pW
 rw [N25.Qfk, N25.Qa4]
theorem Qf2 {H : Hp} {a b : Addr} {o : HO} (h : H a = some o) (h' : H b = none) : b ≠ a := fun z => by rw [z, h] at h'; cases h'
def fK (c : Str) (dy : Int) : List Key → Bool
 | [.inr c', .inl d'] => decide (V.str c' = V.str c) && decide (d' ≤ dy)
 | _ => false
def gI : List Key → Int
 | [_, .inl d'] => d'
 | _ => 0
structure RatesAt (K : Q5) (C : Addr) (H : Hp) (p d : Addr) (t : Str) (kvs : List (List Key × V)) : Prop where
 ob : ∃ dx fs, H p = some (.ins C dx fs) ∧ fs.lookup ("told" : Str) = some (.str t) ∧ fs.lookup ("known" : Str) = some (.ref d) ∧ ∀ m ∈ (["tell", "rate", "worth", "copied"] : List Str), fs.lookup m = none
 dc : H d = some (.dT kvs)
 ln : kvs.length ≤ 500
 ks : ∀ k ∈ kvs.map (·.1), ∃ c' d', k = [Sum.inr c', Sum.inl d']
def daysOf (c : Str) (dy : Int) (kvs : List (List Key × V)) : List Int := ((kvs.map (·.1)).filter (fK c dy)).map gI
def spRate (K : Q5) (C : Addr) : Sp := fun vs H Q _ => ∃ (p d : Addr) (t c : Str) (dy : Int) (kvs : List (List Key × V)), vs = [.ref p, .str c, .int dy] ∧ RatesAt K C H p d t kvs ∧ (c = t → ∀ r H', Same H H' → H' r = some (.tup [.int 1, .int 1]) → Q (.ref r) H') ∧
 (c ≠ t → daysOf c dy kvs ≠ [] ∧ ∀ m, m ∈ daysOf c dy kvs → (∀ a ∈ daysOf c dy kvs, a ≤ m) → ∃ v, valV kvs [Sum.inr c, Sum.inl m] = some v ∧ ∀ H', Same H H' → Q v H')
theorem scbd0 : FnScope ["one", "other", "rest"] ["one", "other"] (defScope sbd0) := fsc
theorem okbd0 (D : Def K mg "divisor" sbd0 .none) (z_abs : mg "abs" = none) : Cal P w K mg base CX0 cm 1 "divisor" ["one", "other"] [] spG := by
 obtain ⟨f, fd, F, hm⟩ := D
 refine ⟨f, fd, _, F.ok scbd0 (fun vs H Q E h => ?_) (fun cdv A outer s H vs Q E hr h => ?_), hm, F.kp, (F.b2), .nil, F.b2⟩
 ·obtain ⟨a, b, rfl, q⟩ := h
  rfl
 obtain ⟨a, b, rfl, q⟩ := h
 have nd := scbd0.nd
 refine ⟨_, (Qad (Qal (i := 0) nd rfl (Or.inl rfl) (Qav Qeb rfl z_abs Qlg (Qaa (pv 0) Qaf)))
  (Qad (Qal (i := 1) nd rfl (Or.inl rfl) (Qav Qeb rfl z_abs Qlg (Qaa (pv 1) Qaf)))
  (Qad (Qlv PassesOwn.never (Qap Qee (pv 1) Qac (nomark _)) (Qad (Qal (i := 2) nd rfl (Or.inl rfl) (Qaj Qau (pv 0) (pv 1)))
  (Qad (Qal (i := 0) nd rfl (Or.inl rfl) (pv 1))
  (Qag (Qal (i := 1) nd rfl (Or.inl rfl) (pv 2))))))
  (Qag (Qaq (pv 0)))))), ?_⟩
 refine ⟨_, rfl, a, rfl, ?_⟩
 refine ⟨_, rfl, b, rfl, ?_⟩
 refine Qlj (fun σ H' => ∃ (x y : Int) (r : Option V), σ = [some (.int x), some (.int y), r] ∧ H' = H ∧ 0 ≤ x ∧ 0 ≤ y ∧ N11.gF x y = N11.gF a b) (fun σ _ => match σ with | [_, some (.int y), _] => y.toNat | _ => 0)
  ⟨_, _, none, rfl, rfl, by omega, by omega, N11.Qoz a b⟩ ?_ ?_
 ·rintro σ H1 ⟨x, y, r, rfl, rfl, hx, hy, hg⟩
  refine ⟨_, rfl, rfl, _, rfl, ?_⟩
  refine ndec2 (fun h => ?_) (fun h => ?_)
  ·have hy0 : 0 < y := by (have : y ≠ 0 := fun z => h (congrArg V.int z)); omega
   refine ⟨_, rfl, _, rfl, _, _, rfl, rfl, hy0, _, rfl, _, rfl, ⟨y, x % y, _, rfl, rfl, by omega, Int.emod_nonneg x (by omega), ?_⟩, ?_⟩
   ·rw [N11.Qoy hx hy0]
    exact hg
   ·have := Int.emod_lt_of_pos x hy0
    have := Int.emod_nonneg x (show y ≠ 0 by omega)
    show (x % y).toNat < y.toNat
    omega
  ·have hy0 : y = 0 := by exact V.int.inj h
   subst hy0
   rw [← N11.g_end hg hx] at q
   exact ⟨_, rfl, q⟩
 ·intro σ H1 Q1 Q2 hq z
  obtain ⟨v, e, sc, k, e2, z⟩ := z
  exact ⟨v, e, sc, k, e2, hq _ _ z⟩
theorem scbi0 : FnScope ["top", "bottom", "shared"] ["top", "bottom"] (defScope sbi0) := fsc
theorem okbi0 {Tbi0 : Addr} (D : Def K mg "fraction" sbi0 (.ref Tbi0)) {C_NoNumber : Addr} {odbi0 : Option Addr} {nbi0 : Nat} {slbi0 : Array Q6} {tkbi0 : Tok} (lTbi0 : K.lookup Tbi0 = some ⟨.type "tuple", odbi0, .seq #[.int 1 tkbi0] nbi0, slbi0⟩) (cbd0 : Cal P w K mg base CX0 true 1 "divisor" ["one", "other"] [] spG) (m_NoNumber : mg "NoNumber" = some (.ref C_NoNumber)) (X_NoNumber : XCls K C_NoNumber) (i_NoNumber : findIn K (.ref C_NoNumber) "__init__" = some (some (.builtin "ValueError.__init__"))) : Cal P w K mg base (CX1 P w) true 2 "fraction" ["top", "bottom"] [.int 1] (spFrac C_NoNumber) := by
 obtain ⟨f, fd, F, hm⟩ := D
 obtain ⟨fbd0, fdbd0, dbd0, Gbd0, mbd0, kbd0, bbd0, vbd0, bbd01⟩ := cbd0
 refine ⟨f, fd, _, F.okX scbi0 (fun vs H Q E h => ?_) (fun cdv A outer s H vs Q E hr h => ?_), hm, F.kp, (F.bindsD (ds := []) lTbi0 2 rfl fun _ _ _ _ _ _ us hl => match us, hl with | [_, _], _ => ⟨_, rfl, rfl⟩), (.cons ⟨_, rfl⟩ .nil), F.bindsD (ds := [.int 1 tkbi0]) lTbi0 1 rfl fun _ _ _ _ _ _ us hl => match us, hl with | [_], _ => ⟨_, rfl, rfl⟩⟩
 ·obtain ⟨t, b, rfl, q1, q2⟩ := h
  rfl
 obtain ⟨t, b, rfl, q1, q2⟩ := h
 have nd := scbi0.nd
 refine ⟨_, (Qad (Qbq (Qap Qcl (pv 1) Qac (nomark _)) (Qag (Qfx rfl Qmy rfl m_NoNumber X_NoNumber i_NoNumber (Qaa Qbz Qaf))) Qas)
  (Qad (Qal (i := 2) nd rfl (Or.inl rfl) (Qan Gbd0 (hr.mono (by decide)) rfl mbd0 kbd0 bbd0 Paired.nil pass0 (Qaa (pv 0) (Qaa (pv 1) Qaf))))
  (Qad (Qbq (Qap Qio (pv 1) Qac (nomark _)) (Qag (Qal (i := 2) nd rfl (Or.inl rfl) (Qgx Qdq (pv 2)))) Qas)
  (Qag (Qaq (Qay (Qaa (Qaj Qe8 (pv 0) (pv 2)) (Qaa (Qaj Qe8 (pv 1) (pv 2)) Qaf)))))))), ?_⟩
 refine ⟨_, rfl, rfl, _, rfl, ?_⟩
 refine dec2 (fun h => ?_) (fun h => ?_)
 ·exact ⟨by decide, True.intro, q1 (V.int.inj h)⟩
 ·have hb : b ≠ 0 := fun z => h (congrArg V.int z)
  obtain ⟨hb2, q⟩ := q2 hb
  have hd := N11.dF_in (t := t) hb
  refine ⟨_, rfl, _, rfl, _, _, rfl, ?_⟩
  refine ⟨_, rfl, _, _, rfl, rfl, _, rfl, ?_⟩
  refine dec2 (fun h1 => ?_) (fun h1 => ?_)
  ·rw [show N11.dF t b = _ from if_pos h1] at q hd
   exact ⟨_, rfl, _, rfl, _, rfl, _, rfl, _, _, rfl, rfl, Qf4 (by omega) (by omega) (by omega), _, rfl, _, rfl, _, _, rfl, rfl, Qf4 (by omega) (by omega) (by omega), (by show 2 ≤ sizeLine; decide), q⟩
  ·rw [show N11.dF t b = _ from if_neg h1] at q hd
   exact ⟨_, rfl, _, rfl, _, _, rfl, rfl, Qf4 (by omega) (by omega) (by omega), _, rfl, _, rfl, _, _, rfl, rfl, Qf4 (by omega) (by omega) (by omega), (by show 2 ≤ sizeLine; decide), q⟩
def spNearest (C : Addr) : Sp := fun vs H Q E => ∃ t b : Int, vs = [.int t, .int b] ∧ (b < 1 → E (.ref C) none H) ∧ (1 ≤ b → b ≤ 2 ^ 250 * 2 ^ 250 ∧ Q (.int (N13.nearZ t b)) H)
theorem scbn0 : FnScope ["top", "bottom", "size"] ["top", "bottom"] (defScope sbn0) := fsc
theorem okbn0 {Tbn0 : Addr} (D : Def K mg "nearest" sbn0 (.ref Tbn0)) {C_NoNumber : Addr} {odbn0 : Option Addr} {nbn0 : Nat} {slbn0 : Array Q6} {tkbn0 : Tok} (lTbn0 : K.lookup Tbn0 = some ⟨.type "tuple", odbn0, .seq #[.int 1 tkbn0] nbn0, slbn0⟩) (z_abs : mg "abs" = none) (m_NoNumber : mg "NoNumber" = some (.ref C_NoNumber)) (X_NoNumber : XCls K C_NoNumber) (i_NoNumber : findIn K (.ref C_NoNumber) "__init__" = some (some (.builtin "ValueError.__init__"))) : Cal P w K mg base (CX1 P w) true 1 "nearest" ["top", "bottom"] [.int 1] (spNearest C_NoNumber) := by
 obtain ⟨f, fd, F, hm⟩ := D
 refine ⟨f, fd, _, F.okX scbn0 (fun vs H Q E h => ?_) (fun cdv A outer s H vs Q E hr h => ?_), hm, F.kp, (F.bindsD (ds := []) lTbn0 2 rfl fun _ _ _ _ _ _ us hl => match us, hl with | [_, _], _ => ⟨_, rfl, rfl⟩), (.cons ⟨_, rfl⟩ .nil), F.bindsD (ds := [.int 1 tkbn0]) lTbn0 1 rfl fun _ _ _ _ _ _ us hl => match us, hl with | [_], _ => ⟨_, rfl, rfl⟩⟩
 ·obtain ⟨t, b, rfl, q1, q2⟩ := h
  rfl
 obtain ⟨t, b, rfl, q1, q2⟩ := h
 have nd := scbn0.nd
 refine ⟨_, (Qad (Qbq (Qap Qio (pv 1) Qac (nomark _)) (Qag (Qfx rfl Qmy rfl m_NoNumber X_NoNumber i_NoNumber (Qaa Qbz Qaf))) Qas)
  (Qad (Qal (i := 2) nd rfl (Or.inl rfl) (Qaj Qe8 (Qaj Qa1 (Qaj Qbe Qac (Qav Qeb rfl z_abs Qlg (Qaa (pv 0) Qaf))) (pv 1)) (Qaj Qbe Qac (pv 1))))
  (Qad (Qbq (Qap Qio (pv 0) Qac (nomark _)) (Qag (Qaq (Qgx Qdq (pv 2)))) Qas)
  (Qag (Qaq (pv 2)))))), ?_⟩
 refine ⟨_, rfl, _, _, rfl, rfl, _, rfl, ?_⟩
 refine dec2 (fun h => ?_) (fun h => ?_)
 ·exact ⟨by decide, True.intro, q1 h⟩
 ·have hb : 1 ≤ b := by omega
  obtain ⟨hb2, q⟩ := q2 hb
  refine ⟨_, rfl, t, rfl, _, _, rfl, rfl, .of_left (intBits_le_64 (by decide) (by decide)), _, rfl, _, _, rfl, rfl, _, rfl, _, _, rfl, rfl, .of_left (intBits_le_64 (by decide) (by decide)), _, _, rfl, rfl, Qf4 (by omega) (by omega) (by omega), ?_⟩
  refine ⟨_, rfl, _, _, rfl, rfl, _, rfl, ?_⟩
  refine dec2 (fun h1 => ?_) (fun h1 => ?_)
  ·rw [show N13.nearZ t b = _ from if_pos h1] at q
   exact ⟨_, rfl, _, rfl, q⟩
  ·rw [show N13.nearZ t b = _ from if_neg h1] at q
   exact ⟨_, rfl, q⟩
abbrev sah0 : Stmt := inClass (top 28) 2
theorem scah0 : FnScope ["self", "coin", "day", "days"] ["self", "coin", "day"] (defScope sah0) := fsc
theorem okah0 {C_Rates : Addr} (D : DefM K C_Rates "rate" "Rates.rate" sah0 .none) (cbi0 : Cal P w K mg base (CX1 P w) true 2 "fraction" ["top", "bottom"] [.int 1] (spFrac C_NoNumber)) (z_len : mg "len" = none) (z_max : mg "max" = none) (cl_Rates : Cls K C_Rates) (n_told : NoAttr K C_Rates "told") (n_known : NoAttr K C_Rates "known") : CalM P w K mg base CX0 true 3 C_Rates "rate" ["self", "coin", "day"] [] (spRate K C_Rates) := by
 obtain ⟨f, fd, F, hm⟩ := D
 obtain ⟨fbi0, fdbi0, dbi0, Gbi0, mbi0, kbi0, bbi0, vbi0, bbi01⟩ := cbi0
 refine ⟨f, fd, _, F.ok scah0 (fun vs H Q E h => ?_) (fun cdv A outer s H vs Q E hr h => ?_), hm, (F.b3), .nil, F.b3⟩
 ·obtain ⟨p, d, t, c, dy, kvs, rfl, R, q1, q2⟩ := h
  rfl
 obtain ⟨p, d, t, c, dy, kvs, rfl, R, q1, q2⟩ := h
 have nd := scah0.nd
 refine ⟨_, (Qad (Qbq (Qap Qcl (pv 1) (Qcn (pv 0) rfl) (nomark _)) (Qag (Qaq (Qe7 Gbi0 (hr.mono (by decide)) rfl mbi0 kbi0 bbi01 vbi0 Qi3 (Qaa Qac Qaf)))) Qas)
  (Qad (Qjs [1, 2] (i := 3) nd rfl (Or.inl rfl) rfl (LcOk.free ["day", "coin"] rfl rfl (List.forall_mem_cons.mpr ⟨rfl, (List.forall_mem_cons.mpr ⟨rfl, (fun _ h => nomatch h)⟩)⟩) (by decide+kernel) rfl (by decide+kernel) rfl (by decide+kernel) (show (["key", "coin", "day"] : List Str).Nodup from by decide+kernel) (List.forall_mem_cons.mpr ⟨⟨_, rfl, rfl, rfl, by decide+kernel⟩, (List.forall_mem_cons.mpr ⟨⟨_, rfl, rfl, rfl, by decide+kernel⟩, (fun _ h => nomatch h)⟩)⟩)) (Qcn (pv 0) rfl) (Ql6 (Ql5 _)) (fun C s2 H2 fp xe => (PW.pt (pw_and (Qap Qcl (Qax Qbk (pv 0) Qac (fun _ _ => rfl)) (pv 1) (nomark _)) (Qod (Qap op_le (Qax Qbk (pv 0) Qac (fun _ _ => rfl)) (pv 2) (nomark _)))))) (fun C s2 H2 fp xe => (Qax Qbk (pv 0) Qac (fun _ _ => rfl))))
  (Qad (Qbq (Qap Qcl (Qav Qa5 rfl z_len Qcw (Qaa (pv 3) Qaf)) Qac (nomark _)) (Qag Qcj) Qas)
  (Qag (Qaq (Qbp (Qbl hr) (Qcn (pv 0) rfl) (Qay (Qaa (pv 1) (Qaa (Qav (Qmt hr) rfl z_max Qlf (Qaa (pv 3) Qaf)) Qaf))) (fun _ _ => rfl))))))), ?_⟩
 obtain ⟨⟨dx, fs, hp, ht, hk, hno⟩, hd, hln, hks⟩ := R
 have hline : 600 ≤ sizeLine := by decide
 refine ⟨_, rfl, _, rfl, p, C_Rates, dx, fs, _, rfl, hp, cl_Rates, n_told, ht, rfl, _, rfl, ?_⟩
 refine dec2 (fun h => ?_) (fun h => ?_)
 ·refine ⟨True.intro, _, _, rfl, (fun z => absurd z (by decide)), fun _ => ⟨by decide, fun r hr1 => ?_⟩⟩
  rw [show Int.fdiv 1 (N11.dF 1 1) = 1 by decide]
  exact q1 (V.str.inj h) r _ (Qae hr1) Qab
 obtain ⟨hne, q⟩ := q2 (fun z => h (congrArg V.str z))
 refine ⟨_, rfl, p, C_Rates, dx, fs, _, rfl, hp, cl_Rates, n_known, hk, d, kvs, fK c dy, (fun k => V.int (gI k)), rfl, hd, by omega, fun k hkm a Hx ha => ?_, fun l hl => ?_⟩
 ·obtain ⟨c', d', rfl⟩ := hks k hkm
  have hT := SqT.of (K := K) (show Hx a = some (.tup [.str c', .int d']) from ha)
  refine ⟨_, rfl, .inr (.inl ⟨a, _, 0, _, rfl, rfl, hT, rfl, _, rfl, rfl, _, rfl, ?_⟩)⟩
  refine dec2 (fun h1 => ?_) (fun h1 => ?_)
  ·refine ⟨_, rfl, .inr (.inl ⟨a, _, 1, _, rfl, rfl, hT, rfl, _, rfl, _, _, rfl, rfl, _, rfl, ?_⟩)⟩
   refine dec2 (fun h2 => ?_) (fun h2 => ?_)
   ·refine ⟨_, rfl, .inr (.inl ⟨a, _, 1, _, rfl, rfl, hT, rfl, ?_, rfl, rfl⟩)⟩
    simp only [fK]
    rw [decide_eq_true h1, decide_eq_true h2]
    rfl
   ·refine ⟨?_, rfl⟩
    simp only [fK]
    rw [decide_eq_false h2, Bool.and_false]
  ·refine iteF ⟨?_, rfl⟩
   simp only [fK]
   rw [decide_eq_false h1, Bool.false_and]
 have el : ((kvs.map (·.1)).filter (fK c dy)).map (fun k => V.int (gI k)) = (daysOf c dy kvs).map V.int := by
  unfold daysOf
  rw [List.map_map]
  rfl
 rw [el]
 have e1 := Qae (o := .lst ((daysOf c dy kvs).map V.int)) hl
 refine ⟨_, rfl, l, _, rfl, .inl (SqL.of Qab), rfl, _, rfl, ?_⟩
 have hl0 : 0 < (daysOf c dy kvs).length := List.length_pos_iff.mpr hne
 refine decF (fun z => ?_) ?_
 ·have := V.int.inj z
  rw [List.length_map] at this
  omega
 refine ⟨_, rfl, p, C_Rates, dx, fs, _, rfl, (e1 _ _ hp), cl_Rates, n_known, hk, _, rfl, _, rfl, l, _, rfl, SqL.of Qab, hl0, fun m hm hmx => ?_⟩
 obtain ⟨v, hv, q⟩ := q m hm hmx
 refine ⟨(by show 2 ≤ sizeLine; decide), fun tp htp => ?_⟩
 have e2 := Qae (o := .tup [.str c, .int m]) htp
 have g := DGet.t (k := [Sum.inr c, Sum.inl m]) ((e1.trans e2) _ _ hd) (show (upd (upd H l (.lst ((daysOf c dy kvs).map V.int))) tp (.tup [.str c, .int m])) tp = some (.tup (([Sum.inr c, Sum.inl m] : List Key).map kV)) from Qab)
 rw [hv] at g
 exact ⟨d, v, rfl, g, q _ (e1.trans e2)⟩
def spInit (K : Q5) (C : Addr) : Sp := fun vs H Q _ => ∃ (p dx : Addr) (t : Str), vs = [.ref p, .str t] ∧ H p = some (.ins C dx []) ∧ ∀ d H', H d = none → RatesAt K C H' p d t [] → (∀ b o, H b = some o → b ≠ p → H' b = some o) → Q .non H'
def spTell (K : Q5) (C : Addr) : Sp := fun vs H Q _ => ∃ (p d : Addr) (t c : Str) (dy tp bt : Int) (kvs : List (List Key × V)), vs = [.ref p, .str c, .int dy, .int tp, .int bt] ∧ RatesAt K C H p d t kvs ∧ 1 ≤ tp ∧ 1 ≤ bt ∧ bt ≤ 2 ^ 200 ∧ c ≠ t ∧ valV kvs [Sum.inr c, Sum.inl dy] = none ∧ kvs.length < 500 ∧
 ∀ r H', H' r = some (.tup [.int (Int.fdiv tp (N11.dF tp bt)), .int (Int.fdiv bt (N11.dF tp bt))]) → RatesAt K C H' p d t (kvs ++ [([Sum.inr c, Sum.inl dy], .ref r)]) → (∀ b o, H b = some o → b ≠ d → H' b = some o) → Q .non H'
def spWorth (K : Q5) (C : Addr) : Sp := fun vs H Q _ => ∃ (p d : Addr) (t c : Str) (am dy : Int) (kvs : List (List Key × V)), vs = [.ref p, .int am, .str c, .int dy] ∧ RatesAt K C H p d t kvs ∧ am.natAbs ≤ 2 ^ 200 ∧ (c = t → ∀ H', Same H H' → Q (.int (N13.nearZ (am * 1) 1)) H') ∧
 (c ≠ t → daysOf c dy kvs ≠ [] ∧ ∀ m, m ∈ daysOf c dy kvs → (∀ a ∈ daysOf c dy kvs, a ≤ m) → ∃ (r : Addr) (x y : Int), valV kvs [Sum.inr c, Sum.inl m] = some (.ref r) ∧ H r = some (.tup [.int x, .int y]) ∧ x.natAbs ≤ 2 ^ 200 ∧ 1 ≤ y ∧ y ≤ 2 ^ 200 ∧ ∀ H', Same H H' → Q (.int (N13.nearZ (am * x) y)) H')
structure SpW (K : Q5) (C : Addr) (vs : List V) (H : Hp) (Q : VK) (E : XK) : Prop where
 is : spWorth K C vs H Q E
theorem tk_ne : ¬ (("told" : Str) = "known") := by decide+kernel
abbrev sag0 : Stmt := inClass (top 28) 0
theorem scag0 : FnScope ["self", "told"] ["self", "told"] (defScope sag0) := fsc
theorem okag0 {C_Rates : Addr} {Tag0 : Addr} (D : DefI K C_Rates "Rates.__init__" sag0 (.ref Tag0)) {odag0 : Option Addr} {nag0 : Nat} {slag0 : Array Q6} {tkag0 : Tok} (lTag0 : K.lookup Tag0 = some ⟨.type "tuple", odag0, .seq #[.str "one" tkag0] nag0, slag0⟩) (cl_Rates : Cls K C_Rates) (n_told : NoAttr K C_Rates "told") (n_known : NoAttr K C_Rates "known") : CalI P w K mg base CX0 cm 1 C_Rates ["self", "told"] [.str "one"] (spInit K C_Rates) := by
 obtain ⟨f, fd, F, hm⟩ := D
 refine ⟨f, fd, _, F.ok scag0 (fun vs H Q E h => ?_) (fun cdv A outer s H vs Q E hr h => ?_), hm, (F.bindsD (ds := []) lTag0 2 rfl fun _ _ _ _ _ _ us hl => match us, hl with | [_, _], _ => ⟨_, rfl, rfl⟩), (.cons ⟨_, rfl⟩ .nil), F.bindsD (ds := [.str "one" tkag0]) lTag0 1 rfl fun _ _ _ _ _ _ us hl => match us, hl with | [_], _ => ⟨_, rfl, rfl⟩⟩
 ·obtain ⟨p, dx, t, rfl, hp, q⟩ := h
  rfl
 obtain ⟨p, dx, t, rfl, hp, q⟩ := h
 have nd := scag0.nd
 refine ⟨_, (Qad (Qho (pv 0) (pv 1) rfl)
  (Qag (Qho (pv 0) Qdn rfl))), ?_⟩
 refine ⟨_, rfl, _, rfl, p, C_Rates, dx, [], rfl, hp, cl_Rates, n_told, (by show 0 < 1000; decide), fun d hd => ?_⟩
 have npd : p ≠ d := Qai Qab hd
 have hd0 : H d = none := by
  rw [Qah (Ne.symm npd)] at hd
  exact hd
 refine ⟨_, rfl, p, C_Rates, dx, _, rfl, (by rw [Qah npd]; exact Qab), cl_Rates, n_known, (by show 1 < 1000; decide), ?_⟩
 refine q d _ hd0 ⟨⟨dx, _, Qab, ?_, ?_, fun m hm => ?_⟩, ?_, by decide, fun k hk => nomatch hk⟩ fun b o e hb => ?_
 ·rw [Qa3, if_neg tk_ne, Qa3, if_pos rfl]
 ·rw [Qa3, if_pos rfl]
 ·rw [Qa3, Qa3]
  have h1 : ¬ m = ("known" : Str) := by
   intro z
   subst z
   exact absurd hm (by decide+kernel)
  have h2 : ¬ m = ("told" : Str) := by
   intro z
   subst z
   exact absurd hm (by decide+kernel)
  rw [if_neg h1, if_neg h2]
  rfl
 ·rw [Qah (Ne.symm npd), Qab]
 ·rw [Qah hb, Qah (Qai e hd0), Qah hb]
  exact e
abbrev sai0 : Stmt := inClass (top 28) 1
theorem scai0 : FnScope ["self", "coin", "day", "top", "bottom"] ["self", "coin", "day", "top", "bottom"] (defScope sai0) := fsc
theorem okai0 {C_Rates : Addr} {Tai0 : Addr} (D : DefM K C_Rates "tell" "Rates.tell" sai0 (.ref Tai0)) {odai0 : Option Addr} {nai0 : Nat} {slai0 : Array Q6} {tkai0 : Tok} (lTai0 : K.lookup Tai0 = some ⟨.type "tuple", odai0, .seq #[.int 1 tkai0] nai0, slai0⟩) (cbi0 : Cal P w K mg base (CX1 P w) true 2 "fraction" ["top", "bottom"] [.int 1] (spFrac C_NoNumber)) (cl_Rates : Cls K C_Rates) (n_told : NoAttr K C_Rates "told") (n_known : NoAttr K C_Rates "known") : CalM P w K mg base CX0 true 3 C_Rates "tell" ["self", "coin", "day", "top", "bottom"] [.int 1] (spTell K C_Rates) := by
 obtain ⟨f, fd, F, hm⟩ := D
 obtain ⟨fbi0, fdbi0, dbi0, Gbi0, mbi0, kbi0, bbi0, vbi0, bbi01⟩ := cbi0
 refine ⟨f, fd, _, F.ok scai0 (fun vs H Q E h => ?_) (fun cdv A outer s H vs Q E hr h => ?_), hm, (F.bindsD (ds := []) lTai0 5 rfl fun _ _ _ _ _ _ us hl => match us, hl with | [_, _, _, _, _], _ => ⟨_, rfl, rfl⟩), (.cons ⟨_, rfl⟩ .nil), F.bindsD (ds := [.int 1 tkai0]) lTai0 4 rfl fun _ _ _ _ _ _ us hl => match us, hl with | [_, _, _, _], _ => ⟨_, rfl, rfl⟩⟩
 ·obtain ⟨p, d, t, c, dy, tp, bt, kvs, rfl, R, h1, h2, h3, hct, hval, hlen, q⟩ := h
  rfl
 obtain ⟨p, d, t, c, dy, tp, bt, kvs, rfl, R, h1, h2, h3, hct, hval, hlen, q⟩ := h
 have nd := scai0.nd
 refine ⟨_, (Qad (Qbq (PW.pt (Qjp (Qap Qio (pv 3) Qac (nomark _)) (Qfu (Qap Qio (pv 4) Qac (nomark _))))) (Qag Qcj) Qas)
  (Qad (Qbq (PW.pt (Qjp (Qap Qcl (pv 1) (Qcn (pv 0) rfl) (nomark _)) (Qfu (pt_cmp (pc_din (Qbl hr) (Qay (Qaa (pv 1) (Qaa (pv 2) Qaf))) (Qcn (pv 0) rfl)))))) (Qag Qcj) Qas)
  (Qag (Qb7 (Qbl hr) (Qcn (pv 0) rfl) (Qay (Qaa (pv 1) (Qaa (pv 2) Qaf))) (Qe7 Gbi0 (hr.mono (by decide)) rfl mbi0 kbi0 bbi0 Paired.nil Qi3 (Qaa (pv 3) (Qaa (pv 4) Qaf))) rfl)))), ?_⟩
 obtain ⟨⟨dx, fs, hp, ht, hk, hno⟩, hd, hln, hks⟩ := R
 have hline : 600 ≤ sizeLine := by decide
 refine ⟨_, rfl, _, _, rfl, rfl, _, rfl, decF (by omega) ?_⟩
 refine ⟨_, rfl, _, _, rfl, rfl, _, rfl, decF (by omega) ?_⟩
 refine ⟨_, rfl, _, rfl, p, C_Rates, dx, fs, _, rfl, hp, cl_Rates, n_told, ht, rfl, _, rfl, decF (fun z => hct (V.str.inj z)) ?_⟩
 refine ⟨_, rfl, _, rfl, (by show 2 ≤ sizeLine; decide), fun k1 hk1 => ?_⟩
 have e1 := Qae (o := .tup [.str c, .int dy]) hk1
 have g := DGet.t (k := [Sum.inr c, Sum.inl dy]) (e1 _ _ hd) (show (upd H k1 (.tup [.str c, .int dy])) k1 = some (.tup (([Sum.inr c, Sum.inl dy] : List Key).map kV)) from Qab)
 rw [hval] at g
 refine ⟨_, rfl, p, C_Rates, dx, fs, _, rfl, (e1 _ _ hp), cl_Rates, n_known, hk, d, _, rfl, g, _, rfl, iteF ?_⟩
 refine ⟨_, rfl, _, rfl, True.intro, tp, bt, rfl, (fun z => absurd z (by omega)), fun _ => ⟨by omega, fun r hr1 => ?_⟩⟩
 have e2 := Qae (o := .tup [.int (Int.fdiv tp (N11.dF tp bt)), .int (Int.fdiv bt (N11.dF tp bt))]) hr1
 refine ⟨_, rfl, p, C_Rates, dx, fs, _, rfl, ((e1.trans e2) _ _ hp), cl_Rates, n_known, hk, _, rfl, _, rfl, (by show 2 ≤ sizeLine; decide), fun k2 hk2 => ?_⟩
 have e3 := Qae (o := .tup [.str c, .int dy]) hk2
 have e := (e1.trans e2).trans e3
 refine ⟨d, _, rfl, DPut.t (k := [Sum.inr c, Sum.inl dy]) (e _ _ hd) (show (upd _ k2 (.tup [.str c, .int dy])) k2 = some (.tup (([Sum.inr c, Sum.inl dy] : List Key).map kV)) from Qab) (by omega), ?_⟩
 rw [Qlu _ hval]
 have nr : r ≠ d := Qf2 (e1 _ _ hd) hr1
 refine q r _ ?_ ⟨⟨dx, fs, ?_, ht, hk, hno⟩, Qab, by rw [List.length_append]; show kvs.length + 1 ≤ 500; omega, fun k hkm => ?_⟩ fun b o eb hb => ?_
 ·rw [Qah nr]
  exact e3 _ _ Qab
 ·rw [Qah (Qbd hp hd (by intro z; cases z))]
  exact e _ _ hp
 ·rw [List.map_append] at hkm
  rcases List.mem_append.mp hkm with m | m
  ·exact hks k m
  ·exact ⟨c, dy, List.mem_singleton.mp m⟩
 ·rw [Qah hb]
  exact e _ _ eb
abbrev saj0 : Stmt := inClass (top 28) 3
theorem scaj0 : FnScope ["self", "amount", "coin", "day", "price"] ["self", "amount", "coin", "day"] (defScope saj0) := fsc
theorem okaj0 {C_Rates : Addr} (D : DefM K C_Rates "worth" "Rates.worth" saj0 .none) (cah0 : CalM P w K mg base CX0 true 3 C_Rates "rate" ["self", "coin", "day"] [] (spRate K C_Rates)) (cbn0 : Cal P w K mg base (CX1 P w) true 1 "nearest" ["top", "bottom"] [.int 1] (spNearest C_NoNumber)) (cl_Rates : Cls K C_Rates) (n_told : NoAttr K C_Rates "told") (n_known : NoAttr K C_Rates "known") : CalM P w K mg base CX0 true 4 C_Rates "worth" ["self", "amount", "coin", "day"] [] (SpW K C_Rates) := by
 obtain ⟨f, fd, F, hm⟩ := D
 obtain ⟨fah0, fdah0, dah0, Gah0, mah0, bah0, vah0, bah01⟩ := cah0
 obtain ⟨fbn0, fdbn0, dbn0, Gbn0, mbn0, kbn0, bbn0, vbn0, bbn01⟩ := cbn0
 refine ⟨f, fd, _, F.ok scaj0 (fun vs H Q E h => ?_) (fun cdv A outer s H vs Q E hr h => ?_), hm, (F.b4), .nil, F.b4⟩
 ·obtain ⟨⟨p, d, t, c, am, dy, kvs, rfl, R, ha, q1, q2⟩⟩ := h
  rfl
 obtain ⟨⟨p, d, t, c, am, dy, kvs, rfl, R, ha, q1, q2⟩⟩ := h
 have nd := scaj0.nd
 refine ⟨_, (Qad (Qal (i := 4) nd rfl (Or.inl rfl) (Qb8 (pv 0) cl_Rates mah0 Gah0 (hr.mono (by decide)) bah0 Paired.nil pass0 (Qaa (pv 2) (Qaa (pv 3) Qaf))))
  (Qag (Qaq (Qe7 Gbn0 (hr.mono (by decide)) rfl mbn0 kbn0 bbn0 Paired.nil Qi3 (Qaa (Qaj Qbe (pv 1) (Qax Qaw (pv 4) Qac (fun _ _ => rfl))) (Qaa (Qax Qaw (pv 4) Qac (fun _ _ => rfl)) Qaf)))))), ?_⟩
 obtain ⟨dx, fs, hp, ht, hk, hno⟩ := R.ob
 refine ⟨_, rfl, p, dx, fs, rfl, hp, hno "rate" (by decide+kernel), _, rfl, _, rfl, p, d, t, c, dy, kvs, rfl, R, (fun z r H' e h => ?_), fun z => ?_⟩
 ·have hT := SqT.of (K := K) h
  exact ⟨_, rfl, _, rfl, .inr (.inl ⟨r, _, 0, _, rfl, rfl, hT, rfl, _, _, rfl, rfl, Qb9 (by omega) (by omega) (by omega) (by omega), _, rfl, .inr (.inl ⟨r, _, 1, _, rfl, rfl, hT, rfl, True.intro, _, _, rfl, (fun w => absurd w (by decide)), fun _ => ⟨by decide, q1 z H' e⟩⟩)⟩)⟩
 ·obtain ⟨hne, q⟩ := q2 z
  refine ⟨hne, fun m hm hmx => ?_⟩
  obtain ⟨r, x, y, hv, hr1, x1, y1, y2, q⟩ := q m hm hmx
  refine ⟨.ref r, hv, fun H' e => ?_⟩
  have hT := SqT.of (K := K) (e _ _ hr1)
  exact ⟨_, rfl, _, rfl, .inr (.inl ⟨r, _, 0, _, rfl, rfl, hT, rfl, _, _, rfl, rfl, Qb9 (by omega) (by omega) (by omega) (by omega), _, rfl, .inr (.inl ⟨r, _, 1, _, rfl, rfl, hT, rfl, True.intro, _, _, rfl, (fun w => absurd w (by omega)), fun _ => ⟨by omega, q H' e⟩⟩)⟩)⟩
structure RtW (K : Q5) (C : Addr) (H : Hp) (rp d : Addr) (t : Str) (fs : List Str) (F : Int) (A : List (List Key × V)) (X Y : Str → Int) : Prop where
 ra : RatesAt K C H rp d t A
 kn : ∀ c ∈ fs, daysOf c F A ≠ [] ∧ ∀ m, m ∈ daysOf c F A → (∀ a ∈ daysOf c F A, a ≤ m) → ∃ r, valV A [Sum.inr c, Sum.inl m] = some (.ref r) ∧ H r = some (.tup [.int (X c), .int (Y c)])
 bx : ∀ c, (X c).natAbs ≤ 2 ^ 200
 b1 : ∀ c, 1 ≤ Y c
 b2 : ∀ c, Y c ≤ 2 ^ 200
 tx : X t = 1
 ty : Y t = 1
theorem RtW.same {K : Q5} {C : Addr} {H H' : Hp} {rp d : Addr} {t : Str} {fs : List Str} {F : Int} {A : List (List Key × V)} {X Y : Str → Int} (R : RtW K C H rp d t fs F A X Y) (e : Same H H') : RtW K C H' rp d t fs F A X Y := by
 obtain ⟨⟨⟨dx, gs, a, b⟩, c, ln, ks⟩, r2, r3, r4, r5, r6, r7⟩ := R
 refine ⟨⟨⟨dx, gs, e _ _ a, b⟩, e _ _ c, ln, ks⟩, fun c hc => ⟨(r2 c hc).1, fun m h1 h2 => ?_⟩, r3, r4, r5, r6, r7⟩
 obtain ⟨r, g1, g2⟩ := (r2 c hc).2 m h1 h2
 exact ⟨r, g1, e _ _ g2⟩
def wS (X Y : Str → Int) (c : Str) (a : Int) : Int := N13.nearZ (a * X c) (Y c)
theorem wS_odd {X Y : Str → Int} (h : ∀ c, 1 ≤ Y c) (c : Str) (a : Int) : wS X Y c (-a) = -wS X Y c a := by
 have h1 := N13.nearNeg (t := a * X c) (h c)
 unfold wS
 rw [Int.neg_mul, show -(a * X c) = 0 - a * X c by omega, h1]
 omega
theorem worthS {K : Q5} {C : Addr} {H : Hp} {rp d : Addr} {t : Str} {fs : List Str} {F : Int} {A : List (List Key × V)} {X Y : Str → Int} (R : RtW K C H rp d t fs F A X Y) {c : Str} (hc : c = t ∨ c ∈ fs) {am dy : Int} (hF : F = dy) (ha : am.natAbs ≤ 2 ^ 200) {Q : VK} {E : XK}
 (q : ∀ H', Same H H' → Q (.int (wS X Y c am)) H') : SpW K C [.ref rp, .int am, .str c, .int dy] H Q E := by
 subst hF
 refine ⟨rp, d, t, c, am, F, _, rfl, R.ra, ha, fun z H' e => ?_, fun z => ?_⟩
 ·have h := q H' e
  unfold wS at h
  rw [z, R.tx, R.ty] at h
  exact h
 ·have hm : c ∈ fs := hc.elim (fun w => absurd w z) id
  refine ⟨(R.kn c hm).1, fun m m1 m2 => ?_⟩
  obtain ⟨r, g1, g2⟩ := (R.kn c hm).2 m m1 m2
  exact ⟨r, X c, Y c, g1, g2, R.bx c, R.b1 c, R.b2 c, q⟩
theorem Qnp (W : Str → Int → Int) (L : List (N22.Rv Str)) : (N25.fw W L).length = L.length := List.length_map ..
theorem Qo0 (W : Str → Int → Int) {L : List Sd} {i : Nat} {z : Sd} (h : L[i]? = some z) : N25.fw W (vls (L.take (i + 1))) = N25.fw W (vls (L.take i)) ++ [(z.2.1, W z.2.2.2.1 z.2.2.2.2)] := by
 rw [Qhd h]
 unfold N25.fw
 rw [List.map_append]
 rfl
theorem kvG_at {P : List (Str × Int)} {i : Nat} {kv : Key × V} (h : (kvG kS P)[i]? = some kv) : ∃ f, (N21.rs P)[i]? = some (f, N21.tot f P) ∧ kv = (kS f, V.int (N21.tot f P)) := by
 unfold kvG at h
 unfold N21.rs
 rw [List.getElem?_map] at h ⊢
 cases e : (N21.firsts (P.map (·.1)))[i]? with
 | none => rw [e] at h; cases h
 | some c => rw [e] at h; exact ⟨c, rfl, (Option.some.inj h).symm⟩
theorem kvG_rs (P : List (Str × Int)) : (kvG kS P).length = (N21.rs P).length := by
 unfold kvG N21.rs
 rw [List.length_map, List.length_map]
theorem Qlr (ro t : Str) {P : List (Str × Int)} {i : Nat} {p : Str × Int} (h : (N21.rs P)[i]? = some p) : ((N21.rs P).take (i + 1)).flatMap (N25.rone ro t) = ((N21.rs P).take i).flatMap (N25.rone ro t) ++ N25.rone ro t p := by
 rw [List.take_succ, h, List.flatMap_append]
 simp
def spLined (K : Q5) (C : Addr) : Sp := fun vs H Q _ => ∃ (l rp d : Addr) (dy F : Int) (t : Str) (fs : List Str) (A : List (List Key × V)) (X Y : Str → Int) (L : List Sd), vs = [.ref l, .int dy, .ref rp] ∧ H l = some (.lst (rfs L)) ∧ RT H L ∧ L.length ≤ 20000 ∧ RtW K C H rp d t fs F A X Y ∧ F = dy ∧ (∀ z ∈ L, (z.2.2.2.1 = t ∨ z.2.2.2.1 ∈ fs) ∧ z.2.2.2.2.natAbs ≤ 2 ^ 200) ∧
 ∀ (p : Addr) (M : List Ln) H', Same H H' → H p = none → H' p = some (.lst (rf5 M)) → R5 H' M → M.map (·.2) = N25.lines (wS X Y) "*rounding" t (vls L) → M.length ≤ 2 * L.length → Q (.ref p) H'
def spEntry (K : Q5) (C : Addr) : Sp := fun vs H Q _ => ∃ (l rp d : Addr) (dy F : Int) (t : Str) (fs : List Str) (A : List (List Key × V)) (X Y : Str → Int) (L : List Sd), vs = [.ref l, .int dy, .ref rp] ∧ H l = some (.lst (rfs L)) ∧ RT H L ∧ L.length ≤ 60 ∧ (∀ z ∈ L, Let z.2.1) ∧ (∀ z ∈ L, N21.tot z.2.2.2.1 (prs L) = 0) ∧ RtW K C H rp d t fs F A X Y ∧ F = dy ∧ (∀ z ∈ L, (z.2.2.2.1 = t ∨ z.2.2.2.1 ∈ fs) ∧ z.2.2.2.2.natAbs ≤ 2 ^ 145) ∧
 ∀ (p : Addr) (M : List Ln) H', Same H H' → H p = none → H' p = some (.lst (rf5 M)) → R5 H' M → M.map (·.2) = N25.lines (wS X Y) "*rounding" t (vls L ++ dvs L (cns L)) → M.length ≤ 21000 → Q (.ref p) H'
theorem Qh9 {s : Str} {t : Str → Str → Int} {T C : List Str} {v : N22.Rv Str} (h : v ∈ N22.dues due s t T C) : ∃ f c, f ∈ T ∧ c ∈ C ∧ (v = (f, due s, c, -t f c) ∨ v = (s, due f, c, t f c)) := by
 unfold N22.dues at h
 obtain ⟨f, hf, h⟩ := List.mem_flatMap.mp h
 unfold N22.rowDue at h
 obtain ⟨c, hc, h⟩ := List.mem_flatMap.mp h
 unfold N22.oneDue at h
 split at h
 ·refine ⟨f, c, hf, hc, ?_⟩
  rcases List.mem_cons.mp h with w | w
  ·exact .inl w
  ·exact .inr (List.mem_singleton.mp w)
 ·cases h
theorem Qhf {B : Nat} {L : List Sd} (h : ∀ z ∈ L, z.2.2.2.2.natAbs ≤ B) (f c : Str) : (tf L f c).natAbs ≤ L.length * B := by
 unfold tf
 rw [N25.Qex]
 have := N25.Qhh B (fun z : N22.Rv Str => if N22.pFC f c z = true then z.2.2.2 else 0) (vls L) fun v hv => by
  obtain ⟨z, hz, rfl⟩ := List.mem_map.mp hv
  have := h z hz
  show (if N22.pFC f c z.2 = true then z.2.2.2.2 else 0).natAbs ≤ B
  split
  ·exact this
  ·exact Nat.zero_le _
 rw [Qdo] at this
 exact this
theorem Qk8 {L : List Sd} {c : Str} (h : c ∈ cns L) : ∃ z ∈ L, z.2.2.2.1 = c := by
 obtain ⟨p, hp, e⟩ := List.mem_map.mp (N21.Qa2.mp h)
 obtain ⟨z, hz, rfl⟩ := List.mem_map.mp hp
 exact ⟨z, hz, e⟩
theorem Qmm {L : List Sd} {v : N22.Rv Str} (h : v ∈ dvs L (cns L)) : (∃ z ∈ L, z.2.2.2.1 = v.2.2.1) ∧ (∃ x, v.2.1 = due x ∧ ((∃ z ∈ L, z.2.1 = x) ∨ x = "")) ∧ ∀ B, (∀ z ∈ L, z.2.2.2.2.natAbs ≤ B) → v.2.2.2.natAbs ≤ L.length * B := by
 obtain ⟨f, c, hf, hc, e⟩ := Qh9 h
 obtain ⟨z, hz, ez⟩ := Qk8 hc
 have hf2 := Qde (List.mem_of_mem_drop hf)
 have hs : (∃ z ∈ L, z.2.1 = (frm L).headD "") ∨ (frm L).headD "" = "" := by
  cases e : frm L with
  | nil => exact .inr rfl
  | cons a r => exact .inl (Qde (by rw [e]; exact List.mem_cons_self))
 rcases e with rfl | rfl
 ·exact ⟨⟨z, hz, ez⟩, ⟨_, rfl, hs⟩, fun B hB => by rw [Int.natAbs_neg]; exact Qhf hB f c⟩
 ·exact ⟨⟨z, hz, ez⟩, ⟨_, rfl, .inl hf2⟩, fun B hB => Qhf hB f c⟩
theorem scbp0 : FnScope ["sides", "rests", "firm", "account", "coin", "amount"] ["sides"] (defScope sbp0) := fsc
theorem okbp0 (D : Def K mg "rests_of" sbp0 .none) (z_list : mg "list" = none) : Cal P w K mg base CX0 true 1 "rests_of" ["sides"] [] spRests := by
 obtain ⟨f, fd, F, hm⟩ := D
 refine ⟨f, fd, _, F.ok scbp0 (fun vs H Q E h => ?_) (fun cdv A outer s H vs Q E hr h => ?_), hm, F.kp, (F.b1), .nil, F.b1⟩
 ·obtain ⟨l, L, rfl, hl, hL, hlen, q⟩ := h
  rfl
 obtain ⟨l, L, rfl, hl, hL, hlen, q⟩ := h
 have nd := scbp0.nd
 refine ⟨_, (Qad (Qal (i := 1) nd rfl (Or.inl rfl) Qcu)
  (Qad (Qa8 PassesOwn.never rfl (Qar (pv 0)) (Qcc rfl (Qam (Qak (i := 2) nd rfl (Or.inl rfl)) (Qam (Qak (i := 3) nd rfl (Or.inl rfl)) (Qam (Qak (i := 4) nd rfl (Or.inl rfl)) (Qam (Qak (i := 5) nd rfl (Or.inl rfl)) Qbx))))) (Qag (Qb7 (Qbl hr) (pv 1) (pv 4) (Qaj Qa1 (Qck (Qbl hr) (pv 1) (pv 4) Qac ⟨rfl, rfl, rfl, rfl⟩) (pv 5)) rfl)))
  (Qag (Qaq (Qby (Qd9 rfl) rfl z_list Qcs (Qaa (Qjv PySem.F.plainAttrs_dict PySem.F.slot_dict_items PySem.F.type_dict_items Qhv (pv 1)) Qaf)))))), ?_⟩
 have hline : 10 ^ 6 ≤ sizeLine := by decide
 refine fun d hd => ?_
 have e1 := Qae (o := .dK []) hd
 refine ⟨_, rfl, l, rfl, ⟨_, SqL.of (e1 _ _ hl)⟩, ?_⟩
 refine Qaz (xs := rfs L) (fun i σ H' => ∃ (o2 o3 o4 o5 : Option V), σ = [some (.ref l), some (.ref d), o2, o3, o4, o5] ∧ Same H H' ∧ H' d = some (.dK (kvG kS (prs (L.take i))))) ⟨_, _, _, _, rfl, e1, Qab⟩ ?_ ?_ ?_
 ·rintro i σ H1 hi ⟨o2, o3, o4, o5, rfl, e, _⟩
  exact SqL.of (e _ _ hl)
 ·rintro i x σ H1 hx ⟨o2, o3, o4, o5, rfl, e, hdd⟩
  obtain ⟨z, hz, rfl⟩ := Qem hx
  have hzz := e _ _ (hL z (List.mem_of_getElem? hz))
  have hkl := Qdd kS (prs (L.take i))
  rw [Qe2, List.length_take] at hkl
  refine ⟨z.1, _, rfl, SqT.of hzz, rfl, _, _, rfl, _, _, rfl, _, _, rfl, _, _, rfl, rfl, ?_⟩
  refine ⟨_, rfl, d, rfl, .inl ⟨_, .inl hdd⟩, _, rfl, _, DGet.k (k := kS z.2.2.2.1) hdd, _, rfl, _, _, Qd2 kS Qc3 _ _, rfl, _, rfl, _, rfl, d, _, rfl, DPut.k (k := kS z.2.2.2.1) hdd (by omega), ?_⟩
  refine ⟨_, _, _, _, rfl, Qat e hd, ?_⟩
  rw [Qab, Qfd kS Qc3, Qe1 hz]
 rintro σ H1 ⟨o2, o3, o4, o5, rfl, e, hdd⟩
 rw [Qbc, List.take_length] at hdd
 refine ⟨_, rfl, .inr (.inr (.inl ⟨rfl, .inl ⟨_, hdd⟩⟩)), d, _, rfl, rfl, hdd, fun v hv => ?_⟩
 have e2 := Qae (o := ivw v d) hv
 refine ⟨v, d, _, rfl, Qab, e2 _ _ hdd, fun p as H' e3 hp0 hp hal hpr => ?_⟩
 obtain ⟨z1, z2⟩ := kv_zip as (prs L) hal
 refine q p (as.zip (N21.rs (prs L))) H' ((e.trans e2).trans e3) ((e.trans e2).free hp0) (by rw [z1]; exact hp) z2 fun z hz => ?_
 obtain ⟨j, hj⟩ := List.mem_iff_getElem?.mp hz
 have hj1 : as[j]? = some z.1 := by
  have := congrArg (Option.map Prod.fst) hj
  rw [← List.getElem?_map] at this
  rw [List.map_fst_zip (by rw [hal]; unfold kvG N21.rs; rw [List.length_map, List.length_map]; exact Nat.le_refl _)] at this
  exact this
 have hj2 : (N21.rs (prs L))[j]? = some z.2 := by
  have := congrArg (Option.map Prod.snd) hj
  rw [← List.getElem?_map] at this
  rw [List.map_snd_zip (by rw [hal]; unfold kvG N21.rs; rw [List.length_map, List.length_map]; exact Nat.le_refl _)] at this
  exact this
 have hj3 : (kvG kS (prs L))[j]? = some (kS z.2.1, V.int z.2.2) := by
  unfold N21.rs at hj2
  unfold kvG
  rw [List.getElem?_map] at hj2 ⊢
  cases h : (N21.firsts ((prs L).map (·.1)))[j]? with
  | none => rw [h] at hj2; cases hj2
  | some c =>
    rw [h] at hj2
    rw [← Option.some.inj hj2]
    rfl
 exact hpr j z.1 _ hj1 hj3
theorem scbj0 : FnScope ["sides", "rests", "firm", "account", "coin", "amount"] ["sides"] (defScope sbj0) := fsc
theorem okbj0 (D : Def K mg "half_rests" sbj0 .none) : Cal P w K mg base CX0 true 1 "half_rests" ["sides"] [] spHalf := by
 obtain ⟨f, fd, F, hm⟩ := D
 refine ⟨f, fd, _, F.ok scbj0 (fun vs H Q E h => ?_) (fun cdv A outer s H vs Q E hr h => ?_), hm, F.kp, (F.b1), .nil, F.b1⟩
 ·obtain ⟨l, L, rfl, hl, hL, hlen, q⟩ := h
  rfl
 obtain ⟨l, L, rfl, hl, hL, hlen, q⟩ := h
 have nd := scbj0.nd
 refine ⟨_, (Qad (Qal (i := 1) nd rfl (Or.inl rfl) Qdn)
  (Qad (Qa8 PassesOwn.never rfl (Qar (pv 0)) (Qcc rfl (Qam (Qak (i := 2) nd rfl (Or.inl rfl)) (Qam (Qak (i := 3) nd rfl (Or.inl rfl)) (Qam (Qak (i := 4) nd rfl (Or.inl rfl)) (Qam (Qak (i := 5) nd rfl (Or.inl rfl)) Qbx))))) (Qag (Qb7 (Qbl hr) (pv 1) (Qay (Qaa (pv 2) (Qaa (pv 4) Qaf))) (Qaj Qa1 (Qck (Qbl hr) (pv 1) (Qay (Qaa (pv 2) (Qaa (pv 4) Qaf))) Qac ⟨rfl, rfl, rfl, rfl⟩) (pv 5)) rfl)))
  (Qag (Qaq (pv 1))))), ?_⟩
 have hline : 600 ≤ sizeLine := by decide
 refine fun d hd => ?_
 have e1 := Qae (o := .dT []) hd
 refine ⟨_, rfl, l, rfl, ⟨_, SqL.of (e1 _ _ hl)⟩, ?_⟩
 refine Qaz (xs := rfs L) (fun i σ H' => ∃ (o2 o3 o4 o5 : Option V), σ = [some (.ref l), some (.ref d), o2, o3, o4, o5] ∧ Same H H' ∧ H' d = some (.dT (kvG kT (p2 (L.take i))))) ⟨_, _, _, _, rfl, e1, Qab⟩ ?_ ?_ ?_
 ·rintro i σ H1 hi ⟨o2, o3, o4, o5, rfl, e, _⟩
  exact SqL.of (e _ _ hl)
 ·rintro i x σ H1 hx ⟨o2, o3, o4, o5, rfl, e, hdd⟩
  obtain ⟨z, hz, rfl⟩ := Qem hx
  have hzz := e _ _ (hL z (List.mem_of_getElem? hz))
  have hkl := Qdd kT (p2 (L.take i))
  rw [p2_len, List.length_take] at hkl
  refine ⟨z.1, _, rfl, SqT.of hzz, rfl, _, _, rfl, _, _, rfl, _, _, rfl, _, _, rfl, rfl, ?_⟩
  refine ⟨_, rfl, d, rfl, .inr ⟨_, .inl hdd⟩, _, rfl, _, rfl, (by show 2 ≤ sizeLine; decide), fun k1 hk1 => ?_⟩
  have f1 := Qae (o := .tup [.str z.2.1, .str z.2.2.2.1]) hk1
  refine ⟨_, DGet.t (k := kT (z.2.1, z.2.2.2.1)) (f1 _ _ hdd) (show (upd H1 k1 (.tup [.str z.2.1, .str z.2.2.2.1])) k1 = some (.tup ((kT (z.2.1, z.2.2.2.1)).map kV)) from Qab), _, rfl, _, _, Qd2 kT Qkg _ _, rfl, _, rfl, _, rfl, _, rfl, (by show 2 ≤ sizeLine; decide), fun k2 hk2 => ?_⟩
  have f2 := Qae (o := .tup [.str z.2.1, .str z.2.2.2.1]) hk2
  have f12 := f1.trans f2
  refine ⟨d, _, rfl, DPut.t (k := kT (z.2.1, z.2.2.2.1)) (f12 _ _ hdd) (show (upd _ k2 (.tup [.str z.2.1, .str z.2.2.2.1])) k2 = some (.tup ((kT (z.2.1, z.2.2.2.1)).map kV)) from Qab) (by omega), ?_⟩
  refine ⟨_, _, _, _, rfl, Qat (e.trans f12) hd, ?_⟩
  rw [Qab, Qfd kT Qkg, Qoh hz]
 rintro σ H1 ⟨o2, o3, o4, o5, rfl, e, hdd⟩
 rw [Qbc, List.take_length] at hdd
 exact ⟨_, rfl, q d _ e hdd⟩
theorem scbh0 : FnScope ["sides"] ["sides"] (defScope sbh0) := fsc
theorem okbh0 (D : Def K mg "firms_in" sbh0 .none) (z_list : mg "list" = none) (z_dict : mg "dict" = none) : Cal P w K mg base CX0 true 1 "firms_in" ["sides"] [] spFirmsIn := by
 obtain ⟨f, fd, F, hm⟩ := D
 refine ⟨f, fd, _, F.ok scbh0 (fun vs H Q E h => ?_) (fun cdv A outer s H vs Q E hr h => ?_), hm, F.kp, (F.b1), .nil, F.b1⟩
 ·obtain ⟨l, L, rfl, hl, hL, hlen, q⟩ := h
  rfl
 obtain ⟨l, L, rfl, hl, hL, hlen, q⟩ := h
 have nd := scbh0.nd
 refine ⟨_, (Qag (Qaq (Qby (Qei rfl) rfl z_list Qcs (Qaa (Qby (Qgf rfl) rfl z_dict Qpb (Qaa (Qe5 [] rfl (LcOk.plain (by decide+kernel) (by decide+kernel) rfl (by decide+kernel) rfl) (Qar (pv 0)) (fun C s2 H2 fp xe => (Qay (Qaa (Qax Qbk (pv 0) Qac (fun _ _ => rfl)) (Qaa Qgz Qaf))))) Qaf)) Qaf)))), ?_⟩
 have hline : 10 ^ 6 ≤ sizeLine := by decide
 refine ⟨_, rfl, l, rfl, ⟨_, SqL.of hl⟩, ?_⟩
 refine Qcm (xs := rfs L) (fun i ys H' => ∃ T : List (Addr × Key × V), ys = T.map (fun y => V.ref y.1) ∧ T.map (·.2) = ((L.take i).map (·.2.1)).map (fun c => ((Sum.inr c : Key), V.bl true)) ∧ Same H H' ∧ ∀ y ∈ T, H' y.1 = some (.tup [kV y.2.1, y.2.2])) ⟨[], rfl, rfl, Same.refl _, fun y hy => nomatch hy⟩ (by rw [Qbc]; omega) ?_ ?_ ?_
 ·rintro i ys H1 hi ⟨T, rfl, hT, e, _⟩
  refine ⟨SqL.of (e _ _ hl), ?_⟩
  have := congrArg List.length hT
  rw [List.length_map, List.length_map, List.length_map, List.length_take] at this
  rw [Qbc] at hi
  rw [List.length_map]
  omega
 ·rintro i x ys H1 hx ⟨T, rfl, hT, e, ht⟩
  obtain ⟨z, hz, rfl⟩ := Qem hx
  have hzz := e _ _ (hL z (List.mem_of_getElem? hz))
  refine ⟨_, rfl, .inr (.inl ⟨z.1, _, 0, _, rfl, rfl, SqT.of hzz, rfl, (by show 2 ≤ sizeLine; decide), fun tp htp => ?_⟩)⟩
  have f1 := Qae (o := .tup [.str z.2.1, .bl true]) htp
  refine ⟨T ++ [(tp, Sum.inr z.2.1, .bl true)], by rw [List.map_append]; rfl, ?_, e.trans f1, fun y hy => ?_⟩
  ·rw [List.map_append, hT, List.take_succ, hz, List.map_append, List.map_append]
   rfl
  ·rcases List.mem_append.mp hy with w | w
   ·exact f1 _ _ (ht y w)
   ·rw [List.mem_singleton.mp w]
    exact Qab
 rintro ys H1 ⟨T, rfl, hT, e, ht⟩ l2 hl2
 rw [Qbc, List.take_length] at hT
 have f1 := Qae (o := .lst (T.map (fun y => V.ref y.1))) hl2
 have hTl : T.length = L.length := by
  have := congrArg List.length hT
  rw [List.length_map, List.length_map, List.length_map] at this
  exact this
 refine ⟨l2, T, rfl, Qab, by omega, (fun y hy => f1 _ _ (ht y hy)), fun d hd => ?_⟩
 have f2 := Qae (o := .dK (putAll [] (T.map (·.2)))) hd
 refine ⟨d, _, rfl, Qab, fun p hp => ?_⟩
 have f3 := Qae (o := .lst ((putAll [] (T.map (·.2))).map fun kv => kV kv.1)) hp
 refine q p _ (((e.trans f1).trans f2).trans f3) ?_
 rw [Qab, hT]
 have h := Qep (L.map (·.2.1)) []
 rw [List.map_nil] at h
 rw [h, List.map_map]
 rfl
theorem scbe0 : FnScope ["sides", "coins", "firms", "rests", "added", "firm", "coin", "rest"] ["sides", "coins"] (defScope sbe0) := fsc
theorem okbe0 (D : Def K mg "dues_added" sbe0 .none) (cbh0 : Cal P w K mg base CX0 true 1 "firms_in" ["sides"] [] spFirmsIn) (cbj0 : Cal P w K mg base CX0 true 1 "half_rests" ["sides"] [] spHalf) : Cal P w K mg base CX0 true 2 "dues_added" ["sides", "coins"] [] spAdd := by
 obtain ⟨f, fd, F, hm⟩ := D
 obtain ⟨fbh0, fdbh0, dbh0, Gbh0, mbh0, kbh0, bbh0, vbh0, bbh01⟩ := cbh0
 obtain ⟨fbj0, fdbj0, dbj0, Gbj0, mbj0, kbj0, bbj0, vbj0, bbj01⟩ := cbj0
 refine ⟨f, fd, _, F.ok scbe0 (fun vs H Q E h => ?_) (fun cdv A outer s H vs Q E hr h => ?_), hm, F.kp, (F.b2), .nil, F.b2⟩
 ·obtain ⟨l, cl, L, cs, rfl, hl, hL, hlen, hLt, hc, hcs, q⟩ := h
  rfl
 obtain ⟨l, cl, L, cs, rfl, hl, hL, hlen, hLt, hc, hcs, q⟩ := h
 have nd := scbe0.nd
 refine ⟨_, (Qad (Qal (i := 2) nd rfl (Or.inl rfl) (Qan Gbh0 (hr.mono (by decide)) rfl mbh0 kbh0 bbh0 Paired.nil pass0 (Qaa (pv 0) Qaf)))
  (Qad (Qal (i := 3) nd rfl (Or.inl rfl) (Qan Gbj0 (hr.mono (by decide)) rfl mbj0 kbj0 bbj0 Paired.nil pass0 (Qaa (pv 0) Qaf)))
  (Qad (Qal (i := 4) nd rfl (Or.inl rfl) (Qb4 Qaf))
  (Qad (Qa8 PassesOwn.never rfl (Qar (Qb1 Qc8 (pv 2) (Qb3 Qac) Qco)) (Qak (i := 5) nd rfl (Or.inl rfl)) (Qag (Qa8 PassesOwn.never rfl (Qar (pv 1)) (Qak (i := 6) nd rfl (Or.inl rfl)) (Qad (Qal (i := 7) nd rfl (Or.inl rfl) (Qck (Qbl hr) (pv 3) (Qay (Qaa (pv 5) (Qaa (pv 6) Qaf))) Qac ⟨rfl, rfl, rfl, rfl⟩))
  (Qag (Qbq (Qap Qee (pv 7) Qac (nomark _)) (Qad (Qbg (Qc1 PySem.F.plainAttrs_list PySem.F.slot_list_append PySem.F.type_list_append Qbj (pv 4) (Qaa (Qay (Qaa (pv 5) (Qaa (Qaj Qdb Qbz (Qax Qaw (pv 2) Qac (fun _ _ => rfl))) (Qaa (pv 6) (Qaa (Qgx Qdq (pv 7)) Qaf))))) Qaf)))
  (Qag (Qbg (Qc1 PySem.F.plainAttrs_list PySem.F.slot_list_append PySem.F.type_list_append Qbj (pv 4) (Qaa (Qay (Qaa (Qax Qaw (pv 2) Qac (fun _ _ => rfl)) (Qaa (Qaj Qdb Qbz (pv 5)) (Qaa (pv 6) (Qaa (pv 7) Qaf))))) Qaf))))) Qas))))))
  (Qag (Qaq (pv 4))))))), ?_⟩
 have hline : 10 ^ 6 ≤ sizeLine := by decide
 refine ⟨_, rfl, l, L, rfl, hl, hL, hlen, fun fp H1 e1 hfp => ?_⟩
 refine ⟨_, rfl, l, L, rfl, e1 _ _ hl, hL.same e1, hlen, fun d H2 e2 hd => ?_⟩
 have e12 := e1.trans e2
 have hf2 := e2 _ _ hfp
 have hFl := Qo1 L
 refine ⟨(by show 0 ≤ sizeLine; decide), fun p hp => ?_⟩
 have e3 := Qae (o := .lst []) hp
 refine ⟨_, rfl, _, rfl, fp, _, rfl, SqL.of (e3 _ _ hf2), fun sl hsl => ⟨sl, rfl, ⟨_, SqL.of Qab⟩, ?_⟩⟩
 rw [cut1]
 have nps : p ≠ sl := Qai Qab hsl
 have e4 := Qae (o := .lst (((frm L).drop 1).map V.str)) hsl
 have ldr : (((frm L).drop 1).map V.str).length ≤ 60 := by rw [List.length_map, List.length_drop]; omega
 refine Qaz (xs := ((frm L).drop 1).map V.str) (fun i σ H' => ∃ (o5 o6 o7 : Option V) (D : List Sd), σ = [some (.ref l), some (.ref cl), some (.ref fp), some (.ref d), some (.ref p), o5, o6, o7] ∧ Same H2 H' ∧ H' sl = some (.lst (((frm L).drop 1).map V.str)) ∧ H' p = some (.lst (rfs D)) ∧ RT H' D ∧ vls D = N22.dues due ((frm L).headD "") (tf L) (((frm L).drop 1).take i) cs ∧ D.length ≤ 120 * i) ⟨_, _, _, [], rfl, e3.trans e4, Qab, e4 _ _ Qab, (fun z hz => nomatch hz), rfl, Nat.le_refl _⟩ ?_ ?_ ?_
 ·rintro i σ H3 hi ⟨o5, o6, o7, D, rfl, e, hs, _⟩
  exact SqL.of hs
 ·rintro i x σ H3 hx ⟨o5, o6, o7, D, rfl, e, hs, hpp, hD, hv, hDl⟩
  have hi60 : i < 60 := by
   have := (List.getElem?_eq_some_iff.mp hx).1
   omega
  obtain ⟨f, hf, rfl⟩ := Qce hx
  have hcl := e _ _ (e12 _ _ hc)
  obtain ⟨s0, T0, hFs⟩ : ∃ s0 T0, frm L = s0 :: T0 := by
   cases h : frm L with
   | nil => rw [h] at hf; simp at hf
   | cons a r => exact ⟨a, r, rfl⟩
  have hs0 : atI ((frm L).map V.str) 0 = some (.str ((frm L).headD "")) := by
   rw [hFs]
   show atI ((s0 :: T0).map V.str) ((0 : Nat) : Int) = _
   exact Qct rfl
  have hsL : Let ((frm L).headD "") := by
   obtain ⟨z, hz, ez⟩ := Qde (L := L) (f := (frm L).headD "") (by rw [hFs]; exact List.mem_cons_self)
   rw [← ez]
   exact hLt z hz
  have hfL : Let f := by
   obtain ⟨z, hz, ez⟩ := Qde (L := L) (f := f) (List.mem_of_mem_drop (List.mem_of_getElem? hf))
   rw [← ez]
   exact hLt z hz
  refine ⟨_, rfl, cl, rfl, ⟨_, SqL.of hcl⟩, ?_⟩
  refine Qaz (xs := cs.map V.str) (fun j σ H' => ∃ (o6 o7 : Option V) (D : List Sd), σ = [some (.ref l), some (.ref cl), some (.ref fp), some (.ref d), some (.ref p), some (.str f), o6, o7] ∧ Same H2 H' ∧ H' sl = some (.lst (((frm L).drop 1).map V.str)) ∧ H' p = some (.lst (rfs D)) ∧ RT H' D ∧ vls D = N22.dues due ((frm L).headD "") (tf L) (((frm L).drop 1).take i) cs ++ (cs.take j).flatMap (N22.oneDue due ((frm L).headD "") (tf L) f) ∧ D.length ≤ 120 * i + 2 * j) ⟨_, _, D, rfl, e, hs, hpp, hD, by rw [hv]; simp, by omega⟩ ?_ ?_ ?_
  ·rintro j σ H4 hj ⟨o6, o7, D, rfl, e', _⟩
   exact SqL.of (e' _ _ (e12 _ _ hc))
  ·clear e hs hpp hD hv hDl hcl
   rintro j x σ H4 hx2 ⟨o6, o7, D, rfl, e, hs, hpp, hD, hv, hDl⟩
   have hj60 : j < 60 := by
    have := (List.getElem?_eq_some_iff.mp hx2).1
    rw [List.length_map] at this
    omega
   obtain ⟨c, hcj, rfl⟩ := Qce hx2
   have hdd := e _ _ hd
   refine ⟨_, rfl, d, rfl, .inr ⟨_, .inl hdd⟩, _, rfl, _, rfl, (by show 2 ≤ sizeLine; decide), fun k1 hk1 => ?_⟩
   have f1 := Qae (o := .tup [.str f, .str c]) hk1
   refine ⟨_, DGet.t (k := kT (f, c)) (f1 _ _ hdd) (show (upd H4 k1 (.tup [.str f, .str c])) k1 = some (.tup ((kT (f, c)).map kV)) from Qab), ?_⟩
   rw [Qd2 kT Qkg, Qm1]
   have e1' := e.trans f1
   have hs1 := f1 _ _ hs
   have hp1 := f1 _ _ hpp
   have hD1 := hD.same f1
   refine ⟨_, rfl, rfl, _, rfl, ?_⟩
   refine ndec2 (fun hne => ?_) (fun hz => ?_)
   ·have hne' : tf L f c ≠ 0 := fun z => hne (congrArg V.int z)
    have hfp1 := e1' _ _ hf2
    refine ⟨_, rfl, .inl ⟨rfl, _, SqL.of hp1⟩, _, rfl, _, rfl, .inl ⟨fp, _, 0, _, rfl, rfl, SqL.of hfp1, hs0, _, _, rfl, rfl, due5 hsL.2, _, rfl, _, rfl, _, rfl, (by show 4 ≤ sizeLine; decide), fun t1 ht1 => ?_⟩⟩
    have f2 := Qae (o := .tup [.str f, .str (due ((frm L).headD "")), .str c, .int (-tf L f c)]) ht1
    refine ⟨p, _, _, rfl, rfl, f2 _ _ hp1, (by rw [Qbc]; omega), ?_⟩
    have e2' := Qat (o := .lst (rfs D ++ [.ref t1])) (e1'.trans f2) hp
    have hp2 : (upd (upd (upd H4 k1 (.tup [.str f, .str c])) t1 (.tup [.str f, .str (due ((frm L).headD "")), .str c, .int (-tf L f c)])) p (.lst (rfs D ++ [.ref t1]))) p = some (.lst (rfs D ++ [.ref t1])) := Qab
    have ht1' : (upd (upd (upd H4 k1 (.tup [.str f, .str c])) t1 (.tup [.str f, .str (due ((frm L).headD "")), .str c, .int (-tf L f c)])) p (.lst (rfs D ++ [.ref t1]))) t1 = some (.tup [.str f, .str (due ((frm L).headD "")), .str c, .int (-tf L f c)]) := Qbv Qab (f2 _ _ hp1)
    have hD2 : RT (upd (upd (upd H4 k1 (.tup [.str f, .str c])) t1 (.tup [.str f, .str (due ((frm L).headD "")), .str c, .int (-tf L f c)])) p (.lst (rfs D ++ [.ref t1]))) D := fun z hz => Qbv (f2 _ _ (hD1 z hz)) (f2 _ _ hp1)
    have hs2 : (upd (upd (upd H4 k1 (.tup [.str f, .str c])) t1 (.tup [.str f, .str (due ((frm L).headD "")), .str c, .int (-tf L f c)])) p (.lst (rfs D ++ [.ref t1]))) sl = some (.lst (((frm L).drop 1).map V.str)) := by
     rw [Qah (Ne.symm nps)]
     exact f2 _ _ hs1
    refine ⟨_, rfl, .inl ⟨rfl, _, SqL.of hp2⟩, _, rfl, .inl ⟨fp, _, 0, _, rfl, rfl, SqL.of (e2' _ _ hf2), hs0, _, rfl, _, _, rfl, rfl, due5 hfL.2, _, rfl, _, rfl, (by show 4 ≤ sizeLine; decide), fun t2 ht2 => ?_⟩⟩
    have f3 := Qae (o := .tup [.str ((frm L).headD ""), .str (due f), .str c, .int (tf L f c)]) ht2
    refine ⟨p, _, _, rfl, rfl, f3 _ _ hp2, (by rw [List.length_append, Qbc]; show D.length + 1 < sizeLine; omega), ?_⟩
    refine ⟨_, _, D ++ [(t1, f, due ((frm L).headD ""), c, -tf L f c), (t2, (frm L).headD "", due f, c, tf L f c)], rfl, Qat (e2'.trans f3) hp, ?_, ?_, ?_, ?_, ?_⟩
    ·rw [Qah (Ne.symm nps)]
     exact f3 _ _ hs2
    ·rw [Qab, Qdv, List.append_assoc]
     rfl
    ·intro z hz
     rcases List.mem_append.mp hz with w | w
     ·exact Qbv (f3 _ _ (hD2 z w)) (f3 _ _ hp2)
     ·simp only [List.mem_cons, List.not_mem_nil, or_false] at w
      rcases w with rfl | rfl
      ·exact Qbv (f3 _ _ ht1') (f3 _ _ hp2)
      ·exact Qbv Qab (f3 _ _ hp2)
    ·rw [Qi4, hv, Qhj _ _ _ hcj, List.append_assoc]
     congr 2
     unfold N22.oneDue
     rw [if_pos hne']
     rfl
    ·rw [List.length_append]
     show D.length + 2 ≤ _
     omega
   ·refine ⟨_, _, D, rfl, e1', hs1, hp1, hD1, ?_, by omega⟩
    rw [hv, Qhj _ _ _ hcj]
    have : N22.oneDue due ((frm L).headD "") (tf L) f c = [] := by
     unfold N22.oneDue
     rw [if_neg (by simpa using V.int.inj hz)]
    rw [this, List.append_nil]
  ·clear e hs hpp hD hv hDl hcl
   rintro σ H4 ⟨o6, o7, D, rfl, e, hs, hpp, hD, hv, hDl⟩
   rw [List.length_map] at hv hDl
   rw [List.take_length] at hv
   refine ⟨_, _, _, D, rfl, e, hs, hpp, hD, ?_, by omega⟩
   rw [hv, Qky _ _ _ hf]
   rfl
 rintro σ H3 ⟨o5, o6, o7, D, rfl, e, hs, hpp, hD, hv, hDl⟩
 rw [List.length_map, List.take_length] at hv
 exact ⟨_, rfl, q p D _ (e12.trans e) (e12.free hp) hpp hD hv (by omega)⟩
theorem scbq0 : FnScope ["sides", "rests", "coin", "rest"] ["sides"] (defScope sbq0) := fsc
theorem okbq0 (D : Def K mg "with_dues" sbq0 .none) (cbp0 : Cal P w K mg base CX0 true 1 "rests_of" ["sides"] [] spRests) (cbe0 : Cal P w K mg base CX0 true 2 "dues_added" ["sides", "coins"] [] spAdd) (z_list : mg "list" = none) : Cal P w K mg base CX0 true 3 "with_dues" ["sides"] [] spWith := by
 obtain ⟨f, fd, F, hm⟩ := D
 obtain ⟨fbp0, fdbp0, dbp0, Gbp0, mbp0, kbp0, bbp0, vbp0, bbp01⟩ := cbp0
 obtain ⟨fbe0, fdbe0, dbe0, Gbe0, mbe0, kbe0, bbe0, vbe0, bbe01⟩ := cbe0
 refine ⟨f, fd, _, F.ok scbq0 (fun vs H Q E h => ?_) (fun cdv A outer s H vs Q E hr h => ?_), hm, F.kp, (F.b1), .nil, F.b1⟩
 ·obtain ⟨l, L, rfl, hl, hL, hlen, hLt, h0, q⟩ := h
  rfl
 obtain ⟨l, L, rfl, hl, hL, hlen, hLt, h0, q⟩ := h
 have nd := scbq0.nd
 refine ⟨_, (Qad (Qal (i := 1) nd rfl (Or.inl rfl) (Qan Gbp0 (hr.mono (by decide)) rfl mbp0 kbp0 bbp0 Paired.nil pass0 (Qaa (pv 0) Qaf)))
  (Qad (Qa8 PassesOwn.never rfl (Qar (pv 1)) (Qcc rfl (Qam (Qak (i := 2) nd rfl (Or.inl rfl)) (Qam (Qak (i := 3) nd rfl (Or.inl rfl)) Qbx))) (Qag (Qbq (Qap Qee (pv 3) Qac (nomark _)) (Qag Qcj) Qas)))
  (Qag (Qaq (Qaj Qht (Qby Qcr rfl z_list Qcs (Qaa (pv 0) Qaf)) (Qan Gbe0 (hr.mono (by decide)) rfl mbe0 kbe0 bbe0 Paired.nil pass0 (Qaa (pv 0) (Qaa (Qnf (xs := ["coin", "rest"]) [] rfl (LcOkT.plain (xs := ["coin", "rest"]) (by decide+kernel) (by decide+kernel) rfl (by decide+kernel) (by decide+kernel) (by decide+kernel)) (Qar (pv 1)) (Qhp rfl (LcOkT.plain (xs := ["coin", "rest"]) (by decide+kernel) (by decide+kernel) rfl (by decide+kernel) (by decide+kernel) (by decide+kernel))) (fun C s2 H2 fp xe => (pv 0))) Qaf)))))))), ?_⟩
 have hline : 10 ^ 6 ≤ sizeLine := by decide
 refine ⟨_, rfl, l, L, rfl, hl, hL, by omega, fun rp R H1 e1 hrp0 hrp hR hRt => ?_⟩
 have hcl : (cns L).length ≤ 60 := by
  have := N21.Qcf ((prs L).map (·.1))
  rw [List.length_map, Qe2] at this
  exact Nat.le_trans this hlen
 have lr : (rfr R).length = R.length := List.length_map ..
 have hRn : R.map (fun y => y.2.1) = cns L := by
  have h := congrArg (List.map Prod.fst) hR
  unfold N21.rs at h
  rw [List.map_map, List.map_map] at h
  have h2 : (N21.firsts ((prs L).map (·.1))).map (Prod.fst ∘ fun c => (c, N21.tot c (prs L))) = N21.firsts ((prs L).map (·.1)) := by
   rw [show (Prod.fst ∘ fun c => (c, N21.tot c (prs L))) = (fun c : Str => c) from rfl, List.map_id']
  rw [h2] at h
  exact h
 have hRl : R.length ≤ 60 := by
  have := congrArg List.length hRn
  rw [List.length_map] at this
  omega
 refine ⟨_, rfl, rp, rfl, ⟨_, SqL.of hrp⟩, ?_⟩
 refine Qaz (xs := rfr R) (fun i σ H' => ∃ (o2 o3 : Option V), σ = [some (.ref l), some (.ref rp), o2, o3] ∧ H' = H1) ⟨_, _, rfl, rfl⟩ ?_ ?_ ?_
 ·rintro i σ H2 hi ⟨o2, o3, rfl, rfl⟩
  exact SqL.of hrp
 ·rintro i x σ H2 hx ⟨o2, o3, rfl, rfl⟩
  obtain ⟨y, hy, rfl⟩ := Qji hx
  have hy0 : y.2.2 = 0 := by
   have m : y.2 ∈ R.map (·.2) := List.mem_map.mpr ⟨y, List.mem_of_getElem? hy, rfl⟩
   rw [hR] at m
   obtain ⟨c, mc, ec⟩ := List.mem_map.mp m
   obtain ⟨pz, mp, ep⟩ := List.mem_map.mp (N21.Qa2.mp mc)
   obtain ⟨z, mz, ez⟩ := List.mem_map.mp mp
   have h := h0 z mz
   rw [← ec]
   show N21.tot c (prs L) = 0
   rw [← ep, ← ez]
   exact h
  refine ⟨y.1, _, rfl, SqT.of (hRt y (List.mem_of_getElem? hy)), rfl, _, _, rfl, _, _, rfl, rfl, ?_⟩
  exact ⟨_, rfl, rfl, _, rfl, ndecF (congrArg V.int hy0) ⟨_, _, rfl, rfl⟩⟩
 rintro σ H2 ⟨o2, o3, rfl, rfl⟩
 refine ⟨_, rfl, l, _, rfl, .inl (SqL.of (e1 _ _ hl)), fun cp hcp => ?_⟩
 have f1 := Qae (o := .lst (rfs L)) hcp
 refine ⟨_, rfl, _, rfl, rp, rfl, ⟨_, SqL.of (f1 _ _ hrp)⟩, ?_⟩
 refine Qcm (xs := rfr R) (fun j ys H3 => ys = (R.take j).map (fun y => V.str y.2.1) ∧ H3 = upd H2 cp (.lst (rfs L))) ⟨rfl, rfl⟩ (by omega) ?_ ?_ ?_
 ·rintro j ys H3 hj ⟨rfl, rfl⟩
  rw [lr] at hj
  exact ⟨SqL.of (f1 _ _ hrp), by rw [List.length_map, List.length_take]; omega⟩
 ·rintro j x ys H3 hx ⟨rfl, rfl⟩ σ0 hσ0
  obtain ⟨y, hy, rfl⟩ := Qji hx
  obtain ⟨u, v, rfl⟩ : ∃ u v, σ0 = [u, v] := by
   rcases σ0 with _ | ⟨u, _ | ⟨v, _ | ⟨w, r⟩⟩⟩ <;> simp at hσ0
   exact ⟨u, v, rfl⟩
  refine ⟨y.1, _, rfl, SqT.of (f1 _ _ (hRt y (List.mem_of_getElem? hy))), rfl, _, _, rfl, _, _, rfl, rfl, [_, _], rfl, rfl, _, rfl, ?_, rfl⟩
  rw [List.take_succ, hy, List.map_append]
  rfl
 rintro ys H3 ⟨rfl, rfl⟩ l3 hl3
 have hmm : (R.take (rfr R).length).map (fun y => V.str y.2.1) = (cns L).map V.str := by
  rw [lr, List.take_length, ← hRn, List.map_map]
  rfl
 rw [hmm]
 have f2 := Qae (o := .lst ((cns L).map V.str)) hl3
 have f12 := f1.trans f2
 have e12 := e1.trans f12
 refine ⟨l, l3, L, cns L, rfl, e12 _ _ hl, hL.same e12, hlen, hLt, Qab, hcl, fun p D H' e hp0 hp hD hv hDl => ?_⟩
 refine ⟨cp, p, _, _, rfl, rfl, e _ _ (f2 _ _ Qab), hp, (by rw [Qbc, Qbc]; omega), fun pn hpn => ?_⟩
 have f3 := Qae (o := .lst (rfs L ++ rfs D)) hpn
 exact q pn D _ ((e12.trans e).trans f3) ((e12.trans e).free hpn) (by rw [Qab, Qdv]) (hD.same f3) hv hDl
theorem scbl0 : FnScope ["sides", "day", "rates", "lines", "rests", "firm", "account", "coin", "amount", "worth", "rest"] ["sides", "day", "rates"] (defScope sbl0) := fsc
theorem okbl0 (D : Def K mg "lined_by" sbl0 .none) {C_Rates : Addr} (caj0 : CalM P w K mg base CX0 true 4 C_Rates "worth" ["self", "amount", "coin", "day"] [] (SpW K C_Rates)) (cl_Rates : Cls K C_Rates) (n_told : NoAttr K C_Rates "told") : Cal P w K mg base CX0 true 5 "lined_by" ["sides", "day", "rates"] [] (spLined K C_Rates) := by
 obtain ⟨f, fd, F, hm⟩ := D
 obtain ⟨faj0, fdaj0, daj0, Gaj0, maj0, baj0, vaj0, baj01⟩ := caj0
 refine ⟨f, fd, _, F.ok scbl0 (fun vs H Q E h => ?_) (fun cdv A outer s H vs Q E hr h => ?_), hm, F.kp, (F.b3), .nil, F.b3⟩
 ·obtain ⟨l, rp, d, dy, F, t, fs, A, X, Y, L, rfl, hl, hL, hlen, R, hF, hk, q⟩ := h
  rfl
 obtain ⟨l, rp, d, dy, F, t, fs, A, X, Y, L, rfl, hl, hL, hlen, R, hF, hk, q⟩ := h
 have nd := scbl0.nd
 refine ⟨_, (Qad (Qal (i := 3) nd rfl (Or.inl rfl) (Qb4 Qaf))
  (Qad (Qal (i := 4) nd rfl (Or.inl rfl) Qcu)
  (Qad (Qa8 PassesOwn.never rfl (Qar (pv 0)) (Qcc rfl (Qam (Qak (i := 5) nd rfl (Or.inl rfl)) (Qam (Qak (i := 6) nd rfl (Or.inl rfl)) (Qam (Qak (i := 7) nd rfl (Or.inl rfl)) (Qam (Qak (i := 8) nd rfl (Or.inl rfl)) Qbx))))) (Qad (Qal (i := 9) nd rfl (Or.inl rfl) (Qb8 (pv 2) cl_Rates maj0 Gaj0 (hr.mono (by decide)) baj0 Paired.nil pass0 (Qaa (pv 8) (Qaa (pv 7) (Qaa (pv 1) Qaf)))))
  (Qad (Qbg (Qc1 PySem.F.plainAttrs_list PySem.F.slot_list_append PySem.F.type_list_append Qbj (pv 3) (Qaa (Qay (Qaa (pv 5) (Qaa (pv 6) (Qaa (pv 7) (Qaa (pv 8) (Qaa (pv 9) Qaf)))))) Qaf)))
  (Qag (Qb7 (Qbl hr) (pv 4) (pv 5) (Qaj Qa1 (Qck (Qbl hr) (pv 4) (pv 5) Qac ⟨rfl, rfl, rfl, rfl⟩) (pv 9)) rfl)))))
  (Qad (Qa8 PassesOwn.never rfl (Qlx (Qjv PySem.F.plainAttrs_dict PySem.F.slot_dict_items PySem.F.type_dict_items Qhv (pv 4))) (Qcc rfl (Qam (Qak (i := 5) nd rfl (Or.inl rfl)) (Qam (Qak (i := 10) nd rfl (Or.inl rfl)) Qbx))) (Qag (Qbq (Qap Qee (pv 10) Qac (nomark _)) (Qag (Qbg (Qc1 PySem.F.plainAttrs_list PySem.F.slot_list_append PySem.F.type_list_append Qbj (pv 3) (Qaa (Qay (Qaa (pv 5) (Qaa Qbz (Qaa (Qcn (pv 2) rfl) (Qaa Qac (Qaa (Qgx Qdq (pv 10)) Qaf)))))) Qaf)))) Qas)))
  (Qag (Qaq (pv 3))))))), ?_⟩
 have hline : 10 ^ 6 ≤ sizeLine := by decide
 refine ⟨(by show 0 ≤ sizeLine; decide), fun p hp => ?_⟩
 have e1 := Qae (o := .lst []) hp
 refine fun d2 hd2 => ?_
 have e2 := Qae (o := .dK []) hd2
 have npd : p ≠ d2 := Qai Qab hd2
 have hd0 := e1.free hd2
 refine ⟨_, rfl, l, rfl, ⟨_, SqL.of (e2 _ _ (e1 _ _ hl))⟩, ?_⟩
 refine Qaz (xs := rfs L) (fun i σ H' => ∃ (o5 o6 o7 o8 o9 o10 : Option V) (M : List Ln), σ = [some (.ref l), some (.int dy), some (.ref rp), some (.ref p), some (.ref d2), o5, o6, o7, o8, o9, o10] ∧ Same H H' ∧ H' p = some (.lst (rf5 M)) ∧ H' d2 = some (.dK (kvG kS (N25.fw (wS X Y) (vls (L.take i))))) ∧ R5 H' M ∧ M.map (·.2) = (vls (L.take i)).map (N25.lnv (wS X Y))) ⟨_, _, _, _, _, _, [], rfl, e1.trans e2, e2 _ _ Qab, Qab, (fun z hz => nomatch hz), rfl⟩ ?_ ?_ ?_
 ·rintro i σ H1 hi ⟨o5, o6, o7, o8, o9, o10, M, rfl, e, _⟩
  exact SqL.of (e _ _ hl)
 ·rintro i x σ H1 hx ⟨o5, o6, o7, o8, o9, o10, M, rfl, e, hpp, hdd, hM, hMv⟩
  obtain ⟨z, hz, rfl⟩ := Qem hx
  have hzm := List.mem_of_getElem? hz
  have hiL : i < L.length := (List.getElem?_eq_some_iff.mp hz).1
  have hzz := e _ _ (hL z hzm)
  obtain ⟨hzc, hza⟩ := hk z hzm
  have R1 := R.same e
  obtain ⟨dx, gs, hpr, htl, _, hno⟩ := R1.ra.ob
  have hMl : M.length = i := by
   have := congrArg List.length hMv
   rw [List.length_map, List.length_map, Qdo, List.length_take] at this
   omega
  have hkl := Qdd kS (N25.fw (wS X Y) (vls (L.take i)))
  rw [Qnp, Qdo, List.length_take] at hkl
  refine ⟨z.1, _, rfl, SqT.of hzz, rfl, _, _, rfl, _, _, rfl, _, _, rfl, _, _, rfl, rfl, ?_⟩
  refine ⟨_, rfl, rp, dx, gs, rfl, hpr, hno "worth" (by decide+kernel), _, rfl, _, rfl, _, rfl, ?_⟩
  show SpW K C_Rates [.ref rp, .int z.2.2.2.2, .str z.2.2.2.1, .int dy] _ _ _
  refine worthS R1 hzc hF hza fun H2 f2 => ?_
  refine ⟨_, rfl, .inl ⟨rfl, _, SqL.of (f2 _ _ hpp)⟩, _, rfl, _, rfl, _, rfl, _, rfl, _, rfl, (by show 5 ≤ sizeLine; decide), fun tp htp => ?_⟩
  have f3 := Qae (o := .tup [.str z.2.1, .str z.2.2.1, .str z.2.2.2.1, .int z.2.2.2.2, .int (wS X Y z.2.2.2.1 z.2.2.2.2)]) htp
  have hp3 := f3 _ _ (f2 _ _ hpp)
  refine ⟨p, _, _, rfl, rfl, hp3, (by rw [Qbo]; omega), ?_⟩
  have hd3 : upd (upd H2 tp (.tup [.str z.2.1, .str z.2.2.1, .str z.2.2.2.1, .int z.2.2.2.2, .int (wS X Y z.2.2.2.1 z.2.2.2.2)])) p (.lst (rf5 M ++ [.ref tp])) d2 = some (.dK (kvG kS (N25.fw (wS X Y) (vls (L.take i))))) := by
   rw [Qah (Ne.symm npd)]
   exact f3 _ _ (f2 _ _ hdd)
  have eA := Qat (o := .lst (rf5 M ++ [.ref tp])) ((e.trans f2).trans f3) hp
  have pA : upd (upd H2 tp (.tup [.str z.2.1, .str z.2.2.1, .str z.2.2.2.1, .int z.2.2.2.2, .int (wS X Y z.2.2.2.1 z.2.2.2.2)])) p (.lst (rf5 M ++ [.ref tp])) p = some (.lst (rf5 (M ++ [(tp, N25.lnv (wS X Y) z.2)]))) := by
   rw [Qab, Qgt]
   rfl
  have rA : R5 (upd (upd H2 tp (.tup [.str z.2.1, .str z.2.2.1, .str z.2.2.2.1, .int z.2.2.2.2, .int (wS X Y z.2.2.2.1 z.2.2.2.2)])) p (.lst (rf5 M ++ [.ref tp]))) (M ++ [(tp, N25.lnv (wS X Y) z.2)]) := fun y hy => by
   rcases List.mem_append.mp hy with w | w
   ·exact Qbi (f3 _ _ (f2 _ _ (hM y w))) hp3
   ·rw [List.mem_singleton.mp w]
    exact Qbi Qab hp3
  show _
  generalize upd (upd H2 tp (.tup [.str z.2.1, .str z.2.2.1, .str z.2.2.2.1, .int z.2.2.2.2, .int (wS X Y z.2.2.2.1 z.2.2.2.2)])) p (.lst (rf5 M ++ [.ref tp])) = HA at hd3 eA pA rA ⊢
  refine ⟨_, rfl, d2, rfl, .inl ⟨_, .inl hd3⟩, _, rfl, _, DGet.k (k := kS z.2.1) hd3, _, rfl, _, _, Qd2 kS Qc3 _ _, rfl, _, rfl, _, rfl, d2, _, rfl, DPut.k (k := kS z.2.1) hd3 (by omega), ?_⟩
  refine ⟨_, _, _, _, _, _, M ++ [(tp, N25.lnv (wS X Y) z.2)], rfl, Qat eA hd0, (by rw [Qah npd]; exact pA), ?_, fun y hy => ?_, ?_⟩
  ·rw [Qab, Qfd kS Qc3, Qo0 _ hz]
  ·have h := rA y hy
   unfold tup5 at h
   rw [Qah (Qbd h hd3 (by intro z; cases z))]
   exact h
  ·rw [List.map_append, hMv, Qhd hz, List.map_append]
   rfl
 rintro σ H1 ⟨o5, o6, o7, o8, o9, o10, M, rfl, e, hpp, hdd, hM, hMv⟩
 rw [Qbc, List.take_length] at hdd hMv
 have hMl : M.length = L.length := by
  have := congrArg List.length hMv
  rw [List.length_map, List.length_map, Qdo] at this
  exact this
 refine ⟨_, rfl, .inr (.inr (.inl ⟨rfl, .inl ⟨_, hdd⟩⟩)), d2, _, rfl, rfl, hdd, fun v hv => ?_⟩
 have f1 := Qae (o := ivw v d2) hv
 refine ⟨v, d2, _, rfl, Qab, f1 _ _ hdd, fun ob => ?_⟩
 have hP := kvG_rs (N25.fw (wS X Y) (vls L))
 have hPl := Qdd kS (N25.fw (wS X Y) (vls L))
 rw [Qnp, Qdo] at hPl
 have hp1 := f1 _ _ hpp
 have hd1 := f1 _ _ hdd
 refine Qkq (d := d2) (o := ob) (fun i σ H' => ∃ (o5 o6 o7 o8 o9 o10 : Option V) (M : List Ln), σ = [some (.ref l), some (.int dy), some (.ref rp), some (.ref p), some (.ref d2), o5, o6, o7, o8, o9, o10] ∧ Same H H' ∧ H' p = some (.lst (rf5 M)) ∧ H' d2 = some (.frz ob (.dK (kvG kS (N25.fw (wS X Y) (vls L))))) ∧ R5 H' M ∧ M.map (·.2) = (vls L).map (N25.lnv (wS X Y)) ++ ((N21.rs (N25.fw (wS X Y) (vls L))).take i).flatMap (N25.rone (κ := Str) "*rounding" t) ∧ M.length ≤ L.length + i) ⟨_, _, _, _, _, _, M, rfl, Qat (e.trans f1) hd0, (by rw [Qah npd]; exact hp1), Qab, (fun y hy => ?_), (by rw [hMv]; simp), by omega⟩ ?_ ?_ ?_
 ·have h := f1 _ _ (hM y hy)
  unfold tup5 at h
  show upd _ d2 _ y.1 = some (tup5 y)
  rw [Qah (Qbd h hd1 (by intro z; cases z))]
  exact h
 ·rintro i σ H2 hi ⟨o5, o6, o7, o8, o9, o10, M, rfl, e, hpp, hdd, _⟩
  exact hdd
 ·rintro i kv σ H2 tp hkv ⟨o5, o6, o7, o8, o9, o10, M, rfl, e', hpp', hdd', hM', hMv', hMl'⟩ htp
  obtain ⟨f, hf, rfl⟩ := kvG_at hkv
  have hik : i < (kvG kS (N25.fw (wS X Y) (vls L))).length := (List.getElem?_eq_some_iff.mp hkv).1
  have g1 := Qae (o := .tup [kV (kS f), .int (N21.tot f (N25.fw (wS X Y) (vls L)))]) htp
  refine ⟨tp, _, rfl, SqT.of Qab, rfl, _, _, rfl, _, _, rfl, rfl, ?_⟩
  refine ⟨_, rfl, rfl, _, rfl, ?_⟩
  have nx := Qlr "*rounding" t hf
  refine ndec2 (fun h => ?_) (fun h => ?_)
  ·have h0 : N21.tot f (N25.fw (wS X Y) (vls L)) ≠ 0 := fun z => h (congrArg V.int z)
   have R2 := R.same (e'.trans g1)
   obtain ⟨dx, gs, hpr, htl, _, hno⟩ := R2.ra.ob
   have hp2 := g1 _ _ hpp'
   refine ⟨_, rfl, .inl ⟨rfl, _, SqL.of hp2⟩, _, rfl, _, rfl, rp, C_Rates, dx, gs, _, rfl, hpr, cl_Rates, n_told, htl, _, rfl, _, rfl, (by show 5 ≤ sizeLine; decide), fun t2 ht2 => ?_⟩
   have g2 := Qae (o := tup5 (t2, f, (("*rounding" : Str), t), 0, -N21.tot f (N25.fw (wS X Y) (vls L)))) ht2
   have hp3 := g2 _ _ hp2
   refine ⟨p, _, _, rfl, rfl, hp3, (by rw [Qbo]; omega), ?_⟩
   refine ⟨_, _, _, _, _, _, M ++ [(t2, f, (("*rounding" : Str), t), 0, -N21.tot f (N25.fw (wS X Y) (vls L)))], rfl, Qat ((e'.trans g1).trans g2) hp, (by rw [Qab, Qgt]; rfl), (by rw [Qah (Ne.symm npd)]; exact g2 _ _ (g1 _ _ hdd')), fun y hy => ?_, ?_, ?_⟩
   ·rcases List.mem_append.mp hy with w | w
    ·exact Qbi (g2 _ _ (g1 _ _ (hM' y w))) hp3
    ·rw [List.mem_singleton.mp w]
     exact Qbi Qab hp3
   ·rw [List.map_append, hMv', nx, List.append_assoc]
    unfold N25.rone
    rw [if_pos h0]
    rfl
   ·rw [List.length_append]
    show M.length + 1 ≤ _
    omega
  ·have h0 : N21.tot f (N25.fw (wS X Y) (vls L)) = 0 := V.int.inj h
   refine ⟨_, _, _, _, _, _, M, rfl, e'.trans g1, g1 _ _ hpp', g1 _ _ hdd', hM'.same g1, ?_, by omega⟩
   rw [hMv', nx]
   unfold N25.rone
   rw [h0]
   simp
 rintro σ H2 ⟨o5, o6, o7, o8, o9, o10, M, rfl, e, hpp, hdd, hM, hMv, hMl⟩
 rw [hP, List.take_length] at hMv
 exact ⟨_, rfl, q p M _ e hp hpp hM hMv (by omega)⟩
theorem scbf0 : FnScope ["sides", "day", "rates"] ["sides", "day", "rates"] (defScope sbf0) := fsc
theorem okbf0 (D : Def K mg "entry_lines" sbf0 .none) {C_Rates : Addr} (cbl0 : Cal P w K mg base CX0 true 5 "lined_by" ["sides", "day", "rates"] [] (spLined K C_Rates)) (cbq0 : Cal P w K mg base CX0 true 3 "with_dues" ["sides"] [] spWith) : Cal P w K mg base CX0 true 6 "entry_lines" ["sides", "day", "rates"] [] (spEntry K C_Rates) := by
 obtain ⟨f, fd, F, hm⟩ := D
 obtain ⟨fbl0, fdbl0, dbl0, Gbl0, mbl0, kbl0, bbl0, vbl0, bbl01⟩ := cbl0
 obtain ⟨fbq0, fdbq0, dbq0, Gbq0, mbq0, kbq0, bbq0, vbq0, bbq01⟩ := cbq0
 refine ⟨f, fd, _, F.ok scbf0 (fun vs H Q E h => ?_) (fun cdv A outer s H vs Q E hr h => ?_), hm, F.kp, (F.b3), .nil, F.b3⟩
 ·obtain ⟨l, rp, d, dy, F, t, fs, A, X, Y, L, rfl, hl, hL, hlen, hLt, h0, R, hF, hk, q⟩ := h
  rfl
 obtain ⟨l, rp, d, dy, F, t, fs, A, X, Y, L, rfl, hl, hL, hlen, hLt, h0, R, hF, hk, q⟩ := h
 have nd := scbf0.nd
 refine ⟨_, (Qag (Qaq (Qan Gbl0 (hr.mono (by decide)) rfl mbl0 kbl0 bbl0 Paired.nil pass0 (Qaa (Qan Gbq0 (hr.mono (by decide)) rfl mbq0 kbq0 bbq0 Paired.nil pass0 (Qaa (pv 0) Qaf)) (Qaa (pv 1) (Qaa (pv 2) Qaf)))))), ?_⟩
 refine ⟨_, rfl, l, L, rfl, hl, hL, hlen, hLt, h0, fun wp D H1 e1 hwp0 hwp hD hv hDl => ⟨_, rfl, _, rfl, wp, rp, d, dy, F, t, fs, A, X, Y, L ++ D, rfl, hwp, (hL.same e1).app hD, (by rw [List.length_append]; omega), R.same e1, hF, fun z hz => ?_, fun p M H2 e2 hp0 hp hM hMv hMl => ?_⟩⟩
 ·rcases List.mem_append.mp hz with w | w
  ·exact ⟨(hk z w).1, Nat.le_trans (hk z w).2 (by decide)⟩
  ·have hz2 : z.2 ∈ dvs L (cns L) := by
    rw [← hv]
    exact List.mem_map.mpr ⟨z, w, rfl⟩
   obtain ⟨⟨z', hz', ez⟩, _, hb⟩ := Qmm hz2
   refine ⟨by rw [← ez]; exact (hk z' hz').1, ?_⟩
   have := hb (2 ^ 145) fun y hy => (hk y hy).2
   refine Nat.le_trans this (Nat.le_trans (Nat.mul_le_mul_right _ hlen) (by decide))
 ·rw [Qi4, hv] at hMv
  exact q p M H2 (e1.trans e2) (e1.free hp0) hp hM hMv (by rw [List.length_append] at hMl; omega)
def spPut : Sp := fun vs H Q _ => ∃ (l : Addr) (R : List Rw4), vs = [.ref l] ∧ H l = some (.lst (rf4 R)) ∧ R4 H R ∧ R.length ≤ 200000 ∧ (kys (R.map (·.2))).length < 64 ∧
 ∀ (p : Addr) (F : List Rw4) H', Same H H' → H p = none → H' p = some (.lst (rf4 F)) → R4 H' F → Fig (R.map (·.2)) (F.map (·.2)) → Q (.ref p) H'
def spFigs : Sp := fun vs H Q _ => ∃ (l : Addr) (L : List Ln), vs = [.ref l] ∧ H l = some (.lst (rf5 L)) ∧ R5 H L ∧ L.length ≤ 200000 ∧ (kys (L.map (·.2.2))).length < 64 ∧
 ∀ (p : Addr) (F : List Rw4) H', Same H H' → H p = none → H' p = some (.lst (rf4 F)) → R4 H' F → Fig (L.map (·.2.2)) (F.map (·.2)) → Q (.ref p) H'
def mV : Option Int → V
 | none => .non
 | some m => .int m
def okM (m : Option Int) (d : Int) : Bool := match m with
 | none => true
 | some m => decide (d / 30 ≤ m)
def prsL (L : List Ln) : List (Str × Int) := L.map fun z => (z.2.2.1.2, z.2.2.2.1)
def wrs (L : List Ln) : List Int := L.map fun z => z.2.2.2.2
structure Good (f : Str) (L : List Ln) : Prop where
 f : ∀ z ∈ L, z.2.1 = f
 c : ∀ k, N21.tot k (prsL L) = 0
 w : (wrs L).sum = 0
 n : L.length ≤ 21000
def spMon : Sp := fun vs H Q _ => ∃ d : Int, vs = [.int d] ∧ Q (.int (d / 30)) H
def spChk : Sp := fun vs H Q _ => ∃ (f : Str) (l : Addr) (L : List Ln), vs = [.str f, .ref l] ∧ H l = some (.lst (rf5 L)) ∧ R5 H L ∧ Good f L ∧ ∀ H', Same H H' → Q .non H'
structure KB0 (C : Addr) (H : Hp) (p kl : Addr) (f : Str) : Prop where
 ob : ∃ dx fs, H p = some (.ins C dx fs) ∧ fs.lookup ("book" : Str) = some (.str f) ∧ fs.lookup ("kept" : Str) = some (.ref kl) ∧ ∀ m ∈ (["may_enter", "post", "spots", "lines_upto", "figures"] : List Str), fs.lookup m = none
theorem KB0.same {C : Addr} {H H' : Hp} {p kl : Addr} {f : Str} (h : KB0 C H p kl f) (e : Same H H') : KB0 C H' p kl f := by
 obtain ⟨dx, fs, hp, r⟩ := h.ob
 exact ⟨dx, fs, e _ _ hp, r⟩
def spMay0 (C : Addr) : Sp := fun vs H Q _ => ∃ (p : Addr) (d : Int), vs = [.ref p, .int d] ∧ Q .non H
def spPost0 (C : Addr) : Sp := fun vs H Q _ => ∃ (p kl : Addr) (f : Str) (es : List V) (d ab : Int) (l : Addr) (L : List Ln), vs = [.ref p, .int d, .int ab, .ref l] ∧ KB0 C H p kl f ∧ H kl = some (.lst es) ∧ es.length ≤ 100 ∧ H l = some (.lst (rf5 L)) ∧ R5 H L ∧ Good f L ∧
 ∀ (e t : Addr) (v : Int) H', (∀ b o, H b = some o → b ≠ kl → H' b = some o) → H' kl = some (.lst (es ++ [.ref e])) → H' e = some (.tup [.int d, .int ab, .ref t]) → H' t = some (.tup (rf5 L)) → Q (.int v) H'
abbrev En := Addr × Int × Int × Addr × List Ln
def rfE (E : List En) : List V := E.map fun z => .ref z.1
def EnL (H : Hp) (E : List En) : Prop := ∀ e ∈ E, H e.1 = some (.tup [.int e.2.1, .int e.2.2.1, .ref e.2.2.2.1]) ∧ H e.2.2.2.1 = some (.tup (rf5 e.2.2.2.2)) ∧ R5 H e.2.2.2.2 ∧ e.2.2.2.2.length ≤ 21000
theorem EnL.same {H H' : Hp} {E : List En} (h : EnL H E) (e : Same H H') : EnL H' E := fun z hz => ⟨e _ _ (h z hz).1, e _ _ (h z hz).2.1, (h z hz).2.2.1.same e, (h z hz).2.2.2⟩
abbrev Dl := List (Int × List Ln)
def dl (E : List En) : Dl := E.map fun e => (e.2.1, e.2.2.2.2)
def upto (D : Dl) (m : Option Int) : List Ln := D.flatMap fun d => if okM m d.1 = true then d.2 else []
theorem Qi5 {D : Dl} {i : Nat} {d : Int × List Ln} {m : Option Int} (h : D[i]? = some d) : upto (D.take (i + 1)) m = upto (D.take i) m ++ (if okM m d.1 = true then d.2 else []) := by
 unfold upto
 rw [Qa7 h, List.flatMap_append]
 simp
theorem Qdk {D : Dl} {m : Option Int} (h : ∀ d ∈ D, d.2.length ≤ 21000) : (upto D m).length ≤ 21000 * D.length := by
 induction D with
 | nil => exact Nat.le_refl _
 | cons d r ih =>
   have a := ih fun z hz => h z (List.mem_cons_of_mem _ hz)
   have b := h d List.mem_cons_self
   unfold upto at a ⊢
   rw [List.flatMap_cons, List.length_append, List.length_cons]
   split
   ·omega
   ·show 0 + _ ≤ _
    omega
abbrev Tp := Addr × Ln
def rfT (T : List Tp) : List V := T.map fun z => .ref z.1
def TpL (H : Hp) (T : List Tp) : Prop := ∀ z ∈ T, ∃ s, H z.1 = some (.tup [.ref s, .ref z.2.1])
theorem Qda (L : List En) : (rfE L).length = L.length := List.length_map ..
theorem Qdw (L : List Tp) : (rfT L).length = L.length := List.length_map ..
theorem Qm9 {L : List En} {i : Nat} {x : V} (h : (rfE L)[i]? = some x) : ∃ z, L[i]? = some z ∧ x = .ref z.1 := Qdy h
theorem rfT_at {L : List Tp} {i : Nat} {x : V} (h : (rfT L)[i]? = some x) : ∃ z, L[i]? = some z ∧ x = .ref z.1 := Qdy h
theorem Qjj (A B : List Tp) : rfT (A ++ B) = rfT A ++ rfT B := List.map_append ..
def spSpots0 (C : Addr) : Sp := fun vs H Q _ => ∃ (p kl : Addr) (f : Str) (m : Option Int) (E : List En), vs = [.ref p, mV m] ∧ KB0 C H p kl f ∧ H kl = some (.lst (rfE E)) ∧ EnL H E ∧ E.length ≤ 8 ∧
 ∀ (r : Addr) (T : List Tp) H', Same H H' → H' r = some (.lst (rfT T)) → TpL H' T → T.map (·.2) = upto (dl E) m → Q (.ref r) H'
def spUpto0 (C : Addr) : Sp := fun vs H Q _ => ∃ (p kl : Addr) (f : Str) (m : Option Int) (E : List En), vs = [.ref p, mV m] ∧ KB0 C H p kl f ∧ H kl = some (.lst (rfE E)) ∧ EnL H E ∧ E.length ≤ 8 ∧
 ∀ (r : Addr) H', Same H H' → H' r = some (.lst (rf5 (upto (dl E) m))) → Q (.ref r) H'
def spFigures0 (C : Addr) : Sp := fun vs H Q _ => ∃ (p kl : Addr) (f : Str) (m : Option Int) (E : List En), vs = [.ref p, mV m] ∧ KB0 C H p kl f ∧ H kl = some (.lst (rfE E)) ∧ EnL H E ∧ E.length ≤ 8 ∧ (kys ((upto (dl E) m).map (·.2.2))).length < 64 ∧
 ∀ (r : Addr) (F : List Rw4) H', Same H H' → H r = none → H' r = some (.lst (rf4 F)) → R4 H' F → Fig ((upto (dl E) m).map (·.2.2)) (F.map (·.2)) → Q (.ref r) H'
def spBkI (C : Addr) : Sp := fun vs H Q _ => ∃ (p dx : Addr) (f : Str), vs = [.ref p, .str f] ∧ H p = some (.ins C dx []) ∧ ∀ kl H', H kl = none → kl ≠ p → KB0 C H' p kl f → H' kl = some (.lst []) → (∀ b o, H b = some o → b ≠ p → H' b = some o) → Q .non H'
theorem bk_ne : ¬ (("book" : Str) = "kept") := by decide+kernel
theorem scbm0 : FnScope ["day"] ["day"] (defScope sbm0) := fsc
theorem okbm0 (D : Def K mg "month_of" sbm0 .none) : Cal P w K mg base CX0 cm 1 "month_of" ["day"] [] spMon := by
 obtain ⟨f, fd, F, hm⟩ := D
 refine ⟨f, fd, _, F.ok scbm0 (fun vs H Q E h => ?_) (fun cdv A outer s H vs Q E hr h => ?_), hm, F.kp, (F.b1), .nil, F.b1⟩
 ·obtain ⟨d, rfl, q⟩ := h
  rfl
 obtain ⟨d, rfl, q⟩ := h
 have nd := scbm0.nd
 refine ⟨_, (Qag (Qaq (Qaj Qbh (pv 0) Qac))), ?_⟩
 exact ⟨_, rfl, _, _, rfl, rfl, ⟨by decide, by decide⟩, q⟩
theorem scbo0 : FnScope ["rows", "sums", "figures", "account", "coin", "amount", "worth", "so_far", "total"] ["rows"] (defScope sbo0) := fsc
theorem okbo0 (D : Def K mg "put_together" sbo0 .none) (z_sorted : mg "sorted" = none) : Cal P w K mg base CX0 true 1 "put_together" ["rows"] [] spPut := by
 obtain ⟨f, fd, F, hm⟩ := D
 refine ⟨f, fd, _, F.ok scbo0 (fun vs H Q E h => ?_) (fun cdv A outer s H vs Q E hr h => ?_), hm, F.kp, (F.b1), .nil, F.b1⟩
 ·obtain ⟨l, R, rfl, hl, hR, hlen, hk64, q⟩ := h
  rfl
 obtain ⟨l, R, rfl, hl, hR, hlen, hk64, q⟩ := h
 have nd := scbo0.nd
 refine ⟨_, (Qad (Qal (i := 1) nd rfl (Or.inl rfl) Qdn)
  (Qad (Qa8 PassesOwn.never rfl (Qar (pv 0)) (Qcc rfl (Qam (Qak (i := 3) nd rfl (Or.inl rfl)) (Qam (Qak (i := 4) nd rfl (Or.inl rfl)) (Qam (Qak (i := 5) nd rfl (Or.inl rfl)) (Qam (Qak (i := 6) nd rfl (Or.inl rfl)) Qbx))))) (Qad (Qal (i := 7) nd rfl (Or.inl rfl) (Qck (Qbl hr) (pv 1) (Qay (Qaa (pv 3) (Qaa (pv 4) Qaf))) (Qay (Qaa Qac (Qaa Qac Qaf))) ⟨rfl, rfl, rfl, rfl⟩))
  (Qag (Qb7 (Qbl hr) (pv 1) (Qay (Qaa (pv 3) (Qaa (pv 4) Qaf))) (Qay (Qaa (Qaj Qa1 (Qax Qaw (pv 7) Qac (fun _ _ => rfl)) (pv 5)) (Qaa (Qaj Qa1 (Qax Qaw (pv 7) Qac (fun _ _ => rfl)) (pv 6)) Qaf))) rfl))))
  (Qad (Qal (i := 2) nd rfl (Or.inl rfl) (Qb4 Qaf))
  (Qad (Qa8 PassesOwn.never rfl (Qar (Qav (Qdh rfl) rfl z_sorted Qgh (Qaa (pv 1) Qaf))) (Qcc rfl (Qam (Qak (i := 3) nd rfl (Or.inl rfl)) (Qam (Qak (i := 4) nd rfl (Or.inl rfl)) Qbx))) (Qad (Qal (i := 8) nd rfl (Or.inl rfl) (Qbp (Qbl hr) (pv 1) (Qay (Qaa (pv 3) (Qaa (pv 4) Qaf))) (fun _ _ => rfl)))
  (Qag (Qbq (Qap (Qni hr) (pv 8) (Qay (Qaa Qac (Qaa Qac Qaf))) (nomark _)) (Qag (Qbg (Qc1 PySem.F.plainAttrs_list PySem.F.slot_list_append PySem.F.type_list_append Qbj (pv 2) (Qaa (Qay (Qaa (pv 3) (Qaa (pv 4) (Qaa (Qax Qaw (pv 8) Qac (fun _ _ => rfl)) (Qaa (Qax Qaw (pv 8) Qac (fun _ _ => rfl)) Qaf))))) Qaf)))) Qas))))
  (Qag (Qaq (pv 2))))))), ?_⟩
 have hline : 10 ^ 6 ≤ sizeLine := by decide
 refine fun d hd => ?_
 have e1 := Qae (o := .dT []) hd
 refine ⟨_, rfl, l, rfl, ⟨_, SqL.of (e1 _ _ hl)⟩, ?_⟩
 refine Qaz (xs := rf4 R) (fun i σ H' => ∃ (o2 o3 o4 o5 o6 o7 o8 : Option V) (A : Pl → Addr), σ = [some (.ref l), some (.ref d), o2, o3, o4, o5, o6, o7, o8] ∧ Same H H' ∧ Sums H' d ((R.take i).map (·.2)) A) ⟨_, _, _, _, _, _, _, fun _ => d, rfl, e1, Qab, fun k hk => nomatch hk⟩ ?_ ?_ ?_
 ·rintro i σ H1 hi ⟨o2, o3, o4, o5, o6, o7, o8, A, rfl, e, _⟩
  exact SqL.of (e _ _ hl)
 ·rintro i x σ H1 hx ⟨o2, o3, o4, o5, o6, o7, o8, A, rfl, e, S⟩
  obtain ⟨z, hz, rfl⟩ := Qen hx
  have hzz := e _ _ (hR z (List.mem_of_getElem? hz))
  have hkl := Qkd A ((R.take i).map (·.2))
  rw [List.length_map, List.length_take] at hkl
  have hlz : i < R.length := (List.getElem?_eq_some_iff.mp hz).1
  refine ⟨z.1, _, rfl, SqT.of hzz, rfl, _, _, rfl, _, _, rfl, _, _, rfl, _, _, rfl, rfl, ?_⟩
  refine ⟨_, rfl, d, rfl, .inr ⟨_, .inl S.1⟩, _, rfl, _, rfl, (by show 2 ≤ sizeLine; decide), fun kp hkp => ⟨(by show 2 ≤ sizeLine; decide), fun zp hzp => ?_⟩⟩
  have f1 := Qae (o := .tup [.str z.2.1.1, .str z.2.1.2]) hkp
  have f2 := Qae (o := .tup [.int 0, .int 0]) hzp
  have S2 := S.same (f1.trans f2)
  obtain ⟨s, hs, hst⟩ := S2.get z.2.1 (z := zp) Qab
  refine ⟨_, DGet.t (k := kk z.2.1) S2.1 (f2 _ _ Qab), ?_⟩
  rw [hs]
  have hT := SqT.of (K := K) hst
  refine ⟨_, rfl, .inr (.inl ⟨s, _, 0, _, rfl, rfl, hT, rfl, _, rfl, _, _, rfl, rfl, _, rfl, .inr (.inl ⟨s, _, 1, _, rfl, rfl, hT, rfl, _, rfl, _, _, rfl, rfl, (by show 2 ≤ sizeLine; decide), fun np hnp => ?_⟩)⟩)⟩
  have f3 := Qae (o := .tup [.int (ta ((R.take i).map (·.2)) z.2.1 + z.2.2.1), .int (tw ((R.take i).map (·.2)) z.2.1 + z.2.2.2)]) hnp
  refine ⟨_, rfl, _, rfl, _, rfl, (by show 2 ≤ sizeLine; decide), fun kp2 hkp2 => ?_⟩
  have f4 := Qae (o := .tup [.str z.2.1.1, .str z.2.1.2]) hkp2
  have S4 := S2.same (f3.trans f4)
  refine ⟨d, _, rfl, DPut.t (k := kk z.2.1) S4.1 Qab (by omega), ?_⟩
  refine ⟨_, _, _, _, _, _, _, fun k => if k = z.2.1 then np else A k, rfl, Qat (e.trans ((f1.trans f2).trans (f3.trans f4))) hd, ?_⟩
  rw [Qa7 hz, List.map_append]
  exact S4.put (p := z.2) (f4 _ _ Qab)
 rintro σ H1 ⟨o2, o3, o4, o5, o6, o7, o8, A, rfl, e, S⟩
 rw [Qb6, List.take_length] at S
 have hkn := Qkc (R.map (·.2))
 rw [List.length_map] at hkn
 generalize hP : R.map (·.2) = P at S hkn hk64 q
 refine ⟨(by show 0 ≤ sizeLine; decide), fun p hp => ?_⟩
 have g1 := Qae (o := .lst []) hp
 refine ⟨_, rfl, d, _, kys P, rfl, g1 _ _ S.1, Qh1 A P, by omega, fun sl T hsl perm pw ht => ⟨sl, rfl, ⟨_, SqL.of Qab⟩, ?_⟩⟩
 have g2 := Qae (o := .lst (T.map fun z => V.ref z.1)) hsl
 have hTl := perm.length_eq
 rw [List.length_map] at hTl
 have hTn : (T.map fun z => V.ref z.1).length = T.length := List.length_map ..
 have nsp : sl ≠ p := fun w => by
  rw [w, Qab] at hsl
  cases hsl
 refine Qaz (xs := T.map fun z => V.ref z.1) (fun i σ H' => ∃ (o3 o4 o5 o6 o7 o8 : Option V) (F : List Rw4), σ = [some (.ref l), some (.ref d), some (.ref p), o3, o4, o5, o6, o7, o8] ∧ Same H1 H' ∧ H' sl = some (.lst (T.map fun z => V.ref z.1)) ∧ H' p = some (.lst (rf4 F)) ∧ R4 H' F ∧ F.map (·.2) = fg P ((T.map (·.2)).take i) ∧ (∀ z ∈ T, H' z.1 = some (.tup [.str z.2.1, .str z.2.2]))) ⟨_, _, _, _, _, _, [], rfl, g1.trans g2, Qab, g2 _ _ Qab, (fun z hz => nomatch hz), rfl, fun z hz => g2 _ _ (ht z hz)⟩ ?_ ?_ ?_
 ·rintro i σ H2 hi ⟨o3, o4, o5, o6, o7, o8, F, rfl, e2, hs2, _⟩
  exact SqL.of hs2
 ·rintro i x σ H2 hx ⟨o3, o4, o5, o6, o7, o8, F, rfl, e2, hs2, hp2, hF, hFg, hT2⟩
  obtain ⟨z, hz, rfl⟩ := Qdy hx
  have hzm := List.mem_of_getElem? hz
  have hzz := hT2 z hzm
  have hkz : z.2 ∈ kys P := perm.mem_iff.mp (List.mem_map_of_mem hzm)
  have hFl : F.length ≤ T.length := by
   have := congrArg List.length hFg
   rw [List.length_map] at this
   unfold fg at this
   rw [List.length_map] at this
   have b := List.length_filter_le (nz P) ((T.map (·.2)).take i)
   rw [List.length_take, List.length_map] at b
   omega
  refine ⟨z.1, _, rfl, SqT.of hzz, rfl, _, _, rfl, _, _, rfl, rfl, ?_⟩
  refine ⟨_, rfl, _, rfl, _, rfl, (by show 2 ≤ sizeLine; decide), fun kp hkp => ?_⟩
  have f1 := Qae (o := .tup [.str z.2.1, .str z.2.2]) hkp
  have S1 := S.same (e2.trans f1)
  refine ⟨d, .ref (A z.2), rfl, Qfc hkz ▸ DGet.t (k := kk z.2) S1.1 Qab, ?_⟩
  refine ⟨_, rfl, (by show 2 ≤ sizeLine; decide), fun zp hzp => ?_⟩
  have f2 := Qae (o := .tup [.int 0, .int 0]) hzp
  have S2 := S1.same f2
  have hA := SqT.of (K := K) (S2.2 z.2 hkz)
  have f12 := f1.trans f2
  refine ⟨A z.2, zp, [ta P z.2, tw P z.2], [0, 0], rfl, rfl, hA, SqT.of Qab, _, rfl, ?_⟩
  have nx := fg_nx (P := P) (ks := T.map (·.2)) (i := i) (k := z.2) (by rw [List.getElem?_map, hz]; rfl)
  refine ndec2 (fun h => ?_) (fun h => ?_)
  ·have hnz : nz P z.2 = true := by
    unfold nz
    rw [decide_eq_false h]
    rfl
   rw [if_pos hnz] at nx
   refine ⟨_, rfl, .inl ⟨rfl, _, SqL.of (f12 _ _ hp2)⟩, _, rfl, _, rfl, _, rfl, .inr (.inl ⟨A z.2, _, 0, _, rfl, rfl, hA, rfl, _, rfl, .inr (.inl ⟨A z.2, _, 1, _, rfl, rfl, hA, rfl, (by show 4 ≤ sizeLine; decide), fun fp hfp => ?_⟩)⟩)⟩
   have f3 := Qae (o := .tup [.str z.2.1, .str z.2.2, .int (ta P z.2), .int (tw P z.2)]) hfp
   have f123 := f12.trans f3
   refine ⟨p, _, _, rfl, rfl, f123 _ _ hp2, (by rw [Qb6]; omega), ?_⟩
   refine ⟨_, _, _, _, _, _, F ++ [(fp, z.2, ta P z.2, tw P z.2)], rfl, Qat (e2.trans f123) hp, (by rw [Qah nsp]; exact f123 _ _ hs2), (by rw [Qab, Qgu]; rfl), fun y hy => ?_, ?_, fun y hy => ?_⟩
   ·rcases List.mem_append.mp hy with w | w
    ·exact Qbi (f123 _ _ (hF y w)) (f123 _ _ hp2)
    ·rw [List.mem_singleton.mp w]
     exact Qbi Qab (f123 _ _ hp2)
   ·rw [nx, List.map_append, hFg]
    rfl
   ·exact Qbi (f123 _ _ (hT2 y hy)) (f123 _ _ hp2)
  ·have hnz : ¬ nz P z.2 = true := by
    unfold nz
    rw [decide_eq_true h]
    decide
   rw [if_neg hnz] at nx
   exact ⟨_, _, _, _, _, _, F, rfl, e2.trans f12, f12 _ _ hs2, f12 _ _ hp2, hF.same f12, hFg.trans nx.symm, fun y hy => f12 _ _ (hT2 y hy)⟩
 rintro σ H2 ⟨o3, o4, o5, o6, o7, o8, F, rfl, e2, hs2, hp2, hF, hFg, hT2⟩
 rw [hTn, ← List.map_take, List.take_length] at hFg
 exact ⟨_, rfl, q p F _ (e.trans e2) (e.free hp) hp2 hF ⟨_, perm, pw, hFg⟩⟩
theorem scbg0 : FnScope ["lines"] ["lines"] (defScope sbg0) := fsc
theorem okbg0 (D : Def K mg "figures_of" sbg0 .none) (cbo0 : Cal P w K mg base CX0 true 1 "put_together" ["rows"] [] spPut) : Cal P w K mg base CX0 true 2 "figures_of" ["lines"] [] spFigs := by
 obtain ⟨f, fd, F, hm⟩ := D
 obtain ⟨fbo0, fdbo0, dbo0, Gbo0, mbo0, kbo0, bbo0, vbo0, bbo01⟩ := cbo0
 refine ⟨f, fd, _, F.ok scbg0 (fun vs H Q E h => ?_) (fun cdv A outer s H vs Q E hr h => ?_), hm, F.kp, (F.b1), .nil, F.b1⟩
 ·obtain ⟨l, L, rfl, hl, hL, hlen, hk64, q⟩ := h
  rfl
 obtain ⟨l, L, rfl, hl, hL, hlen, hk64, q⟩ := h
 have nd := scbg0.nd
 refine ⟨_, (Qag (Qaq (Qan Gbo0 (hr.mono (by decide)) rfl mbo0 kbo0 bbo0 Paired.nil pass0 (Qaa (Qe5 [] rfl (LcOk.plain (by decide+kernel) (by decide+kernel) rfl (by decide+kernel) rfl) (Qar (pv 0)) (fun C s2 H2 fp xe => (Qb1 Qgr (pv 0) (Qb3 Qac) Qco))) Qaf)))), ?_⟩
 have hline : 10 ^ 6 ≤ sizeLine := by decide
 refine ⟨_, rfl, l, rfl, ⟨_, SqL.of hl⟩, ?_⟩
 refine Qcm (xs := rf5 L) (fun i ys H1 => ∃ R : List Rw4, ys = rf4 R ∧ R.map (·.2) = (L.take i).map (·.2.2) ∧ R4 H1 R ∧ Same H H1) ⟨[], rfl, rfl, (fun z hz => nomatch hz), fun _ _ h => h⟩ (by rw [Qbo]; omega) ?_ ?_ ?_
 ·rintro i ys H1 hi ⟨R, rfl, hR, _, e⟩
  have := congrArg List.length hR
  rw [List.length_map, List.length_map, List.length_take] at this
  rw [Qbo] at hi
  exact ⟨SqL.of (e _ _ hl), by rw [Qb6]; omega⟩
 ·rintro i x ys H1 hx ⟨R, rfl, hR, hRt, e⟩
  obtain ⟨z, hz, rfl⟩ := Qdx hx
  have hzz := e _ _ (hL z (List.mem_of_getElem? hz))
  refine ⟨_, rfl, _, rfl, z.1, _, rfl, SqT.of hzz, (fun h => Nat.one_ne_zero h.1), fun p hp => ?_⟩
  have f := Qae (o := tup4 (p, z.2.2)) hp
  refine ⟨R ++ [(p, z.2.2)], by rw [Qgu]; rfl, ?_, fun y hy => ?_, e.trans f⟩
  ·rw [Qa7 hz, List.map_append, List.map_append, hR]
   rfl
  ·rcases List.mem_append.mp hy with w | w
   ·exact f _ _ (hRt y w)
   ·rw [List.mem_singleton.mp w]
    exact Qab
 rintro ys H1 ⟨R, rfl, hR, hRt, e⟩ rl hrl
 rw [Qbo, List.take_length] at hR
 have hRl := congrArg List.length hR
 rw [List.length_map, List.length_map] at hRl
 have f := Qae (o := .lst (rf4 R)) hrl
 refine ⟨rl, R, rfl, Qab, hRt.same f, by omega, (by rw [hR]; exact hk64), fun p F H' e2 hp hp2 hF hFg => ?_⟩
 rw [hR] at hFg
 exact q p F H' ((e.trans f).trans e2) ((e.trans f).free hp) hp2 hF hFg
theorem scbc0 : FnScope ["book", "lines", "line", "worth", "coin", "rest"] ["book", "lines"] (defScope sbc0) := fsc
theorem okbc0 (D : Def K mg "check_entry" sbc0 .none) (cbp0 : Cal P w K mg base CX0 true 1 "rests_of" ["sides"] [] spRests) (z_sum : mg "sum" = none) : Cal P w K mg base CX0 true 2 "check_entry" ["book", "lines"] [] spChk := by
 obtain ⟨f, fd, F, hm⟩ := D
 obtain ⟨fbp0, fdbp0, dbp0, Gbp0, mbp0, kbp0, bbp0, vbp0, bbp01⟩ := cbp0
 refine ⟨f, fd, _, F.ok scbc0 (fun vs H Q E h => ?_) (fun cdv A outer s H vs Q E hr h => ?_), hm, F.kp, (F.b2), .nil, F.b2⟩
 ·obtain ⟨f, l, L, rfl, hl, hL, g, q⟩ := h
  rfl
 obtain ⟨f, l, L, rfl, hl, hL, g, q⟩ := h
 have nd := scbc0.nd
 refine ⟨_, (Qad (Qa8 PassesOwn.never rfl (Qar (pv 1)) (Qak (i := 2) nd rfl (Or.inl rfl)) (Qag (Qbq (Qap Qee (Qax Qaw (pv 2) Qac (fun _ _ => rfl)) (pv 0) (nomark _)) (Qag Qcj) Qas)))
  (Qad (Qa8 PassesOwn.never rfl (Qar (Qan Gbp0 (hr.mono (by decide)) rfl mbp0 kbp0 bbp0 Paired.nil pass0 (Qaa (Qe5 [] rfl (LcOk.plain (by decide+kernel) (by decide+kernel) rfl (by decide+kernel) rfl) (Qar (pv 1)) (fun C s2 H2 fp xe => (Qb1 Qgr (pv 0) Qco (Qb3 Qac)))) Qaf))) (Qcc rfl (Qam (Qak (i := 4) nd rfl (Or.inl rfl)) (Qam (Qak (i := 5) nd rfl (Or.inl rfl)) Qbx))) (Qag (Qbq (Qap Qee (pv 5) Qac (nomark _)) (Qag Qcj) Qas)))
  (Qad (Qal (i := 3) nd rfl (Or.inl rfl) (Qav (Qid hr) rfl z_sum Qnu (Qaa (Qe5 [] rfl (LcOk.plain (by decide+kernel) (by decide+kernel) rfl (by decide+kernel) rfl) (Qar (pv 1)) (fun C s2 H2 fp xe => (Qax Qbk (pv 0) Qac (fun _ _ => rfl)))) Qaf)))
  (Qag (Qbq (Qap Qee (pv 3) Qac (nomark _)) (Qag Qcj) Qas))))), ?_⟩
 have hline : 10 ^ 6 ≤ sizeLine := by decide
 have hn := g.n
 refine ⟨_, rfl, l, rfl, ⟨_, SqL.of hl⟩, ?_⟩
 refine Qaz (xs := rf5 L) (fun i σ H' => ∃ (o2 o3 o4 o5 : Option V), σ = [some (.str f), some (.ref l), o2, o3, o4, o5] ∧ H' = H) ⟨_, _, _, _, rfl, rfl⟩ ?_ ?_ ?_
 ·rintro i σ H1 hi ⟨o2, o3, o4, o5, rfl, rfl⟩
  exact SqL.of hl
 ·rintro i x σ H1 hx ⟨o2, o3, o4, o5, rfl, rfl⟩
  obtain ⟨z, hz, rfl⟩ := Qdx hx
  have hm := List.mem_of_getElem? hz
  have hT := SqT.of (K := K) (hL z hm)
  exact ⟨_, rfl, .inr (.inl ⟨z.1, _, 0, _, rfl, rfl, hT, rfl, _, rfl, rfl, _, rfl, ndecF (congrArg V.str (g.f z hm)) ⟨_, _, _, _, rfl, rfl⟩⟩)⟩
 rintro σ H1 ⟨o2, o3, o4, o5, rfl, rfl⟩
 refine ⟨_, rfl, l, rfl, ⟨_, SqL.of hl⟩, ?_⟩
 refine Qcm (xs := rf5 L) (fun i ys H2 => ∃ S : List Sd, ys = rfs S ∧ S.length = i ∧ prs S = prsL (L.take i) ∧ (∀ z ∈ S, H2 z.1 = some (tupZ z)) ∧ Same H1 H2) ⟨[], rfl, rfl, rfl, (fun z hz => nomatch hz), fun _ _ h => h⟩ (by rw [Qbo]; omega) ?_ ?_ ?_
 ·rintro i ys H2 hi ⟨S, rfl, hS, _, _, e⟩
  exact ⟨SqL.of (e _ _ hl), by rw [Qbc]; exact hS⟩
 ·rintro i x ys H2 hx ⟨S, rfl, hS, hp, hSt, e⟩
  obtain ⟨z, hz, rfl⟩ := Qdx hx
  have hzz := e _ _ (hL z (List.mem_of_getElem? hz))
  refine ⟨_, rfl, _, rfl, z.1, _, rfl, SqT.of hzz, (fun h => absurd (show (4 : Nat) = 5 from h.2) (by decide)), fun p hp0 => ?_⟩
  have f1 := Qae (o := tupZ (p, z.2.1, z.2.2.1.1, z.2.2.1.2, z.2.2.2.1)) hp0
  refine ⟨S ++ [(p, z.2.1, z.2.2.1.1, z.2.2.1.2, z.2.2.2.1)], by rw [Qdv]; rfl, by rw [List.length_append, hS]; rfl, ?_, fun y hy => ?_, e.trans f1⟩
  ·unfold prs prsL at hp ⊢
   rw [Qa7 hz, List.map_append, List.map_append, hp]
   rfl
  ·rcases List.mem_append.mp hy with w | w
   ·exact f1 _ _ (hSt y w)
   ·rw [List.mem_singleton.mp w]
    exact Qab
 rintro ys H2 ⟨S, rfl, hS, hp, hSt, e⟩ sl hsl
 rw [Qbo] at hS
 rw [Qbo, List.take_length] at hp
 have f2 := Qae (o := .lst (rfs S)) hsl
 refine ⟨sl, S, rfl, Qab, (fun z hz => f2 _ _ (hSt z hz)), by omega, fun rp R H3 e3 hrp0 hrp hR hRt => ⟨rp, rfl, ⟨_, SqL.of hrp⟩, ?_⟩⟩
 have ee := (e.trans f2).trans e3
 refine Qaz (xs := rfr R) (fun i σ H' => ∃ (o2 o3 o4 o5 : Option V), σ = [some (.str f), some (.ref l), o2, o3, o4, o5] ∧ H' = H3) ⟨_, _, _, _, rfl, rfl⟩ ?_ ?_ ?_
 ·rintro i σ H4 hi ⟨o2, o3, o4, o5, rfl, rfl⟩
  exact SqL.of hrp
 ·rintro i x σ H4 hx ⟨o2, o3, o4, o5, rfl, rfl⟩
  obtain ⟨z, hz, rfl⟩ := Qji hx
  have hm := List.mem_of_getElem? hz
  have h0 : z.2.2 = 0 := by
   have hz2 : z.2 ∈ N21.rs (prs S) := by
    rw [← hR]
    exact List.mem_map_of_mem hm
   unfold N21.rs at hz2
   obtain ⟨c, _, ec⟩ := List.mem_map.mp hz2
   rw [← ec]
   show N21.tot c (prs S) = 0
   rw [hp]
   exact g.c c
  refine ⟨z.1, _, rfl, SqT.of (hRt z hm), rfl, _, _, rfl, _, _, rfl, rfl, ?_⟩
  exact ⟨_, rfl, rfl, _, rfl, ndecF (congrArg V.int h0) ⟨_, _, _, _, rfl, rfl⟩⟩
 rintro σ H4 ⟨o2, o3, o4, o5, rfl, rfl⟩
 refine ⟨_, rfl, l, rfl, ⟨_, SqL.of (ee _ _ hl)⟩, ?_⟩
 refine Qcm (xs := rf5 L) (fun i ys H5 => ys = (wrs (L.take i)).map V.int ∧ H5 = H4) ⟨rfl, rfl⟩ (by rw [Qbo]; omega) ?_ ?_ ?_
 ·rintro i ys H5 hi ⟨rfl, rfl⟩
  rw [Qbo] at hi
  refine ⟨SqL.of (ee _ _ hl), ?_⟩
  unfold wrs
  rw [List.length_map, List.length_map, List.length_take]
  omega
 ·rintro i x ys H5 hx ⟨rfl, rfl⟩
  obtain ⟨z, hz, rfl⟩ := Qdx hx
  have hT := SqT.of (K := K) (ee _ _ (hL z (List.mem_of_getElem? hz)))
  refine ⟨_, rfl, .inr (.inl ⟨z.1, _, 4, _, rfl, rfl, hT, rfl, ?_, rfl⟩)⟩
  unfold wrs
  rw [Qa7 hz, List.map_append, List.map_append]
  rfl
 rintro ys H5 ⟨rfl, rfl⟩ wl hwl
 rw [Qbo, List.take_length]
 have f6 := Qae (o := .lst ((wrs L).map V.int)) hwl
 refine ⟨wl, wrs L, rfl, SqL.of Qab, ?_⟩
 rw [g.w]
 exact ⟨_, rfl, rfl, _, rfl, ndecF rfl (q _ (ee.trans f6))⟩
abbrev saa0 : Stmt := inClass (top 21) 0
theorem scaa0 : FnScope ["self", "firm"] ["self", "firm"] (defScope saa0) := fsc
theorem okaa0 {C_Book : Addr} (D : DefI K C_Book "Book.__init__" saa0 .none) (cl_Book : Cls K C_Book) (n_bbook : NoAttr K C_Book "book") (n_bkept : NoAttr K C_Book "kept") : CalI P w K mg base CX0 cm 1 C_Book ["self", "firm"] [] (spBkI C_Book) := by
 obtain ⟨f, fd, F, hm⟩ := D
 refine ⟨f, fd, _, F.ok scaa0 (fun vs H Q E h => ?_) (fun cdv A outer s H vs Q E hr h => ?_), hm, (F.b2), .nil, F.b2⟩
 ·obtain ⟨p, dx, f, rfl, hp, q⟩ := h
  rfl
 obtain ⟨p, dx, f, rfl, hp, q⟩ := h
 have nd := scaa0.nd
 refine ⟨_, (Qad (Qho (pv 0) (pv 1) rfl)
  (Qag (Qho (pv 0) (Qb4 Qaf) rfl))), ?_⟩
 refine ⟨_, rfl, _, rfl, p, C_Book, dx, [], rfl, hp, cl_Book, n_bbook, (by show 0 < 1000; decide), ?_⟩
 refine ⟨(by show 0 ≤ sizeLine; decide), fun kl hkl => ?_⟩
 have npk : p ≠ kl := Qai Qab hkl
 have hk0 : H kl = none := by
  rw [Qah (Ne.symm npk)] at hkl
  exact hkl
 refine ⟨_, rfl, p, C_Book, dx, _, rfl, (by rw [Qah npk]; exact Qab), cl_Book, n_bkept, (by show 1 < 1000; decide), ?_⟩
 refine q kl _ hk0 (Ne.symm npk) ⟨⟨dx, _, Qab, ?_, ?_, fun m hm => ?_⟩⟩ ?_ fun b o e hb => ?_
 ·rw [Qa3, if_neg bk_ne, Qa3, if_pos rfl]
 ·rw [Qa3, if_pos rfl]
 ·rw [Qa3, Qa3]
  have h1 : ¬ m = ("kept" : Str) := by
   intro z
   subst z
   exact absurd hm (by decide+kernel)
  have h2 : ¬ m = ("book" : Str) := by
   intro z
   subst z
   exact absurd hm (by decide+kernel)
  rw [if_neg h1, if_neg h2]
  rfl
 ·rw [Qah (Ne.symm npk), Qab]
 ·rw [Qah hb, Qah (Qai e hk0), Qah hb]
  exact e
abbrev sad0 : Stmt := inClass (top 21) 1
theorem scad0 : FnScope ["self", "day"] ["self", "day"] (defScope sad0) := fsc
theorem okad0 {C_Book : Addr} (D : DefM K C_Book "may_enter" "Book.may_enter" sad0 .none) : CalM P w K mg base CX0 cm 1 C_Book "may_enter" ["self", "day"] [] (spMay0 C_Book) := by
 obtain ⟨f, fd, F, hm⟩ := D
 refine ⟨f, fd, _, F.ok scad0 (fun vs H Q E h => ?_) (fun cdv A outer s H vs Q E hr h => ?_), hm, (F.b2), .nil, F.b2⟩
 ·obtain ⟨p, d, rfl, q⟩ := h
  rfl
 obtain ⟨p, d, rfl, q⟩ := h
 have nd := scad0.nd
 refine ⟨_, (Qag (Qaq Qeq)), ?_⟩
 exact q
abbrev sae0 : Stmt := inClass (top 21) 2
theorem scae0 : FnScope ["self", "day", "about", "lines"] ["self", "day", "about", "lines"] (defScope sae0) := fsc
theorem okae0 {C_Book : Addr} (D : DefM K C_Book "post" "Book.post" sae0 .none) (cad0 : CalM P w K mg base CX0 true 1 C_Book "may_enter" ["self", "day"] [] (spMay0 C_Book)) (cbc0 : Cal P w K mg base CX0 true 2 "check_entry" ["book", "lines"] [] spChk) (z_tuple : mg "tuple" = none) (z_len : mg "len" = none) (cl_Book : Cls K C_Book) (n_bbook : NoAttr K C_Book "book") (n_bkept : NoAttr K C_Book "kept") : CalM P w K mg base CX0 true 3 C_Book "post" ["self", "day", "about", "lines"] [] (spPost0 C_Book) := by
 obtain ⟨f, fd, F, hm⟩ := D
 obtain ⟨fad0, fdad0, dad0, Gad0, mad0, bad0, vad0, bad01⟩ := cad0
 obtain ⟨fbc0, fdbc0, dbc0, Gbc0, mbc0, kbc0, bbc0, vbc0, bbc01⟩ := cbc0
 refine ⟨f, fd, _, F.ok scae0 (fun vs H Q E h => ?_) (fun cdv A outer s H vs Q E hr h => ?_), hm, (F.b4), .nil, F.b4⟩
 ·obtain ⟨p, kl, f, es, d, ab, l, L, rfl, R, hk, hes, hl, hL, g, q⟩ := h
  rfl
 obtain ⟨p, kl, f, es, d, ab, l, L, rfl, R, hk, hes, hl, hL, g, q⟩ := h
 have nd := scae0.nd
 refine ⟨_, (Qad (Qbg (Qb8 (pv 0) cl_Book mad0 Gad0 (hr.mono (by decide)) bad0 Paired.nil pass0 (Qaa (pv 1) Qaf)))
  (Qad (Qbg (Qan Gbc0 (hr.mono (by decide)) rfl mbc0 kbc0 bbc0 Paired.nil pass0 (Qaa (Qcn (pv 0) rfl) (Qaa (pv 3) Qaf))))
  (Qad (Qbg (Qc1 PySem.F.plainAttrs_list PySem.F.slot_list_append PySem.F.type_list_append Qbj (Qcn (pv 0) rfl) (Qaa (Qay (Qaa (pv 1) (Qaa (pv 2) (Qaa (Qby Qff rfl z_tuple Qmv (Qaa (pv 3) Qaf)) Qaf)))) Qaf)))
  (Qag (Qaq (Qaj Qfz (Qav Qa5 rfl z_len Qcw (Qaa (Qcn (pv 0) rfl) Qaf)) Qac)))))), ?_⟩
 obtain ⟨dx, fs, hp, hbk, hke, hno⟩ := R.ob
 have hline : 10 ^ 6 ≤ sizeLine := by decide
 refine ⟨_, rfl, p, dx, fs, rfl, hp, hno _ (by decide+kernel), _, rfl, p, d, rfl, ?_⟩
 refine ⟨_, rfl, p, C_Book, dx, fs, _, rfl, hp, cl_Book, n_bbook, hbk, _, rfl, f, l, L, rfl, hl, hL, g, fun H1 e1 => ?_⟩
 refine ⟨_, rfl, p, C_Book, dx, fs, _, rfl, (e1 _ _ hp), cl_Book, n_bkept, hke, .inl ⟨rfl, _, SqL.of (e1 _ _ hk)⟩, _, rfl, _, rfl, _, rfl, l, _, rfl, .inl ⟨SqL.of (e1 _ _ hl), fun t ht => ⟨(by show 3 ≤ sizeLine; decide), fun e he => ?_⟩⟩⟩
 have f1 := Qae (o := .tup (rf5 L)) ht
 have f2 := Qae (o := .tup [.int d, .int ab, .ref t]) he
 have f := (e1.trans f1).trans f2
 refine ⟨kl, _, _, rfl, rfl, f _ _ hk, by omega, ?_⟩
 have npk : p ≠ kl := Qbd hp hk (by intro z; cases z)
 have nek : e ≠ kl := Qbd (Qab (H := _) (a := e) (o := .tup [.int d, .int ab, .ref t])) (f _ _ hk) (by intro z; cases z)
 have ntk : t ≠ kl := Qbd (f2 _ _ (Qab (H := _) (a := t) (o := .tup (rf5 L)))) (f _ _ hk) (by intro z; cases z)
 refine ⟨_, rfl, p, C_Book, dx, fs, _, rfl, (by rw [Qah npk]; exact f _ _ hp), cl_Book, n_bkept, hke, kl, _, rfl, .inl (SqL.of Qab), _, _, rfl, rfl, ?_⟩
 refine q e t _ _ (fun b o hb nb => by rw [Qah nb]; exact f _ _ hb) Qab ?_ ?_
 ·rw [Qah nek]
  exact Qab
 ·rw [Qah ntk]
  exact f2 _ _ Qab
abbrev saf0 : Stmt := inClass (top 21) 4
theorem scaf0 : FnScope ["self", "upto", "found", "number", "entry", "place", "line"] ["self", "upto"] (defScope saf0) := fsc
theorem okaf0 {C_Book : Addr} {Taf0 : Addr} (D : DefM K C_Book "spots" "Book.spots" saf0 (.ref Taf0)) {odaf0 : Option Addr} {naf0 : Nat} {slaf0 : Array Q6} (lTaf0 : K.lookup Taf0 = some ⟨.type "tuple", odaf0, .seq #[.none] naf0, slaf0⟩) (cbm0 : Cal P w K mg base CX0 true 1 "month_of" ["day"] [] spMon) (z_enumerate : mg "enumerate" = none) (cl_Book : Cls K C_Book) (n_bbook : NoAttr K C_Book "book") (n_bkept : NoAttr K C_Book "kept") : CalM P w K mg base CX0 true 2 C_Book "spots" ["self", "upto"] [.non] (spSpots0 C_Book) := by
 obtain ⟨f, fd, F, hm⟩ := D
 obtain ⟨fbm0, fdbm0, dbm0, Gbm0, mbm0, kbm0, bbm0, vbm0, bbm01⟩ := cbm0
 refine ⟨f, fd, _, F.ok scaf0 (fun vs H Q E h => ?_) (fun cdv A outer s H vs Q E hr h => ?_), hm, (F.bindsD (ds := []) lTaf0 2 rfl fun _ _ _ _ _ _ us hl => match us, hl with | [_, _], _ => ⟨_, rfl, rfl⟩), (.cons rfl .nil), F.bindsD (ds := [.none]) lTaf0 1 rfl fun _ _ _ _ _ _ us hl => match us, hl with | [_], _ => ⟨_, rfl, rfl⟩⟩
 ·obtain ⟨p, kl, f, m, E, rfl, R, hk, hE, hEl, q⟩ := h
  rfl
 obtain ⟨p, kl, f, m, E, rfl, R, hk, hE, hEl, q⟩ := h
 have nd := scaf0.nd
 refine ⟨_, (Qad (Qal (i := 2) nd rfl (Or.inl rfl) (Qb4 Qaf))
  (Qad (Qa8 PassesOwn.never rfl (Qof rfl z_enumerate (Qaa (Qcn (pv 0) rfl) Qaf)) (Qcc rfl (Qam (Qak (i := 3) nd rfl (Or.inl rfl)) (Qam (Qak (i := 4) nd rfl (Or.inl rfl)) Qbx))) (Qag (Qbq (PW.pt (Qjp (Qap Qjy (pv 1) Qeq (nomark _)) (Qfu (Qap op_le (Qan Gbm0 (hr.mono (by decide)) rfl mbm0 kbm0 bbm0 Paired.nil pass0 (Qaa (Qax Qaw (pv 4) Qac (fun _ _ => rfl)) Qaf)) (pv 1) (nomark _))))) (Qag (Qa8 PassesOwn.never rfl (Qly rfl z_enumerate (Qaa (Qax Qaw (pv 4) Qac (fun _ _ => rfl)) Qaf)) (Qcc rfl (Qam (Qak (i := 5) nd rfl (Or.inl rfl)) (Qam (Qak (i := 6) nd rfl (Or.inl rfl)) Qbx))) (Qag (Qbg (Qc1 PySem.F.plainAttrs_list PySem.F.slot_list_append PySem.F.type_list_append Qbj (pv 2) (Qaa (Qay (Qaa (Qay (Qaa (Qcn (pv 0) rfl) (Qaa (pv 3) (Qaa (pv 5) Qaf)))) (Qaa (pv 6) Qaf))) Qaf)))))) Qas)))
  (Qag (Qaq (pv 2))))), ?_⟩
 obtain ⟨dx, fs, hp, hbk, hke, hno⟩ := R.ob
 cases m with
 | none =>
   have hline : 10 ^ 6 ≤ sizeLine := by decide
   refine ⟨(by show 0 ≤ sizeLine; decide), fun r hr0 => ?_⟩
   have e1 := Qae (o := .lst []) hr0
   have hD : ∀ i, (upto ((dl E).take i) none).length ≤ 168000 := fun i => by
    have h := Qdk (D := (dl E).take i) (m := none) (fun d hd => by
     obtain ⟨e, he, rfl⟩ := List.mem_map.mp (List.mem_of_mem_take hd)
     exact (hE e he).2.2.2)
    rw [List.length_take] at h
    have : (dl E).length = E.length := List.length_map ..
    omega
   have eN := Qda E
   refine ⟨_, rfl, p, C_Book, dx, fs, _, rfl, (e1 _ _ hp), cl_Book, n_bkept, hke, kl, rfl, ⟨_, SqL.of (e1 _ _ hk)⟩, ?_⟩
   refine Qh5 (xs := rfE E) (fun i σ H' => ∃ (o3 o4 o5 o6 : Option V) (T : List Tp), σ = [some (.ref p), some .non, some (.ref r), o3, o4, o5, o6] ∧ Same H H' ∧ H' r = some (.lst (rfT T)) ∧ TpL H' T ∧ T.map (·.2) = upto ((dl E).take i) none) ⟨_, _, _, _, [], rfl, e1, Qab, (fun z hz => nomatch hz), rfl⟩ ?_ ?_ ?_
   ·rintro i σ H1 hi ⟨o3, o4, o5, o6, T, rfl, e, _⟩
    exact SqL.of (e _ _ hk)
   ·rintro i x σ H1 t hx ⟨o3, o4, o5, o6, T, rfl, e, hrr, hT, hTu⟩ ht
    obtain ⟨z, hz, rfl⟩ := Qm9 hx
    have hzm := List.mem_of_getElem? hz
    have f1 := Qae (o := .tup [.int (i : Int), .ref z.1]) ht
    have g1 := e.trans f1
    have hzE := (hE.same g1) z hzm
    have hzT := SqT.of (K := K) hzE.1
    have nx := Qi5 (m := none) (show (dl E)[i]? = some (z.2.1, z.2.2.2.2) by unfold dl; rw [List.getElem?_map, hz]; rfl)
    refine ⟨t, _, rfl, SqT.of Qab, rfl, _, _, rfl, _, _, rfl, rfl, ?_⟩
    refine ⟨_, rfl, rfl, _, rfl, decT rfl (iteT ?_)⟩
    rw [if_pos (show okM none z.2.1 = true from rfl)] at nx
    refine ⟨_, rfl, .inr (.inl ⟨z.1, _, 2, _, rfl, rfl, hzT, rfl, z.2.2.2.1, rfl, ⟨_, SqT.of hzE.2.1⟩, ?_⟩)⟩
    refine Qga (xs := rf5 z.2.2.2.2) (fun j σ H' => ∃ (o5 o6 : Option V) (T' : List Tp), σ = [some (.ref p), some .non, some (.ref r), some (.int (i : Int)), some (.ref z.1), o5, o6] ∧ Same H H' ∧ H' r = some (.lst (rfT T')) ∧ TpL H' T' ∧ T'.map (·.2) = upto ((dl E).take i) none ++ z.2.2.2.2.take j) ⟨_, _, T, rfl, g1, f1 _ _ hrr, (fun y hy => by obtain ⟨s, hs⟩ := hT y hy; exact ⟨s, f1 _ _ hs⟩), by rw [hTu]; simp⟩ ?_ ?_ ?_
    ·rintro j σ H2 hj ⟨o5, o6, T', rfl, e2, _⟩
     exact SqT.of ((hE.same e2) z hzm).2.1
    ·rintro j x σ H2 t2 hx2 ⟨o5, o6, T', rfl, e2, hr2, hT2, hTu2⟩ ht2
     obtain ⟨y, hy, rfl⟩ := Qdx hx2
     have f2 := Qae (o := .tup [.int (j : Int), .ref y.1]) ht2
     have hTl : T'.length ≤ 200000 := by
      have a := congrArg List.length hTu2
      rw [List.length_map, List.length_append, List.length_take] at a
      have b := hD i
      have c := (hE z hzm).2.2.2
      omega
     refine ⟨t2, _, rfl, SqT.of Qab, rfl, _, _, rfl, _, _, rfl, rfl, ?_⟩
     refine ⟨_, rfl, .inl ⟨rfl, _, SqL.of (f2 _ _ hr2)⟩, _, rfl, p, C_Book, dx, fs, _, rfl, (f2 _ _ (e2 _ _ hp)), cl_Book, n_bbook, hbk, _, rfl, _, rfl, (by show 3 ≤ sizeLine; decide), fun s hs => ⟨_, rfl, (by show 2 ≤ sizeLine; decide), fun u hu => ?_⟩⟩
     have f3 := Qae (o := .tup [.str f, .int (i : Int), .int (j : Int)]) hs
     have f4 := Qae (o := .tup [.ref s, .ref y.1]) hu
     have f234 := (f2.trans f3).trans f4
     refine ⟨r, _, _, rfl, rfl, f234 _ _ hr2, by rw [Qdw]; omega, ?_⟩
     refine ⟨_, _, T' ++ [(u, y)], rfl, Qat (e2.trans f234) hr0, by rw [Qab, Qjj]; rfl, fun v hv => ?_, ?_⟩
     ·rcases List.mem_append.mp hv with w | w
      ·obtain ⟨s2, hs2⟩ := hT2 v w
       exact ⟨s2, Qbi (f234 _ _ hs2) (f234 _ _ hr2)⟩
      ·rw [List.mem_singleton.mp w]
       exact ⟨s, Qbi Qab (f234 _ _ hr2)⟩
     ·rw [List.map_append, hTu2, Qa7 hy, List.append_assoc]
      rfl
    ·rintro σ H2 ⟨o5, o6, T', rfl, e2, hr2, hT2, hTu2⟩
     refine ⟨_, _, _, _, T', rfl, e2, hr2, hT2, ?_⟩
     rw [nx, hTu2, Qbo, List.take_length]
   rintro σ H1 ⟨o3, o4, o5, o6, T, rfl, e, hrr, hT, hTu⟩
   rw [Qda, show (dl E).take E.length = dl E by rw [show E.length = (dl E).length from (List.length_map ..).symm, List.take_length]] at hTu
   exact ⟨_, rfl, q r T _ e hrr hT hTu⟩
 | some m =>
   have hline : 10 ^ 6 ≤ sizeLine := by decide
   refine ⟨(by show 0 ≤ sizeLine; decide), fun r hr0 => ?_⟩
   have e1 := Qae (o := .lst []) hr0
   have hD : ∀ i, (upto ((dl E).take i) (some m)).length ≤ 168000 := fun i => by
    have h := Qdk (D := (dl E).take i) (m := some m) (fun d hd => by
     obtain ⟨e, he, rfl⟩ := List.mem_map.mp (List.mem_of_mem_take hd)
     exact (hE e he).2.2.2)
    rw [List.length_take] at h
    have : (dl E).length = E.length := List.length_map ..
    omega
   have eN := Qda E
   refine ⟨_, rfl, p, C_Book, dx, fs, _, rfl, (e1 _ _ hp), cl_Book, n_bkept, hke, kl, rfl, ⟨_, SqL.of (e1 _ _ hk)⟩, ?_⟩
   refine Qh5 (xs := rfE E) (fun i σ H' => ∃ (o3 o4 o5 o6 : Option V) (T : List Tp), σ = [some (.ref p), some (.int m), some (.ref r), o3, o4, o5, o6] ∧ Same H H' ∧ H' r = some (.lst (rfT T)) ∧ TpL H' T ∧ T.map (·.2) = upto ((dl E).take i) (some m)) ⟨_, _, _, _, [], rfl, e1, Qab, (fun z hz => nomatch hz), rfl⟩ ?_ ?_ ?_
   ·rintro i σ H1 hi ⟨o3, o4, o5, o6, T, rfl, e, _⟩
    exact SqL.of (e _ _ hk)
   ·rintro i x σ H1 t hx ⟨o3, o4, o5, o6, T, rfl, e, hrr, hT, hTu⟩ ht
    obtain ⟨z, hz, rfl⟩ := Qm9 hx
    have hzm := List.mem_of_getElem? hz
    have f1 := Qae (o := .tup [.int (i : Int), .ref z.1]) ht
    have g1 := e.trans f1
    have hzE := (hE.same g1) z hzm
    have hzT := SqT.of (K := K) hzE.1
    have nx := Qi5 (m := some m) (show (dl E)[i]? = some (z.2.1, z.2.2.2.2) by unfold dl; rw [List.getElem?_map, hz]; rfl)
    refine ⟨t, _, rfl, SqT.of Qab, rfl, _, _, rfl, _, _, rfl, rfl, ?_⟩
    refine ⟨_, rfl, rfl, _, rfl, decF (fun h => by cases h) ?_⟩
    refine ⟨_, rfl, .inr (.inl ⟨z.1, _, 0, _, rfl, rfl, hzT, rfl, z.2.1, rfl, _, rfl, _, _, rfl, rfl, _, rfl, ?_⟩)⟩
    refine dec2 (fun h => ?_) (fun h => ?_)
    ·rw [if_pos (show okM (some m) z.2.1 = true from decide_eq_true h)] at nx
     refine ⟨_, rfl, .inr (.inl ⟨z.1, _, 2, _, rfl, rfl, hzT, rfl, z.2.2.2.1, rfl, ⟨_, SqT.of hzE.2.1⟩, ?_⟩)⟩
     refine Qga (xs := rf5 z.2.2.2.2) (fun j σ H' => ∃ (o5 o6 : Option V) (T' : List Tp), σ = [some (.ref p), some (.int m), some (.ref r), some (.int (i : Int)), some (.ref z.1), o5, o6] ∧ Same H H' ∧ H' r = some (.lst (rfT T')) ∧ TpL H' T' ∧ T'.map (·.2) = upto ((dl E).take i) (some m) ++ z.2.2.2.2.take j) ⟨_, _, T, rfl, g1, f1 _ _ hrr, (fun y hy => by obtain ⟨s, hs⟩ := hT y hy; exact ⟨s, f1 _ _ hs⟩), by rw [hTu]; simp⟩ ?_ ?_ ?_
     ·rintro j σ H2 hj ⟨o5, o6, T', rfl, e2, _⟩
      exact SqT.of ((hE.same e2) z hzm).2.1
     ·rintro j x σ H2 t2 hx2 ⟨o5, o6, T', rfl, e2, hr2, hT2, hTu2⟩ ht2
      obtain ⟨y, hy, rfl⟩ := Qdx hx2
      have f2 := Qae (o := .tup [.int (j : Int), .ref y.1]) ht2
      have hTl : T'.length ≤ 200000 := by
       have a := congrArg List.length hTu2
       rw [List.length_map, List.length_append, List.length_take] at a
       have b := hD i
       have c := (hE z hzm).2.2.2
       omega
      refine ⟨t2, _, rfl, SqT.of Qab, rfl, _, _, rfl, _, _, rfl, rfl, ?_⟩
      refine ⟨_, rfl, .inl ⟨rfl, _, SqL.of (f2 _ _ hr2)⟩, _, rfl, p, C_Book, dx, fs, _, rfl, (f2 _ _ (e2 _ _ hp)), cl_Book, n_bbook, hbk, _, rfl, _, rfl, (by show 3 ≤ sizeLine; decide), fun s hs => ⟨_, rfl, (by show 2 ≤ sizeLine; decide), fun u hu => ?_⟩⟩
      have f3 := Qae (o := .tup [.str f, .int (i : Int), .int (j : Int)]) hs
      have f4 := Qae (o := .tup [.ref s, .ref y.1]) hu
      have f234 := (f2.trans f3).trans f4
      refine ⟨r, _, _, rfl, rfl, f234 _ _ hr2, by rw [Qdw]; omega, ?_⟩
      refine ⟨_, _, T' ++ [(u, y)], rfl, Qat (e2.trans f234) hr0, by rw [Qab, Qjj]; rfl, fun v hv => ?_, ?_⟩
      ·rcases List.mem_append.mp hv with w | w
       ·obtain ⟨s2, hs2⟩ := hT2 v w
        exact ⟨s2, Qbi (f234 _ _ hs2) (f234 _ _ hr2)⟩
       ·rw [List.mem_singleton.mp w]
        exact ⟨s, Qbi Qab (f234 _ _ hr2)⟩
      ·rw [List.map_append, hTu2, Qa7 hy, List.append_assoc]
       rfl
     ·rintro σ H2 ⟨o5, o6, T', rfl, e2, hr2, hT2, hTu2⟩
      refine ⟨_, _, _, _, T', rfl, e2, hr2, hT2, ?_⟩
      rw [nx, hTu2, Qbo, List.take_length]
    ·rw [if_neg (show ¬ okM (some m) z.2.1 = true from fun w => h (of_decide_eq_true w)), List.append_nil] at nx
     exact ⟨_, _, _, _, T, rfl, g1, f1 _ _ hrr, (fun y hy => by obtain ⟨s, hs⟩ := hT y hy; exact ⟨s, f1 _ _ hs⟩), by rw [nx]; exact hTu⟩
   rintro σ H1 ⟨o3, o4, o5, o6, T, rfl, e, hrr, hT, hTu⟩
   rw [Qda, show (dl E).take E.length = dl E by rw [show E.length = (dl E).length from (List.length_map ..).symm, List.take_length]] at hTu
   exact ⟨_, rfl, q r T _ e hrr hT hTu⟩
abbrev sac0 : Stmt := inClass (top 21) 5
theorem scac0 : FnScope ["self", "upto"] ["self", "upto"] (defScope sac0) := fsc
theorem okac0 {C_Book : Addr} {Tac0 : Addr} (D : DefM K C_Book "lines_upto" "Book.lines_upto" sac0 (.ref Tac0)) {odac0 : Option Addr} {nac0 : Nat} {slac0 : Array Q6} (lTac0 : K.lookup Tac0 = some ⟨.type "tuple", odac0, .seq #[.none] nac0, slac0⟩) (caf0 : CalM P w K mg base CX0 true 2 C_Book "spots" ["self", "upto"] [.non] (spSpots0 C_Book)) (cl_Book : Cls K C_Book) (n_bbook : NoAttr K C_Book "book") (n_bkept : NoAttr K C_Book "kept") : CalM P w K mg base CX0 true 3 C_Book "lines_upto" ["self", "upto"] [.non] (spUpto0 C_Book) := by
 obtain ⟨f, fd, F, hm⟩ := D
 obtain ⟨faf0, fdaf0, daf0, Gaf0, maf0, baf0, vaf0, baf01⟩ := caf0
 refine ⟨f, fd, _, F.ok scac0 (fun vs H Q E h => ?_) (fun cdv A outer s H vs Q E hr h => ?_), hm, (F.bindsD (ds := []) lTac0 2 rfl fun _ _ _ _ _ _ us hl => match us, hl with | [_, _], _ => ⟨_, rfl, rfl⟩), (.cons rfl .nil), F.bindsD (ds := [.none]) lTac0 1 rfl fun _ _ _ _ _ _ us hl => match us, hl with | [_], _ => ⟨_, rfl, rfl⟩⟩
 ·obtain ⟨p, kl, f, m, E, rfl, R, hk, hE, hEl, q⟩ := h
  rfl
 obtain ⟨p, kl, f, m, E, rfl, R, hk, hE, hEl, q⟩ := h
 have nd := scac0.nd
 refine ⟨_, (Qag (Qaq (Qnf (xs := ["spot", "line"]) [] rfl (LcOkT.plain (xs := ["spot", "line"]) (by decide+kernel) (by decide+kernel) rfl (by decide+kernel) (by decide+kernel) (by decide+kernel)) (Qar (Qb8 (pv 0) cl_Book maf0 Gaf0 (hr.mono (by decide)) baf0 Paired.nil pass0 (Qaa (pv 1) Qaf))) (Qhp rfl (LcOkT.plain (xs := ["spot", "line"]) (by decide+kernel) (by decide+kernel) rfl (by decide+kernel) (by decide+kernel) (by decide+kernel))) (fun C s2 H2 fp xe => (pv 1))))), ?_⟩
 obtain ⟨dx, fs, hp, hbk, hke, hno⟩ := R.ob
 have hline : 10 ^ 6 ≤ sizeLine := by decide
 refine ⟨_, rfl, p, dx, fs, rfl, hp, hno _ (by decide+kernel), _, rfl, p, kl, f, m, E, rfl, R, hk, hE, hEl, fun r T H1 e1 hr1 hT hTu => ⟨r, rfl, ⟨_, SqL.of hr1⟩, ?_⟩⟩
 have hTl : T.length ≤ 168000 := by
  have a := congrArg List.length hTu
  rw [List.length_map] at a
  have b := Qdk (D := dl E) (m := m) (fun d hd => by
   obtain ⟨e, he, rfl⟩ := List.mem_map.mp hd
   exact (hE e he).2.2.2)
  have c : (dl E).length = E.length := List.length_map ..
  omega
 refine Qcm (xs := rfT T) (fun j ys H2 => ys = (T.take j).map (fun z => V.ref z.2.1) ∧ H2 = H1) ⟨rfl, rfl⟩ (by rw [Qdw]; omega) ?_ ?_ ?_
 ·rintro j ys H2 hj ⟨rfl, rfl⟩
  rw [Qdw] at hj
  exact ⟨SqL.of hr1, by rw [List.length_map, List.length_take]; omega⟩
 ·rintro j x ys H2 hx ⟨rfl, rfl⟩ σ0 h0
  obtain ⟨y, hy, rfl⟩ := rfT_at hx
  obtain ⟨u, v, rfl⟩ : ∃ u v, σ0 = [u, v] := by
   rcases σ0 with _ | ⟨u, _ | ⟨v, _ | ⟨w, r⟩⟩⟩ <;> simp at h0
   exact ⟨u, v, rfl⟩
  obtain ⟨s, hs⟩ := hT y (List.mem_of_getElem? hy)
  refine ⟨y.1, _, rfl, SqT.of hs, rfl, _, _, rfl, _, _, rfl, rfl, [_, _], rfl, rfl, _, rfl, ?_, rfl⟩
  rw [Qa7 hy, List.map_append]
  rfl
 rintro ys H2 ⟨rfl, rfl⟩ l3 hl3
 rw [Qdw, List.take_length]
 have em : T.map (fun z => V.ref z.2.1) = rf5 (upto (dl E) m) := by
  rw [← hTu]
  unfold rf5
  rw [List.map_map]
  rfl
 rw [em]
 exact q l3 _ (e1.trans (Qae hl3)) Qab
abbrev sab0 : Stmt := inClass (top 21) 6
theorem scab0 : FnScope ["self", "upto"] ["self", "upto"] (defScope sab0) := fsc
theorem okab0 {C_Book : Addr} {Tab0 : Addr} (D : DefM K C_Book "figures" "Book.figures" sab0 (.ref Tab0)) {odab0 : Option Addr} {nab0 : Nat} {slab0 : Array Q6} (lTab0 : K.lookup Tab0 = some ⟨.type "tuple", odab0, .seq #[.none] nab0, slab0⟩) (cbg0 : Cal P w K mg base CX0 true 2 "figures_of" ["lines"] [] spFigs) (cac0 : CalM P w K mg base CX0 true 3 C_Book "lines_upto" ["self", "upto"] [.non] (spUpto0 C_Book)) (cl_Book : Cls K C_Book) (n_bbook : NoAttr K C_Book "book") (n_bkept : NoAttr K C_Book "kept") : CalM P w K mg base CX0 true 4 C_Book "figures" ["self", "upto"] [.non] (spFigures0 C_Book) := by
 obtain ⟨f, fd, F, hm⟩ := D
 obtain ⟨fbg0, fdbg0, dbg0, Gbg0, mbg0, kbg0, bbg0, vbg0, bbg01⟩ := cbg0
 obtain ⟨fac0, fdac0, dac0, Gac0, mac0, bac0, vac0, bac01⟩ := cac0
 refine ⟨f, fd, _, F.ok scab0 (fun vs H Q E h => ?_) (fun cdv A outer s H vs Q E hr h => ?_), hm, (F.bindsD (ds := []) lTab0 2 rfl fun _ _ _ _ _ _ us hl => match us, hl with | [_, _], _ => ⟨_, rfl, rfl⟩), (.cons rfl .nil), F.bindsD (ds := [.none]) lTab0 1 rfl fun _ _ _ _ _ _ us hl => match us, hl with | [_], _ => ⟨_, rfl, rfl⟩⟩
 ·obtain ⟨p, kl, f, m, E, rfl, R, hk, hE, hEl, hk64, q⟩ := h
  rfl
 obtain ⟨p, kl, f, m, E, rfl, R, hk, hE, hEl, hk64, q⟩ := h
 have nd := scab0.nd
 refine ⟨_, (Qag (Qaq (Qan Gbg0 (hr.mono (by decide)) rfl mbg0 kbg0 bbg0 Paired.nil pass0 (Qaa (Qb8 (pv 0) cl_Book mac0 Gac0 (hr.mono (by decide)) bac0 Paired.nil pass0 (Qaa (pv 1) Qaf)) Qaf)))), ?_⟩
 obtain ⟨dx, fs, hp, hbk, hke, hno⟩ := R.ob
 have hline : 10 ^ 6 ≤ sizeLine := by decide
 have b := Qdk (D := dl E) (m := m) (fun d hd => by
  obtain ⟨e, he, rfl⟩ := List.mem_map.mp hd
  exact (hE e he).2.2.2)
 have c : (dl E).length = E.length := List.length_map ..
 refine ⟨_, rfl, p, dx, fs, rfl, hp, hno _ (by decide+kernel), _, rfl, p, kl, f, m, E, rfl, R, hk, hE, hEl, fun r H1 e1 hr1 => ?_⟩
 refine ⟨r, upto (dl E) m, rfl, hr1, fun z hz => ?_, by omega, hk64, fun g F H2 e2 hg0 hg hF hFg => q g F H2 (e1.trans e2) (e1.free hg0) hg hF hFg⟩
 unfold upto at hz
 obtain ⟨d, hd, hz⟩ := List.mem_flatMap.mp hz
 obtain ⟨e, he, rfl⟩ := List.mem_map.mp hd
 split at hz
 ·exact e1 _ _ ((hE e he).2.2.1 z hz)
 ·cases hz
def spTc : Sp := fun vs H Q _ => ∃ (c : Int) (cl : Addr) (cs : List Str), vs = [.int c, .ref cl] ∧ H cl = some (.lst (cs.map V.str)) ∧ cs.length = 4 ∧ ∀ t : Str, Q (.str t) H
def spRts (K : Q5) (C : Addr) : Sp := fun vs H Q _ => ∃ t : Str, vs = [.str t] ∧ ∀ rp d H', Same H H' → H d = none → RatesAt K C H' rp d t [] → Q (.ref rp) H'
def spRt1 : Sp := fun vs H Q _ => ∃ (o u : Int), vs = [.int o, .int u] ∧ ∀ (r : Addr) (x y : Int) H', Same H H' → H' r = some (.tup [.int x, .int y]) → 1 ≤ x → x ≤ 2 ^ 40 → 1 ≤ y → y ≤ 2 ^ 40 → Q (.ref r) H'
def T2 (H : Hp) (kvs : List (Key × V)) (c : Str) : Prop := ∃ r x y, valV kvs (Sum.inr c) = some (.ref r) ∧ H r = some (.tup [.int x, .int y]) ∧ 1 ≤ x ∧ x ≤ 2 ^ 40 ∧ 1 ≤ y ∧ y ≤ 2 ^ 40
def spTab (K : Q5) : Sp := fun vs H Q _ => ∃ (a cl : Addr) (ns : List Int) (cs : List Str) (t : Str), vs = [.ref a, .ref cl, .str t] ∧ SqL K H a (ns.map V.int) ∧ H cl = some (.lst (cs.map V.str)) ∧ cs.length = 4 ∧
 ∀ (d : Addr) (kvs : List (Key × V)) H', Same H H' → H' d = some (.dK kvs) → (∀ c ∈ cs, T2 H' kvs c) → Q (.ref d) H'
theorem m9r (x : Int) : 1 ≤ x % (10 : Int) ^ (9 : Int).toNat + 1 ∧ x % (10 : Int) ^ (9 : Int).toNat + 1 ≤ 2 ^ 40 := by
 show 1 ≤ x % (10 : Int) ^ 9 + 1 ∧ x % (10 : Int) ^ 9 + 1 ≤ 2 ^ 40
 omega
theorem five (a b c d e : Int) {i : Int} (h0 : 0 ≤ i) (h1 : i < 5) : ∃ v : Int, atI [V.int a, V.int b, V.int c, V.int d, V.int e] i = some (.int v) ∧ (v = a ∨ v = b ∨ v = c ∨ v = d ∨ v = e) := by
 have : i = 0 ∨ i = 1 ∨ i = 2 ∨ i = 3 ∨ i = 4 := by omega
 rcases this with rfl | rfl | rfl | rfl | rfl
 ·exact ⟨a, rfl, .inl rfl⟩
 ·exact ⟨b, rfl, .inr (.inl rfl)⟩
 ·exact ⟨c, rfl, .inr (.inr (.inl rfl))⟩
 ·exact ⟨d, rfl, .inr (.inr (.inr (.inl rfl)))⟩
 ·exact ⟨e, rfl, .inr (.inr (.inr (.inr rfl)))⟩
theorem Qm4 {H H' : Hp} {kvs : List (Key × V)} {c e : Str} {r : Addr} {x y : Int} (h : e = c ∨ T2 H kvs e) (k : ∀ b o, H b = some (.tup o) → H' b = some (.tup o)) (hr : H' r = some (.tup [.int x, .int y])) (h1 : 1 ≤ x) (h2 : x ≤ 2 ^ 40) (h3 : 1 ≤ y) (h4 : y ≤ 2 ^ 40) : T2 H' (putK kvs (Sum.inr c) (.ref r)) e := by
 by_cases z : e = c
 ·subst z
  exact ⟨r, x, y, by rw [Qca, if_pos rfl], hr, h1, h2, h3, h4⟩
 ·obtain ⟨r', x', y', a, b, d⟩ := h.elim (fun w => absurd w z) id
  refine ⟨r', x', y', ?_, k _ _ b, d⟩
  rw [Qca, if_neg (fun w => z (Sum.inr.inj w))]
  exact a
theorem scal0 : FnScope ["_law_script", "_law_k"] ["_law_script", "_law_k"] (defScope sal0) := fsc
theorem okal0 (D : Def K mg "_law_cell_at" sal0 .none) (z_len : mg "len" = none) : Cal P w K mg base CX0 cm 1 "_law_cell_at" ["_law_script", "_law_k"] [] (spCell K) := by
 obtain ⟨f, fd, F, hm⟩ := D
 refine ⟨f, fd, _, F.ok scal0 (fun vs H Q E h => ?_) (fun cdv A outer s H vs Q E hr h => ?_), hm, F.kp, (F.b2), .nil, F.b2⟩
 ·obtain ⟨a, ns, k, rfl, hS, q⟩ := h
  rfl
 obtain ⟨a, ns, k, rfl, hS, q⟩ := h
 have nd := scal0.nd
 refine ⟨_, (Qad (Qbq (Qap Qio (pv 1) (Qav Qa5 rfl z_len Qcw (Qaa (pv 0) Qaf)) (nomark _)) (Qag (Qaq (Qax Qaw (pv 0) (pv 1) (fun _ _ => rfl)))) Qas)
  (Qag (Qaq Qac))), ?_⟩
 refine ⟨_, rfl, _, rfl, a, _, rfl, .inl hS, _, _, rfl, rfl, _, rfl, ?_⟩
 rw [List.length_map]
 refine dec2 (fun h => ?_) (fun h => ?_)
 ·refine ⟨_, rfl, _, rfl, .inl ⟨a, _, k, .int (ns.getD k 0), rfl, rfl, hS, Qct ?_, q⟩⟩
  have hk : k < ns.length := by omega
  rw [List.getElem?_map, List.getElem?_eq_getElem hk]
  simp [List.getD, hk]
 ·have hk : ns.length ≤ k := by omega
  have e : ns.getD k 0 = 0 := by simp [List.getD, hk]
  rw [e] at q
  exact q
theorem scar0 : FnScope ["_law_cell", "_law_by"] ["_law_cell", "_law_by"] (defScope sar0) := fsc
theorem okar0 (D : Def K mg "_law_mix" sar0 .none) : Cal P w K mg base CX0 cm 1 "_law_mix" ["_law_cell", "_law_by"] [] spMix := by
 obtain ⟨f, fd, F, hm⟩ := D
 refine ⟨f, fd, _, F.ok scar0 (fun vs H Q E h => ?_) (fun cdv A outer s H vs Q E hr h => ?_), hm, F.kp, (F.b2), .nil, F.b2⟩
 ·obtain ⟨c, b, rfl, hb, q⟩ := h
  rfl
 obtain ⟨c, b, rfl, hb, q⟩ := h
 have nd := scar0.nd
 refine ⟨_, (Qag (Qaq (Qaj Qbh (Qaj Qau (Qaj Qbe (Qaj Qa1 (Qaj Qau (pv 0) Qac) Qac) (pv 1)) Qac) Qac))), ?_⟩
 exact ⟨_, rfl, _, _, rfl, rfl, (by show (0 : Int) < 2147483647; decide), _, _, rfl, rfl, _, rfl, _, _, rfl, rfl, Qb9 (by omega) (by omega) (by omega) (by omega), _, _, rfl, rfl, (by show (0 : Int) < 2147483399; decide), _, _, rfl, rfl, ⟨by decide, by decide⟩, q _ (by omega) (by omega)⟩
theorem scas0 : FnScope ["_law_cell", "_law_many", "_law_letters", "_law_seed", "_law_base", "_law_size", "_law_at", "_law_turn", "_law_names_here", "_law_k"] ["_law_cell", "_law_many"] (defScope sas0) := fsc
theorem okas0 (D : Def K mg "_law_names" sas0 .none) (z_range : mg "range" = none) (z_int : mg "int" = none) : Cal P w K mg base CX0 true 2 "_law_names" ["_law_cell", "_law_many"] [] spNames := by
 obtain ⟨f, fd, F, hm⟩ := D
 refine ⟨f, fd, _, F.ok scas0 (fun vs H Q E h => ?_) (fun cdv A outer s H vs Q E hr h => ?_), hm, F.kp, (F.b2), .nil, F.b2⟩
 ·obtain ⟨c, m, rfl, hm1, hm8, q⟩ := h
  rfl
 obtain ⟨c, m, rfl, hm1, hm8, q⟩ := h
 have nd := scas0.nd
 refine ⟨_, (Qad (Qal (i := 2) nd rfl (Or.inr rfl) Qbz)
  (Qad (Qal (i := 3) nd rfl (Or.inr rfl) (Qaj Qau (pv 0) Qac))
  (Qad (Qal (i := 4) nd rfl (Or.inr rfl) (Qe5 [3] rfl (LcOk.free ["_law_seed"] rfl rfl (List.forall_mem_cons.mpr ⟨rfl, (fun _ h => nomatch h)⟩) (by decide+kernel) rfl (by decide+kernel) rfl (by decide+kernel) (show (["_law_k", "_law_seed"] : List Str).Nodup from by decide+kernel) (List.forall_mem_cons.mpr ⟨⟨_, rfl, rfl, rfl, by decide+kernel⟩, (fun _ h => nomatch h)⟩)) (Qbw rfl z_range (Qaa Qac Qaf)) (fun C s2 H2 fp xe => (Qaj Qau (Qaj Qau (Qaj Qbe (pv 1) (Qaj Qa1 (Qaj Qbe (pv 0) (pv 0)) Qac)) Qac) Qac))))
  (Qad (Qal (i := 5) nd rfl (Or.inl rfl) (Qaj Qa1 Qac (Qaj Qau (Qaj Qbh (pv 3) Qac) Qac)))
  (Qad (Qal (i := 6) nd rfl (Or.inr rfl) (Qaj Qau (Qaj Qbh (pv 3) Qac) (pv 5)))
  (Qad (Qal (i := 7) nd rfl (Or.inl rfl) (Qaj Qau (Qaj Qbh (pv 3) Qac) (pv 1)))
  (Qad (Qal (i := 8) nd rfl (Or.inl rfl) (Qb4 Qaf))
  (Qad (Qa8 PassesOwn.never rfl (Qbw rfl z_range (Qaa (pv 1) Qaf)) (Qak (i := 9) nd rfl (Or.inr rfl)) (Qag (Qbq (Qap Qcl (Qaj Qau (pv 3) Qac) Qac (nomark _)) (Qag (Qbg (Qc1 PySem.F.plainAttrs_list PySem.F.slot_list_append PySem.F.type_list_append Qbj (pv 8) (Qaa (Qc1 PySem.F.plainAttrs_str PySem.F.slot_str_join PySem.F.type_str_join Qj5 Qbz (Qaa (Qe5 [2, 4] rfl (LcOk.free ["_law_letters", "_law_base"] rfl rfl (List.forall_mem_cons.mpr ⟨rfl, (List.forall_mem_cons.mpr ⟨rfl, (fun _ h => nomatch h)⟩)⟩) (by decide+kernel) rfl (by decide+kernel) rfl (by decide+kernel) (show (["_law_j", "_law_letters", "_law_base"] : List Str).Nodup from by decide+kernel) (List.forall_mem_cons.mpr ⟨⟨_, rfl, rfl, rfl, by decide+kernel⟩, (List.forall_mem_cons.mpr ⟨⟨_, rfl, rfl, rfl, by decide+kernel⟩, (fun _ h => nomatch h)⟩)⟩)) (Qbw rfl z_range (Qaa (Qaj Qa1 (pv 9) Qac) Qaf)) (fun C s2 H2 fp xe => (Qax Qbk (pv 1) (Qax Qbk (pv 2) (pv 0) (fun _ _ => rfl)) (fun _ _ => rfl)))) Qaf)) Qaf)))) (Qag (Qbg (Qc1 PySem.F.plainAttrs_list PySem.F.slot_list_append PySem.F.type_list_append Qbj (pv 8) (Qaa (Qc1 PySem.F.plainAttrs_str PySem.F.slot_str_join PySem.F.type_str_join Qj5 Qbz (Qaa (Qe5 [2, 4, 9, 6] rfl (LcOk.free ["_law_letters", "_law_k", "_law_base", "_law_at"] rfl rfl (List.forall_mem_cons.mpr ⟨rfl, (List.forall_mem_cons.mpr ⟨rfl, (List.forall_mem_cons.mpr ⟨rfl, (List.forall_mem_cons.mpr ⟨rfl, (fun _ h => nomatch h)⟩)⟩)⟩)⟩) (by decide+kernel) rfl (by decide+kernel) rfl (by decide+kernel) (show (["_law_j", "_law_letters", "_law_base", "_law_k", "_law_at"] : List Str).Nodup from by decide+kernel) (List.forall_mem_cons.mpr ⟨⟨_, rfl, rfl, rfl, by decide+kernel⟩, (List.forall_mem_cons.mpr ⟨⟨_, rfl, rfl, rfl, by decide+kernel⟩, (List.forall_mem_cons.mpr ⟨⟨_, rfl, rfl, rfl, by decide+kernel⟩, (List.forall_mem_cons.mpr ⟨⟨_, rfl, rfl, rfl, by decide+kernel⟩, (fun _ h => nomatch h)⟩)⟩)⟩)⟩)) (Qbw rfl z_range (Qaa (pv 5) Qaf)) (fun C s2 H2 fp xe => (Qax Qbk (pv 1) (Qaj Qau (Qaj Qa1 (Qax Qbk (pv 2) (pv 0) (fun _ _ => rfl)) (Qaj Qbe (pv 3) (Qby Qld rfl z_int bt_int (Qaa (Qe6 Qcl (pv 0) (pv 4) (nomark _)) Qaf)))) Qac) (fun _ _ => rfl)))) Qaf)) Qaf)))))))
  (Qag (Qaq (Qaj Qht (Qb1 Qc8 (pv 8) (Qb3 (pv 7)) Qco) (Qb1 Qc8 (pv 8) Qco (Qb3 (pv 7)))))))))))))), ?_⟩
 have hline : 600 ≤ sizeLine := by decide
 refine ⟨_, rfl, _, _, rfl, rfl, (by show (0 : Int) < 999983; decide), ?_⟩
 refine ⟨_, rfl, by decide, by decide, ?_⟩
 refine Qfb (fun i ys H1 => ∃ bs : List Int, ys = bs.map V.int ∧ bs.length = i ∧ (∀ b ∈ bs, 0 ≤ b ∧ b < 26) ∧ H1 = H) ⟨[], rfl, rfl, (fun b hb => nomatch hb), rfl⟩ (by show 8 ≤ sizeLine; decide) ?_ ?_ ?_
 ·rintro i ys H1 hi ⟨bs, rfl, hb, _, rfl⟩
  rw [List.length_map]
  exact hb
 ·rintro i ys H1 hi ⟨bs, rfl, hb, hbs, rfl⟩
  have hi8 : i < 8 := hi
  have sq := sq8 i hi8
  refine ⟨_, rfl, _, rfl, _, rfl, _, _, rfl, rfl, Qb9 (by omega) (by omega) (by omega) (by omega), _, _, rfl, rfl, _, _, rfl, rfl, Qb9 (by omega) (by omega) (by omega) (by omega), _, _, rfl, rfl, (by show (0 : Int) < 7919; decide), _, _, rfl, rfl, (by show (0 : Int) < 26; decide), bs ++ [_], by rw [List.map_append]; rfl, by rw [List.length_append, hb]; rfl, fun b hm => ?_, rfl⟩
  rcases List.mem_append.mp hm with w | w
  ·exact hbs b w
  ·rw [List.mem_singleton.mp w]
   omega
 rintro ys H0 ⟨bs, rfl, hbn, hbs, rfl⟩ bl hbl
 have hbn8 : bs.length = 8 := hbn
 have eb := Qae (o := .lst (bs.map V.int)) hbl
 have hat : atN c < 8 ∧ (atN c : Int) < (1 + c % 999983 / 3 % 8) := by
  unfold atN
  have a1 := Int.emod_nonneg (c % 999983 / 24) (show (1 + c % 999983 / 3 % 8) ≠ 0 by omega)
  have a2 := Int.emod_lt_of_pos (c % 999983 / 24) (show 0 < (1 + c % 999983 / 3 % 8) by omega)
  omega
 have hbb8 : ∀ j, j < 8 → 0 ≤ bs.getD j 0 ∧ bs.getD j 0 < 26 := fun j hj => by
  have : bs.getD j 0 = bs[j]'(by omega) := by simp [List.getD, show j < bs.length by omega]
  rw [this]
  exact hbs _ (List.getElem_mem _)
 refine ⟨_, rfl, _, _, rfl, rfl, ⟨by decide, by decide⟩, _, _, rfl, rfl, (by show (0 : Int) < 8; decide), _, _, rfl, rfl, ?_⟩
 refine ⟨_, rfl, _, _, rfl, rfl, ⟨by decide, by decide⟩, _, rfl, _, _, rfl, rfl, (by show (0 : Int) < (1 + c % 999983 / 3 % 8); omega), ?_⟩
 refine ⟨_, rfl, _, _, rfl, rfl, ⟨by decide, by decide⟩, _, rfl, _, _, rfl, rfl, (by show (0 : Int) < m; omega), ?_⟩
 refine ⟨(by show 0 ≤ sizeLine; decide), fun l hl => ?_⟩
 have nbl : bl ≠ l := Qai Qab hl
 have el := Qae (o := .lst []) hl
 have hlH := eb.free hl
 refine ⟨_, rfl, _, rfl, by omega, by omega, ?_⟩
 refine Qcg (fun i σ H' => ∃ (o : Option V) (xs : List Str), σ = [some (.int c), some (.int m), some (.str L26), some (.int (c % 999983)), some (.ref bl), some (.int (1 + c % 999983 / 3 % 8)), some (.int (c % 999983 / 24 % (1 + c % 999983 / 3 % 8))), some (.int (c % 999983 / 5 % m)), some (.ref l), o] ∧ Same H0 H' ∧ H' l = some (.lst (xs.map V.str)) ∧ xs.length = i ∧ H' bl = some (.lst (bs.map V.int)) ∧ ∀ j x, xs[j]? = some x → Dn5 c bs j x) ⟨_, [], rfl, eb.trans el, Qab, rfl, el _ _ Qab, fun j x h => by simp at h⟩ ?_ ?_
 ·rintro i σ H1 hi ⟨o, xs, rfl, eH, hll, hxl, hbb, hdn⟩
  have him : i < m := by omega
  refine ⟨_, rfl, _, _, rfl, rfl, (by show (0 : Int) < 3; decide), rfl, _, rfl, ?_⟩
  refine dec2 (fun h => ?_) (fun h => ?_)
  ·have h3 : c % 999983 % 3 = 1 := V.int.inj h
   refine ⟨_, rfl, .inl ⟨rfl, _, SqL.of hll⟩, rfl, _, rfl, _, _, rfl, rfl, _, rfl, by omega, by omega, ?_⟩
   refine Qfb (fun j ys H2 => ∃ ls : List Nat, ys = (ls.map sg).map V.str ∧ ls.length = j ∧ (∀ u ∈ ls, 97 ≤ u) ∧ H2 = H1) ⟨[], rfl, rfl, (fun u hu => nomatch hu), rfl⟩ (by omega) ?_ ?_ ?_
   ·rintro j ys H2 hj ⟨ls, rfl, hz, _, rfl⟩
    rw [List.length_map, List.length_map]
    exact hz
   ·rintro j ys H2 hj ⟨ls, rfl, hz, hv, rfl⟩
    obtain ⟨b, bm, hb⟩ := Qkk (ws := bs) (i := 0 + (j : Int)) (by omega) (by omega)
    obtain ⟨b0, b1⟩ := hbs b bm
    refine ⟨_, rfl, _, rfl, _, rfl, .inl ⟨bl, _, _, _, rfl, rfl, SqL.of hbb, hb, .inr (.inr ⟨L26, _, _, rfl, rfl, Qkb, Qnm b0 b1, ?_⟩)⟩⟩
    exact ⟨ls ++ [97 + b.toNat], by rw [List.map_append, List.map_append]; rfl, by rw [List.length_append, hz]; rfl, (fun u hu => (List.mem_append.mp hu).elim (hv u) (fun w => by rw [List.mem_singleton.mp w]; omega)), rfl⟩
   ·rintro ys H2 ⟨ls, rfl, hz, hv, rfl⟩ l3 hl3
    have e3 := Qae (o := .lst ((ls.map sg).map V.str)) hl3
    refine ⟨"", l3, ls.map sg, rfl, rfl, SqL.of Qab, Qkh (by rw [List.length_map]; omega) Qm7, ?_⟩
    refine ⟨l, _, _, rfl, rfl, e3 _ _ hll, (by rw [List.length_map]; omega), ?_⟩
    refine ⟨_, xs ++ [Txt.join "" (ls.map sg)], rfl, Qat (eH.trans e3) hlH, (by rw [Qab, List.map_append]; rfl), by rw [List.length_append, hxl]; rfl, ?_, Qk0 hdn ?_⟩
    ·rw [Qah nbl]
     exact e3 _ _ hbb
    ·unfold Dn5 Dn
     rw [if_pos h3, Qev, hz, hxl]
     exact ⟨by omega, Qnl (by omega) (by omega) hv⟩
  ·have h3 : ¬ c % 999983 % 3 = 1 := fun z => h (congrArg V.int z)
   refine ⟨_, rfl, .inl ⟨rfl, _, SqL.of hll⟩, rfl, _, rfl, _, rfl, by omega, by omega, ?_⟩
   refine Qfb (fun j ys H2 => ∃ ls : List Nat, ys = (ls.map sg).map V.str ∧ ls.length = j ∧ ((atN c < j → ls[atN c]? = some (97 + ((bs.getD (atN c) 0 + (i : Int)) % 26).toNat)) ∧ ∀ u ∈ ls, 97 ≤ u) ∧ H2 = H1) ⟨[], rfl, rfl, ⟨(fun z => absurd z (Nat.not_lt_zero _)), fun u hu => nomatch hu⟩, rfl⟩ (by omega) ?_ ?_ ?_
   ·rintro j ys H2 hj ⟨ls, rfl, hz, _, rfl⟩
    rw [List.length_map, List.length_map]
    exact hz
   ·rintro j ys H2 hj ⟨ls, rfl, hz, hv, rfl⟩
    have hb := Qpf (ws := bs) (n := j) (by omega)
    rw [show ((j : Nat) : Int) = 0 + (j : Int) by omega] at hb
    generalize hbe : bs.getD j 0 = b at hb
    have m0 := Int.emod_nonneg (b + (0 + (i : Int)) * (if decide (V.int (0 + (j : Int)) = V.int (c % 999983 / 24 % (1 + c % 999983 / 3 % 8))) = true then 1 else 0)) (show (26 : Int) ≠ 0 by decide)
    have m1 := Int.emod_lt_of_pos (b + (0 + (i : Int)) * (if decide (V.int (0 + (j : Int)) = V.int (c % 999983 / 24 % (1 + c % 999983 / 3 % 8))) = true then 1 else 0)) (show (0 : Int) < 26 by decide)
    have mi : (if decide (V.int (0 + (j : Int)) = V.int (c % 999983 / 24 % (1 + c % 999983 / 3 % 8))) = true then (1 : Int) else 0) = 0 ∨ (if decide (V.int (0 + (j : Int)) = V.int (c % 999983 / 24 % (1 + c % 999983 / 3 % 8))) = true then (1 : Int) else 0) = 1 := by split <;> simp
    refine ⟨_, rfl, _, rfl, _, rfl, .inl ⟨bl, _, _, _, rfl, rfl, SqL.of hbb, hb, _, rfl, _, rfl, _, rfl, rfl, .inr ⟨_, rfl, _, _, rfl, rfl, Qb9 (by omega) (by omega) (by omega) (by omega), _, _, rfl, rfl, _, _, rfl, rfl, (by show (0 : Int) < 26; decide), .inr (.inr ⟨L26, _, _, rfl, rfl, Qkb, Qnm m0 m1, ?_⟩)⟩⟩⟩
    refine ⟨ls ++ [97 + ((b + (0 + (i : Int)) * (if decide (V.int (0 + (j : Int)) = V.int (c % 999983 / 24 % (1 + c % 999983 / 3 % 8))) = true then 1 else 0)) % 26).toNat], by rw [List.map_append, List.map_append]; rfl, by rw [List.length_append, hz]; rfl, ⟨fun ha => ?_, fun u hu => (List.mem_append.mp hu).elim (hv.2 u) (fun w => by rw [List.mem_singleton.mp w]; omega)⟩, rfl⟩
    rcases Nat.lt_or_eq_of_le (Nat.le_of_lt_succ ha) with w | w
    ·rw [List.getElem?_append_left (by omega)]
     exact hv.1 w
    ·rw [List.getElem?_append_right (by omega), w, hz, Nat.sub_self]
     have an := Int.emod_nonneg (c % 999983 / 24) (show (1 + c % 999983 / 3 % 8) ≠ 0 by omega)
     have hj1 : (V.int (0 + (j : Int)) = V.int (c % 999983 / 24 % (1 + c % 999983 / 3 % 8))) := congrArg V.int (by rw [← w]; unfold atN; omega)
     rw [if_pos (decide_eq_true hj1), hbe]
     show some (97 + ((b + (0 + (i : Int)) * 1) % 26).toNat) = _
     rw [show b + (0 + (i : Int)) * 1 = b + (i : Int) by omega]
   ·rintro ys H2 ⟨ls, rfl, hz, hv, rfl⟩ l3 hl3
    have e3 := Qae (o := .lst ((ls.map sg).map V.str)) hl3
    refine ⟨"", l3, ls.map sg, rfl, rfl, SqL.of Qab, Qkh (by rw [List.length_map]; omega) Qm7, ?_⟩
    refine ⟨l, _, _, rfl, rfl, e3 _ _ hll, (by rw [List.length_map]; omega), ?_⟩
    refine ⟨_, xs ++ [Txt.join "" (ls.map sg)], rfl, Qat (eH.trans e3) hlH, (by rw [Qab, List.map_append]; rfl), by rw [List.length_append, hxl]; rfl, ?_, Qk0 hdn ?_⟩
    ·rw [Qah nbl]
     exact e3 _ _ hbb
    ·unfold Dn5 Dn
     rw [if_neg h3, Qev, hxl]
     refine ⟨hv.1 (by omega), Qnl (by omega) (by omega) hv.2⟩
 ·rintro σ H1 ⟨o, xs, rfl, eH, hll, hxl, hbb, hdn⟩
  have hxm : xs.length = m := by omega
  have hnd := Qmo (by omega) (fun j x h => (hdn j x h).1)
  have hlt : ∀ x ∈ xs, Let x := fun x hx => by
   obtain ⟨j, hj⟩ := List.mem_iff_getElem?.mp hx
   exact (hdn j x hj).2
  obtain ⟨t, ht⟩ : ∃ t : Nat, c % 999983 / 5 % (m : Int) = (t : Int) := Int.eq_ofNat_of_zero_le (Int.emod_nonneg _ (by omega))
  rw [ht]
  refine ⟨_, rfl, _, rfl, _, rfl, l, _, rfl, SqL.of hll, fun x1 hx1 => ?_⟩
  have s1 := Qae (o := .lst (cutV (xs.map V.str) (some (t : Int)) none)) hx1
  refine ⟨_, rfl, _, rfl, _, rfl, l, _, rfl, SqL.of (s1 _ _ hll), fun x2 hx2 => ?_⟩
  have s2 := Qae (o := .lst (cutV (xs.map V.str) none (some (t : Int)))) hx2
  obtain ⟨us, hu, lu, nu, mu⟩ := cut_nd xs t hnd
  have hlu := congrArg List.length hu
  rw [List.length_append, List.length_map] at hlu
  refine ⟨x1, x2, _, _, rfl, rfl, s2 _ _ Qab, Qab, by omega, fun x3 hx3 => ?_⟩
  rw [hu]
  exact q x3 us _ (((eH.trans s1).trans s2).trans (Qae hx3)) Qab (lu.trans hxm) (fun x hx => hlt x ((mu x).mp hx)) nu
theorem scan0 : FnScope ["_law_cell"] ["_law_cell"] (defScope san0) := fsc
theorem okan0 (D : Def K mg "_law_coins" san0 .none) (cas0 : Cal P w K mg base CX0 true 2 "_law_names" ["_law_cell", "_law_many"] [] spNames) : Cal P w K mg base CX0 true 3 "_law_coins" ["_law_cell"] [] spCoins := by
 obtain ⟨f, fd, F, hm⟩ := D
 obtain ⟨fas0, fdas0, das0, Gas0, mas0, kas0, bas0, vas0, bas01⟩ := cas0
 refine ⟨f, fd, _, F.ok scan0 (fun vs H Q E h => ?_) (fun cdv A outer s H vs Q E hr h => ?_), hm, F.kp, (F.b1), .nil, F.b1⟩
 ·obtain ⟨c, rfl, q⟩ := h
  rfl
 obtain ⟨c, rfl, q⟩ := h
 have nd := scan0.nd
 refine ⟨_, (Qad (Qbq (Qap Qcl (Qaj Qau (pv 0) Qac) Qac (nomark _)) (Qag (Qaq (Qb4 (Qaa Qbz (Qaa Qbz (Qaa Qbz (Qaa Qbz Qaf))))))) Qas)
  (Qag (Qaq (Qan Gas0 (hr.mono (by decide)) rfl mas0 kas0 bas0 Paired.nil pass0 (Qaa (pv 0) (Qaa Qac Qaf)))))), ?_⟩
 refine ⟨_, rfl, _, _, rfl, rfl, (by show (0 : Int) < 7; decide), rfl, _, rfl, ?_⟩
 refine dec2 (fun h => ⟨(by show 4 ≤ sizeLine; decide), fun l hl => q l ["on", "one", "ones", "b"] _ (Qae hl) Qab rfl (by decide+kernel)⟩) (fun h => ?_)
 exact ⟨_, rfl, c, 4, rfl, by decide, by decide, fun l xs H' e h hn _ nd => q l xs H' e h hn nd⟩
theorem scak0 : FnScope ["_law_cell"] ["_law_cell"] (defScope sak0) := fsc
theorem okak0 (D : Def K mg "_law_amount" sak0 .none) : Cal P w K mg base CX0 cm 1 "_law_amount" ["_law_cell"] [] spAmt := by
 obtain ⟨f, fd, F, hm⟩ := D
 refine ⟨f, fd, _, F.ok scak0 (fun vs H Q E h => ?_) (fun cdv A outer s H vs Q E hr h => ?_), hm, F.kp, (F.b1), .nil, F.b1⟩
 ·obtain ⟨c, rfl, hb, q⟩ := h
  rfl
 obtain ⟨c, rfl, hb, q⟩ := h
 have nd := scak0.nd
 refine ⟨_, (Qad (Qbq (Qap Qcl (Qaj Qau (pv 0) Qac) Qac (nomark _)) (Qag (Qaq (Qaj Qfz (Qaj Qau (Qaj Qbh (pv 0) Qac) Qac) Qac))) Qas)
  (Qad (Qbq (Qap Qcl (Qaj Qau (pv 0) Qac) Qac (nomark _)) (Qag (Qaq (Qaj Qfz (Qaj Qau (Qaj Qbh (pv 0) Qac) Qac) Qac))) Qas)
  (Qag (Qaq (Qaj Qfz (Qaj Qau (Qaj Qbe (Qaj Qbh (pv 0) Qac) (Qaj Qf0 Qac Qac)) (Qaj Qa1 (Qaj Qbe Qac (Qaj Qf0 Qac Qac)) Qac)) (Qaj Qf0 Qac Qac)))))), ?_⟩
 refine ⟨_, rfl, _, _, rfl, rfl, (by show (0 : Int) < 3; decide), rfl, _, rfl, ?_⟩
 refine dec2 (fun h => ⟨_, rfl, _, _, rfl, rfl, ⟨by decide, by decide⟩, _, _, rfl, rfl, (by show (0 : Int) < 7; decide), _, _, rfl, rfl, q _ (by omega)⟩) (fun h => ?_)
 refine ⟨_, rfl, _, _, rfl, rfl, (by show (0 : Int) < 3; decide), rfl, _, rfl, ?_⟩
 refine dec2 (fun h => ⟨_, rfl, _, _, rfl, rfl, ⟨by decide, by decide⟩, _, _, rfl, rfl, (by show (0 : Int) < 2000001; decide), _, _, rfl, rfl, q _ (by omega)⟩) (fun h => ?_)
 exact ⟨_, rfl, _, _, rfl, rfl, ⟨by decide, by decide⟩, _, _, rfl, rfl, ⟨by decide, by decide, by decide⟩, _, _, rfl, rfl, Qoo hb, _, _, rfl, rfl, ⟨by decide, by decide, by decide⟩, _, _, rfl, rfl, .of_left (intBits_le_64 (by decide) (by decide)), _, _, rfl, rfl, _, _, rfl, rfl, (by show (0 : Int) < 2 * 10 ^ 38 + 1; decide), _, _, rfl, rfl, ⟨by decide, by decide, by decide⟩, _, _, rfl, rfl, q _ (m38 _)⟩
theorem scat0 : FnScope ["_law_one", "_law_other"] ["_law_one", "_law_other"] (defScope sat0) := fsc
theorem okat0 (D : Def K mg "_law_rate" sat0 .none) : Cal P w K mg base CX0 cm 1 "_law_rate" ["_law_one", "_law_other"] [] spRt1 := by
 obtain ⟨f, fd, F, hm⟩ := D
 refine ⟨f, fd, _, F.ok scat0 (fun vs H Q E h => ?_) (fun cdv A outer s H vs Q E hr h => ?_), hm, F.kp, (F.b2), .nil, F.b2⟩
 ·obtain ⟨o, u, rfl, q⟩ := h
  rfl
 obtain ⟨o, u, rfl, q⟩ := h
 have nd := scat0.nd
 refine ⟨_, (Qad (Qbq (Qap Qcl (Qaj Qau (pv 0) Qac) Qac (nomark _)) (Qag (Qaq (Qay (Qaa (Qaj Qa1 (Qaj Qau (Qaj Qbh (pv 0) Qac) Qac) Qac) (Qaa (Qax Qaw (Qb4 (Qaa Qac (Qaa Qac (Qaa Qac (Qaa Qac (Qaa Qac Qaf)))))) (Qaj Qau (pv 1) Qac) (fun _ _ => rfl)) Qaf))))) Qas)
  (Qag (Qaq (Qay (Qaa (Qaj Qa1 (Qaj Qau (pv 0) (Qaj Qf0 Qac Qac)) Qac) (Qaa (Qaj Qa1 (Qaj Qau (pv 1) (Qaj Qf0 Qac Qac)) Qac) Qaf)))))), ?_⟩
 refine ⟨_, rfl, _, _, rfl, rfl, (by show (0 : Int) < 3; decide), rfl, _, rfl, ?_⟩
 refine dec2 (fun h => ?_) (fun h => ?_)
 ·refine ⟨_, rfl, _, _, rfl, rfl, ⟨by decide, by decide⟩, _, _, rfl, rfl, (by show (0 : Int) < 99; decide), _, _, rfl, rfl, (by show 5 ≤ sizeLine; decide), fun l hl => ⟨_, rfl, _, _, rfl, rfl, (by show (0 : Int) < 5; decide), .inl ?_⟩⟩
  obtain ⟨v, e, hv⟩ := five 2 2 4 10 6 (Int.emod_nonneg u (show (5 : Int) ≠ 0 by decide)) (Int.emod_lt_of_pos u (by decide))
  refine ⟨l, _, _, _, rfl, rfl, SqL.of Qab, e, (by show 2 ≤ sizeLine; decide), fun r hr => ?_⟩
  exact q r _ v _ ((Qae hl).trans (Qae hr)) Qab (by show 1 ≤ o / 3 % 99 + 1; omega) (by show o / 3 % 99 + 1 ≤ 2 ^ 40; omega) (by omega) (by omega)
 ·refine ⟨_, rfl, _, _, rfl, rfl, ⟨by decide, by decide, by decide⟩, _, _, rfl, rfl, (by show (0 : Int) < 10 ^ 9; decide), _, _, rfl, rfl, _, rfl, _, _, rfl, rfl, ⟨by decide, by decide, by decide⟩, _, _, rfl, rfl, (by show (0 : Int) < 10 ^ 9; decide), _, _, rfl, rfl, (by show 2 ≤ sizeLine; decide), fun r hr => ?_⟩
  exact q r _ _ _ (Qae hr) Qab (m9r _).1 (m9r _).2 (m9r _).1 (m9r _).2
theorem scaz0 : FnScope ["_law_script", "_law_coins_here", "_law_told", "_law_table_here", "_law_k", "_law_one", "_law_other"] ["_law_script", "_law_coins_here", "_law_told"] (defScope saz0) := fsc
theorem okaz0 (D : Def K mg "_law_table" saz0 .none) (cal0 : Cal P w K mg base CX0 true 1 "_law_cell_at" ["_law_script", "_law_k"] [] (spCell K)) (cat0 : Cal P w K mg base CX0 true 1 "_law_rate" ["_law_one", "_law_other"] [] spRt1) (z_range : mg "range" = none) (z_len : mg "len" = none) : Cal P w K mg base CX0 true 2 "_law_table" ["_law_script", "_law_coins_here", "_law_told"] [] (spTab K) := by
 obtain ⟨f, fd, F, hm⟩ := D
 obtain ⟨fal0, fdal0, dal0, Gal0, mal0, kal0, bal0, val0, bal01⟩ := cal0
 obtain ⟨fat0, fdat0, dat0, Gat0, mat0, kat0, bat0, vat0, bat01⟩ := cat0
 refine ⟨f, fd, _, F.ok scaz0 (fun vs H Q E h => ?_) (fun cdv A outer s H vs Q E hr h => ?_), hm, F.kp, (F.b3), .nil, F.b3⟩
 ·obtain ⟨a, cl, ns, cs, t, rfl, hS, hcl, hc4, q⟩ := h
  rfl
 obtain ⟨a, cl, ns, cs, t, rfl, hS, hcl, hc4, q⟩ := h
 have nd := scaz0.nd
 refine ⟨_, (Qad (Qal (i := 3) nd rfl (Or.inl rfl) Qcu)
  (Qad (Qa8 PassesOwn.never rfl (Qbw rfl z_range (Qaa (Qav Qa5 rfl z_len Qcw (Qaa (pv 1) Qaf)) Qaf)) (Qak (i := 4) nd rfl (Or.inl rfl)) (Qad (Qal (i := 5) nd rfl (Or.inl rfl) (Qaj Qau (Qaj Qbe (Qaj Qa1 (Qaj Qau (Qan Gal0 (hr.mono (by decide)) rfl mal0 kal0 bal0 Paired.nil pass0 (Qaa (pv 0) (Qaa Qac Qaf))) Qac) Qac) (Qaj Qa1 Qac (Qaj Qbe Qac (pv 4)))) Qac))
  (Qad (Qal (i := 6) nd rfl (Or.inl rfl) (Qaj Qau (Qaj Qbe (Qaj Qa1 (Qaj Qau (Qan Gal0 (hr.mono (by decide)) rfl mal0 kal0 bal0 Paired.nil pass0 (Qaa (pv 0) (Qaa Qac Qaf))) Qac) Qac) (Qaj Qa1 Qac (Qaj Qbe Qac (pv 4)))) Qac))
  (Qag (Qb7 (Qbl hr) (pv 3) (Qax Qaw (pv 1) (pv 4) (fun _ _ => rfl)) (Qan Gat0 (hr.mono (by decide)) rfl mat0 kat0 bat0 Paired.nil pass0 (Qaa (pv 5) (Qaa (pv 6) Qaf))) rfl)))))
  (Qad (Qb7 (Qbl hr) (pv 3) (pv 2) (Qay (Qaa Qac (Qaa Qac Qaf))) rfl)
  (Qag (Qaq (pv 3)))))), ?_⟩
 have hline : 600 ≤ sizeLine := by decide
 have lcm : (cs.map V.str).length = cs.length := List.length_map ..
 refine fun d hd => ?_
 have e1 := Qae (o := .dK []) hd
 refine ⟨_, rfl, cl, _, rfl, .inl (SqL.of (e1 _ _ hcl)), _, rfl, by omega, by omega, ?_⟩
 refine Qcg (fun i σ H' => ∃ (o1 o2 o3 : Option V) (kvs : List (Key × V)), σ = [some (.ref a), some (.ref cl), some (.str t), some (.ref d), o1, o2, o3] ∧ Same H H' ∧ H' d = some (.dK kvs) ∧ kvs.length ≤ i ∧ ∀ c ∈ cs.take i, T2 H' kvs c) ⟨_, _, _, [], rfl, e1, Qab, Nat.le_refl _, fun c hc => nomatch hc⟩ ?_ ?_
 ·rintro i σ H1 hi ⟨o1, o2, o3, kvs, rfl, e, hdd, hkl, hT⟩
  have hi4 : i < cs.length := by omega
  refine ⟨_, rfl, a, ns, 2, rfl, e.seq hS, _, _, rfl, rfl, (by show (0 : Int) < 2147483647; decide), _, _, rfl, rfl, _, rfl, _, _, rfl, rfl, Qb9 (by omega) (by omega) (by omega) (by omega), _, _, rfl, rfl, _, _, rfl, rfl, Qb9 (by omega) (by omega) (by omega) (by omega), _, _, rfl, rfl, (by show (0 : Int) < 999999937; decide), ?_⟩
  refine ⟨_, rfl, a, ns, 3, rfl, e.seq hS, _, _, rfl, rfl, (by show (0 : Int) < 2147483647; decide), _, _, rfl, rfl, _, rfl, _, _, rfl, rfl, Qb9 (by omega) (by omega) (by omega) (by omega), _, _, rfl, rfl, _, _, rfl, rfl, Qb9 (by omega) (by omega) (by omega) (by omega), _, _, rfl, rfl, (by show (0 : Int) < 999999937; decide), ?_⟩
  have hck : atI (cs.map V.str) (0 + (i : Int)) = some (.str (cs.getD i "")) := by
   rw [show (0 + (i : Int)) = ((i : Nat) : Int) by omega]
   exact Qjc hi4
  refine ⟨_, rfl, _, rfl, _, _, rfl, fun r x y H2 f2 hr x1 x2 y1 y2 => ?_⟩
  have hdd2 := f2 _ _ hdd
  refine ⟨_, rfl, _, rfl, _, rfl, .inl ⟨cl, _, _, _, rfl, rfl, SqL.of (f2 _ _ (e _ _ hcl)), hck, d, _, rfl, DPut.k (k := kS (cs.getD i "")) hdd2 (by omega), ?_⟩⟩
  have kp : ∀ b o, H2 b = some (.tup o) → upd H2 d (.dK (putK kvs (kS (cs.getD i "")) (.ref r))) b = some (.tup o) := fun b o hb => by
   rw [Qah (Qbd hb hdd2 (by intro z; cases z))]
   exact hb
  refine ⟨_, _, _, putK kvs (kS (cs.getD i "")) (.ref r), rfl, Qat (e.trans f2) hd, Qab, ?_, fun c hc => ?_⟩
  ·have := Qbs kvs (kS (cs.getD i "")) (V.ref r)
   omega
  ·refine Qm4 (H := H2) ?_ kp (kp _ _ hr) x1 x2 y1 y2
   have hcz : cs[i]? = some (cs.getD i "") := by rw [List.getD, List.getElem?_eq_getElem hi4]; rfl
   rw [List.take_succ, hcz] at hc
   rcases List.mem_append.mp hc with w | w
   ·obtain ⟨r', x', y', a1, a2, a3⟩ := hT c w
    exact .inr ⟨r', x', y', a1, f2 _ _ a2, a3⟩
   ·exact .inl (List.mem_singleton.mp w)
 rintro σ H1 ⟨o1, o2, o3, kvs, rfl, e, hdd, hkl, hT⟩
 have hT4 : ∀ c ∈ cs, T2 H1 kvs c := fun c hc => hT c (by rw [List.take_of_length_le (by omega)]; exact hc)
 refine ⟨(by show 2 ≤ sizeLine; decide), fun r hr => ?_⟩
 have f1 := Qae (o := .tup [.int 1, .int 1]) hr
 have hdd2 := f1 _ _ hdd
 refine ⟨_, rfl, _, rfl, d, _, rfl, DPut.k (k := kS t) hdd2 (by omega), ?_⟩
 have kp : ∀ b o, upd H1 r (.tup [.int 1, .int 1]) b = some (.tup o) → upd (upd H1 r (.tup [.int 1, .int 1])) d (.dK (putK kvs (kS t) (.ref r))) b = some (.tup o) := fun b o hb => by
  rw [Qah (Qbd hb hdd2 (by intro z; cases z))]
  exact hb
 refine ⟨_, rfl, q d _ _ (Qat (e.trans f1) hd) Qab fun c hc => ?_⟩
 obtain ⟨r', x', y', a1, a2, a3⟩ := hT4 c hc
 exact Qm4 (H := upd H1 r (.tup [.int 1, .int 1])) (.inr ⟨r', x', y', a1, f1 _ _ a2, a3⟩) kp (kp _ _ Qab) (by decide) (by decide) (by decide) (by decide)
theorem scbb0 : FnScope ["_law_cell", "_law_coins_here"] ["_law_cell", "_law_coins_here"] (defScope sbb0) := fsc
theorem okbb0 (D : Def K mg "_law_told_coin" sbb0 .none) : Cal P w K mg base CX0 cm 1 "_law_told_coin" ["_law_cell", "_law_coins_here"] [] spTc := by
 obtain ⟨f, fd, F, hm⟩ := D
 refine ⟨f, fd, _, F.ok scbb0 (fun vs H Q E h => ?_) (fun cdv A outer s H vs Q E hr h => ?_), hm, F.kp, (F.b2), .nil, F.b2⟩
 ·obtain ⟨c, cl, cs, rfl, hcl, hc4, q⟩ := h
  rfl
 obtain ⟨c, cl, cs, rfl, hcl, hc4, q⟩ := h
 have nd := scbb0.nd
 refine ⟨_, (Qad (Qbq (Qap Qcl (Qaj Qau (pv 0) Qac) Qac (nomark _)) (Qag (Qaq Qbz)) Qas)
  (Qag (Qaq (Qax Qaw (pv 1) (Qaj Qau (Qaj Qbh (pv 0) Qac) Qac) (fun _ _ => rfl))))), ?_⟩
 refine ⟨_, rfl, _, _, rfl, rfl, (by show (0 : Int) < 7; decide), rfl, _, rfl, ?_⟩
 refine dec2 (fun h => q _) (fun h => ?_)
 obtain ⟨w, _, hw⟩ := Qfo (ws := cs) (i := c / 7 % 4) (Int.emod_nonneg _ (by decide)) (by omega)
 exact ⟨_, rfl, _, rfl, _, _, rfl, rfl, ⟨by decide, by decide⟩, _, _, rfl, rfl, (by show (0 : Int) < 4; decide), .inl ⟨cl, _, _, _, rfl, rfl, SqL.of hcl, hw, q w⟩⟩
theorem scau0 : FnScope ["_law_told"] ["_law_told"] (defScope sau0) := fsc
theorem okau0 (D : Def K mg "_law_rates" sau0 .none) {C_Rates : Addr} (cag0 : CalI P w K mg base CX0 true 1 C_Rates ["self", "told"] [.str "one"] (spInit K C_Rates)) (m_Rates : mg "Rates" = some (.ref C_Rates)) : Cal P w K mg base CX0 true 3 "_law_rates" ["_law_told"] [] (spRts K C_Rates) := by
 obtain ⟨f, fd, F, hm⟩ := D
 obtain ⟨fag0, fdag0, dag0, Gag0, M_Rates, bag0, vag0, bag01⟩ := cag0
 refine ⟨f, fd, _, F.ok scau0 (fun vs H Q E h => ?_) (fun cdv A outer s H vs Q E hr h => ?_), hm, F.kp, (F.b1), .nil, F.b1⟩
 ·obtain ⟨t, rfl, q⟩ := h
  rfl
 obtain ⟨t, rfl, q⟩ := h
 have nd := scau0.nd
 refine ⟨_, (Qad (Qbq (Qap Qcl (pv 0) Qbz (nomark _)) (Qag (Qaq (Ql0 M_Rates Gag0 (hr.mono (by decide)) rfl m_Rates bag01 vag0 pass0))) Qas)
  (Qag (Qaq (Qgy M_Rates Gag0 (hr.mono (by decide)) rfl m_Rates bag0 Paired.nil pass0 (Qaa (pv 0) Qaf))))), ?_⟩
 refine ⟨_, rfl, rfl, _, rfl, ?_⟩
 refine dec2 (fun h => ?_) (fun h => ?_)
 ·have ht : t = "one" := V.str.inj h
  subst ht
  refine fun rp dx0 hrp hdx hne => ⟨rp, dx0, "one", rfl, Qab, fun d H2 hd R0 k2 => ⟨rfl, ?_⟩⟩
  have e2 : Same H H2 := fun b o hb => by
   have nb1 : b ≠ rp := Qai hb hrp
   have nb2 : b ≠ dx0 := Qai hb hdx
   exact k2 b o (by rw [Qah nb1, Qah nb2]; exact hb) nb1
  have hd0 : H d = none := by
   cases h : H d with
   | none => rfl
   | some o =>
     have nb1 : d ≠ rp := Qai h hrp
     have nb2 : d ≠ dx0 := Qai h hdx
     rw [Qah nb1, Qah nb2, h] at hd
     cases hd
  exact q rp d H2 e2 hd0 R0
 ·refine ⟨_, rfl, fun rp dx0 hrp hdx hne => ⟨rp, dx0, t, rfl, Qab, fun d H2 hd R0 k2 => ⟨rfl, ?_⟩⟩⟩
  have e2 : Same H H2 := fun b o hb => by
   have nb1 : b ≠ rp := Qai hb hrp
   have nb2 : b ≠ dx0 := Qai hb hdx
   exact k2 b o (by rw [Qah nb1, Qah nb2]; exact hb) nb1
  have hd0 : H d = none := by
   cases h : H d with
   | none => rfl
   | some o =>
     have nb1 : d ≠ rp := Qai h hrp
     have nb2 : d ≠ dx0 := Qai h hdx
     rw [Qah nb1, Qah nb2, h] at hd
     cases hd
  exact q rp d H2 e2 hd0 R0
theorem scax0 : FnScope ["_law_pick", "_law_amount_here", "_law_firms", "_law_accounts", "_law_coins_here", "_law_firm", "_law_account"] ["_law_pick", "_law_amount_here", "_law_firms", "_law_accounts", "_law_coins_here"] (defScope sax0) := fsc
theorem okax0 (D : Def K mg "_law_side" sax0 .none) (car0 : Cal P w K mg base CX0 cm 1 "_law_mix" ["_law_cell", "_law_by"] [] spMix) (z_len : mg "len" = none) : Cal P w K mg base CX0 cm 2 "_law_side" ["_law_pick", "_law_amount_here", "_law_firms", "_law_accounts", "_law_coins_here"] [] spSide := by
 obtain ⟨f, fd, F, hm⟩ := D
 obtain ⟨far0, fdar0, dar0, Gar0, mar0, kar0, bar0, var0, bar01⟩ := car0
 refine ⟨f, fd, _, F.ok scax0 (fun vs H Q E h => ?_) (fun cdv A outer s H vs Q E hr h => ?_), hm, F.kp, (F.b5), .nil, F.b5⟩
 ·obtain ⟨p, am, fl, al, cl, fs, as, cs, rfl, L, q⟩ := h
  rfl
 obtain ⟨p, am, fl, al, cl, fs, as, cs, rfl, L, q⟩ := h
 have nd := scax0.nd
 refine ⟨_, (Qad (Qal (i := 5) nd rfl (Or.inl rfl) (Qax Qaw (pv 2) (Qaj Qau (Qan Gar0 (hr.mono (by decide)) rfl mar0 kar0 bar0 Paired.nil pass0 (Qaa (pv 0) (Qaa Qac Qaf))) (Qav Qa5 rfl z_len Qcw (Qaa (pv 2) Qaf))) (fun _ _ => rfl)))
  (Qad (Qal (i := 6) nd rfl (Or.inl rfl) (Qax Qaw (pv 3) (Qaj Qau (Qan Gar0 (hr.mono (by decide)) rfl mar0 kar0 bar0 Paired.nil pass0 (Qaa (pv 0) (Qaa Qac Qaf))) Qac) (fun _ _ => rfl)))
  (Qag (Qaq (Qay (Qaa (pv 5) (Qaa (pv 6) (Qaa (Qax Qaw (pv 4) (Qaj Qau (Qan Gar0 (hr.mono (by decide)) rfl mar0 kar0 bar0 Paired.nil pass0 (Qaa (pv 0) (Qaa Qac Qaf))) Qac) (fun _ _ => rfl)) (Qaa (pv 1) Qaf))))))))), ?_⟩
 have lf := L.lf
 have la := L.la
 have lc := L.lc
 have lm : (fs.map V.str).length = fs.length := List.length_map ..
 refine ⟨_, rfl, _, rfl, p, 48271, rfl, by decide, fun m m0 m1 => ⟨_, rfl, fl, _, rfl, .inl (SqL.of L.f), _, _, rfl, rfl, (by show (0 : Int) < ((fs.map V.str).length : Int); omega), ?_⟩⟩
 obtain ⟨f, mf, hf⟩ := Qfo (ws := fs) (i := m % ((fs.map V.str).length : Int)) (Int.emod_nonneg _ (by omega)) (by rw [← lm]; exact Int.emod_lt_of_pos _ (by omega))
 refine .inl ⟨fl, _, _, _, rfl, rfl, SqL.of L.f, hf, ?_⟩
 refine ⟨_, rfl, _, rfl, p, 69621, rfl, by decide, fun m2 n0 n1 => ⟨_, _, rfl, rfl, (by show (0 : Int) < 3; decide), ?_⟩⟩
 obtain ⟨ac, mac, hac⟩ := Qfo (ws := as) (i := m2 % 3) (Int.emod_nonneg _ (by omega)) (by omega)
 refine .inl ⟨al, _, _, _, rfl, rfl, SqL.of L.a, hac, ?_⟩
 refine ⟨_, rfl, _, rfl, _, rfl, _, rfl, p, 40692, rfl, by decide, fun m3 k0 k1 => ⟨_, _, rfl, rfl, (by show (0 : Int) < 3; decide), ?_⟩⟩
 obtain ⟨k, hk⟩ : ∃ k : Nat, m3 % 3 = (k : Int) := Int.eq_ofNat_of_zero_le (Int.emod_nonneg _ (by omega))
 have hk3 : k < 3 := by omega
 have hco : atI (cs.map V.str) (m3 % 3) = some (.str (cs.getD k "")) := by
  rw [hk]
  exact Qjc (by omega)
 exact .inl ⟨cl, _, _, _, rfl, rfl, SqL.of L.c, hco, _, rfl, (by show 4 ≤ sizeLine; decide), fun t ht => q t f ac _ ht mf mac (take3 hk3 (by omega))⟩
theorem scam0 : FnScope ["_law_sides", "_law_firms", "_law_accounts", "_law_coins_here", "_law_cell", "_law_made", "_law_k", "_law_rest", "_law_pick", "_law_at"] ["_law_sides", "_law_firms", "_law_accounts", "_law_coins_here", "_law_cell"] (defScope sam0) := fsc
theorem okam0 (D : Def K mg "_law_closed" sam0 .none) (car0 : Cal P w K mg base CX0 true 1 "_law_mix" ["_law_cell", "_law_by"] [] spMix) (z_list : mg "list" = none) (z_range : mg "range" = none) (z_sum : mg "sum" = none) (z_len : mg "len" = none) : Cal P w K mg base CX0 true 3 "_law_closed" ["_law_sides", "_law_firms", "_law_accounts", "_law_coins_here", "_law_cell"] [] spClosed := by
 obtain ⟨f, fd, F, hm⟩ := D
 obtain ⟨far0, fdar0, dar0, Gar0, mar0, kar0, bar0, var0, bar01⟩ := car0
 refine ⟨f, fd, _, F.ok scam0 (fun vs H Q E h => ?_) (fun cdv A outer s H vs Q E hr h => ?_), hm, F.kp, (F.b5), .nil, F.b5⟩
 ·obtain ⟨sl, fl, al, cl, c, L, fs, as, cs, rfl, hs, hL, hlen, LS, q⟩ := h
  rfl
 obtain ⟨sl, fl, al, cl, c, L, fs, as, cs, rfl, hs, hL, hlen, LS, q⟩ := h
 have nd := scam0.nd
 refine ⟨_, (Qad (Qal (i := 5) nd rfl (Or.inl rfl) (Qby Qcr rfl z_list Qcs (Qaa (pv 0) Qaf)))
  (Qad (Qa8 PassesOwn.never rfl (Qbw rfl z_range (Qaa Qac Qaf)) (Qak (i := 6) nd rfl (Or.inr rfl)) (Qad (Qal (i := 7) nd rfl (Or.inl rfl) (Qav (Qid hr) rfl z_sum Qnu (Qaa (Qe4 [3, 6] rfl (LcOk.free ["_law_k", "_law_coins_here"] rfl rfl (List.forall_mem_cons.mpr ⟨rfl, (List.forall_mem_cons.mpr ⟨rfl, (fun _ h => nomatch h)⟩)⟩) (by decide+kernel) rfl (by decide+kernel) rfl (by decide+kernel) (show (["_law_side_here", "_law_coins_here", "_law_k"] : List Str).Nodup from by decide+kernel) (List.forall_mem_cons.mpr ⟨⟨_, rfl, rfl, rfl, by decide+kernel⟩, (List.forall_mem_cons.mpr ⟨⟨_, rfl, rfl, rfl, by decide+kernel⟩, (fun _ h => nomatch h)⟩)⟩)) (Qar (pv 5)) (fun C s2 H2 fp xe => (Qap Qcl (Qax Qbk (pv 0) Qac (fun _ _ => rfl)) (Qax Qbk (pv 1) (pv 2) (fun _ _ => rfl)) (nomark _))) (fun C s2 H2 fp xe => (Qax Qbk (pv 0) Qac (fun _ _ => rfl)))) Qaf)))
  (Qag (Qbq (Qap Qee (pv 7) Qac (nomark _)) (Qad (Qal (i := 8) nd rfl (Or.inl rfl) (Qan Gar0 (hr.mono (by decide)) rfl mar0 kar0 bar0 Paired.nil pass0 (Qaa (pv 4) (Qaa (Qax Qaw (Qb4 (Qaa Qac (Qaa Qac (Qaa Qac Qaf)))) (pv 6) (fun _ _ => rfl)) Qaf))))
  (Qad (Qal (i := 9) nd rfl (Or.inl rfl) (Qaj Qau (Qan Gar0 (hr.mono (by decide)) rfl mar0 kar0 bar0 Paired.nil pass0 (Qaa (pv 4) (Qaa (Qax Qaw (Qb4 (Qaa Qac (Qaa Qac (Qaa Qac Qaf)))) (pv 6) (fun _ _ => rfl)) Qaf))) (Qaj Qa1 (Qav Qa5 rfl z_len Qcw (Qaa (pv 5) Qaf)) Qac)))
  (Qag (Qbg (Qc1 PySem.F.plainAttrs_list PySem.F.slot_list_insert PySem.F.type_list_insert Qj6 (pv 5) (Qaa (pv 9) (Qaa (Qay (Qaa (Qax Qaw (pv 1) (Qaj Qau (pv 8) (Qav Qa5 rfl z_len Qcw (Qaa (pv 1) Qaf))) (fun _ _ => rfl)) (Qaa (Qax Qaw (pv 2) (Qaj Qau (Qaj Qbh (pv 8) Qac) Qac) (fun _ _ => rfl)) (Qaa (Qax Qaw (pv 3) (pv 6) (fun _ _ => rfl)) (Qaa (Qgx Qdq (pv 7)) Qaf))))) Qaf))))))) Qas))))
  (Qag (Qaq (pv 5))))), ?_⟩
 have hline : 10 ^ 6 ≤ sizeLine := by decide
 have lf := LS.lf
 have la := LS.la
 have lc := LS.lc
 have lm : (fs.map V.str).length = fs.length := List.length_map ..
 refine ⟨_, rfl, sl, _, rfl, .inl (SqL.of hs), fun p hp => ?_⟩
 have e1 := Qae (o := .lst (rfs L)) hp
 refine ⟨_, rfl, by decide, by decide, ?_⟩
 refine Qcg (fun i σ H' => ∃ (o1 o2 o3 o4 : Option V) (L' : List Sd), σ = [some (.ref sl), some (.ref fl), some (.ref al), some (.ref cl), some (.int c), some (.ref p), o1, o2, o3, o4] ∧ Same H H' ∧ H' p = some (.lst (rfs L')) ∧ L'.length ≤ 36 + i ∧ Rows fs as cs (bnd i) H' L' ∧ ∀ j, j < i → N21.tot (cs.getD j "") (prs L') = 0) ⟨_, _, _, _, L, rfl, e1, Qab, hlen, (hL.le (show 2 ^ 127 ≤ bnd 0 by decide)).same e1, fun j hj => absurd hj (Nat.not_lt_zero _)⟩ ?_ ?_
 ·rintro i σ H1 hi ⟨o1, o2, o3, o4, L', rfl, e, hpp, hlL, hL', hz0⟩
  have hi3 : i < 3 := hi
  have hbb : bnd i ≤ bnd (i + 1) := by rw [bnd_s]; omega
  have L1 := LS.same e
  have hck : atI (cs.map V.str) (0 + (i : Int)) = some (.str (cs.getD i "")) := by
   rw [show (0 + (i : Int)) = ((i : Nat) : Int) by omega]
   exact Qjc (by omega)
  refine ⟨_, rfl, p, rfl, ⟨_, SqL.of hpp⟩, ?_⟩
  refine Qc2 (xs := rfs L') (fun j ys H2 => ys = (((prs (L'.take j)).filter (fun q => decide (q.1 = cs.getD i ""))).map (·.2)).map V.int ∧ H2 = H1) ⟨rfl, rfl⟩ (by rw [Qbc]; omega) ?_ ?_ ?_
  ·rintro j ys H2 hj ⟨rfl, rfl⟩
   refine ⟨SqL.of hpp, ?_⟩
   rw [List.length_map, List.length_map]
   have h1 := List.length_filter_le (fun q => decide (q.1 = cs.getD i "")) (prs (L'.take j))
   rw [Qe2, List.length_take] at h1
   omega
  ·rintro j x ys H2 hx ⟨rfl, rfl⟩
   obtain ⟨z, hz, rfl⟩ := Qem hx
   have hT := SqT.of (K := K) (hL' z (List.mem_of_getElem? hz)).1
   refine ⟨_, rfl, .inr (.inl ⟨z.1, _, 2, _, rfl, rfl, hT, rfl, _, rfl, _, rfl, .inl ⟨cl, _, _, _, rfl, rfl, SqL.of L1.c, hck, rfl, _, rfl, ?_⟩⟩)⟩
   refine dec2 (fun h => ?_) (fun h => ?_)
   ·refine ⟨_, rfl, .inr (.inl ⟨z.1, _, 3, _, rfl, rfl, hT, rfl, ?_, rfl⟩)⟩
    rw [Qe1 hz, List.filter_append, List.filter_cons_of_pos (by simpa using V.str.inj h), List.map_append, List.map_append]
    rfl
   ·refine ⟨?_, rfl⟩
    rw [Qe1 hz, List.filter_append, List.filter_cons_of_neg (by simpa using fun z => h (congrArg V.str z))]
    simp
  rintro ys H2 ⟨rfl, rfl⟩ l3 hl3
  rw [Qbc, List.take_length]
  have e3 := Qae (o := .lst ((((prs L').filter (fun q => decide (q.1 = cs.getD i ""))).map (·.2)).map V.int)) hl3
  refine ⟨l3, _, rfl, SqL.of Qab, ?_⟩
  rw [N21.Qej]
  have L3 := L1.same e3
  refine ⟨_, rfl, rfl, _, rfl, ?_⟩
  refine ndec2 (fun h => ?_) (fun h => ?_)
  ·have hne : N21.tot (cs.getD i "") (prs L') ≠ 0 := fun z => h (congrArg V.int z)
   obtain ⟨v1, hv1, w1⟩ := three3 39373 62089 52774 hi3
   obtain ⟨v2, hv2, w2⟩ := three3 30269 45991 16807 hi3
   refine ⟨_, rfl, (by show 3 ≤ sizeLine; decide), fun q1 hq1 => ⟨_, rfl, .inl ⟨q1, _, _, _, rfl, rfl, SqL.of Qab, hv1, _, _, rfl, by omega, fun m m0 m1 => ?_⟩⟩⟩
   have f1 := Qae (o := .lst [.int 39373, .int 62089, .int 52774]) hq1
   refine ⟨_, rfl, (by show 3 ≤ sizeLine; decide), fun q2 hq2 => ⟨_, rfl, .inl ⟨q2, _, _, _, rfl, rfl, SqL.of Qab, hv2, _, _, rfl, by omega, fun m2 n0 n1 => ?_⟩⟩⟩
   have f2 := Qae (o := .lst [.int 30269, .int 45991, .int 16807]) hq2
   have f12 := f1.trans f2
   have hp3 := f12 _ _ (e3 _ _ hpp)
   have L5 := L3.same f12
   refine ⟨_, rfl, p, _, rfl, .inl (SqL.of hp3), _, _, rfl, rfl, _, _, rfl, rfl, (by show (0 : Int) < ((rfs L').length : Int) + 1; omega), ?_⟩
   obtain ⟨t, ht⟩ : ∃ t : Nat, m2 % (((rfs L').length : Int) + 1) = (t : Int) := Int.eq_ofNat_of_zero_le (Int.emod_nonneg _ (by omega))
   have htl := Int.emod_lt_of_pos m2 (show (0 : Int) < ((rfs L').length : Int) + 1 by omega)
   have hte : (fun i j => V.int (i % j)) m2 (((rfs L').length : Int) + 1) = V.int (t : Int) := congrArg V.int ht
   rw [hte]
   rw [ht] at htl
   have rl := Qbc L'
   refine ⟨_, rfl, .inl ⟨rfl, _, SqL.of hp3⟩, _, rfl, _, rfl, _, rfl, _, rfl, fl, _, rfl, .inl (SqL.of L5.f), _, _, rfl, rfl, (by show (0 : Int) < ((fs.map V.str).length : Int); omega), ?_⟩
   obtain ⟨f, mf, hf⟩ := Qfo (ws := fs) (i := m % ((fs.map V.str).length : Int)) (Int.emod_nonneg _ (by omega)) (by rw [← lm]; exact Int.emod_lt_of_pos _ (by omega))
   refine .inl ⟨fl, _, _, _, rfl, rfl, SqL.of L5.f, hf, _, rfl, _, rfl, _, _, rfl, rfl, ⟨by decide, by decide⟩, _, _, rfl, rfl, (by show (0 : Int) < 3; decide), ?_⟩
   obtain ⟨ac, mac, hac⟩ := Qfo (ws := as) (i := m / 7 % 3) (Int.emod_nonneg _ (by omega)) (by omega)
   refine .inl ⟨al, _, _, _, rfl, rfl, SqL.of L5.a, hac, _, rfl, _, rfl, .inl ⟨cl, _, _, _, rfl, rfl, SqL.of L5.c, hck, _, rfl, _, rfl, (by show 4 ≤ sizeLine; decide), fun tp htp => ?_⟩⟩
   have e4 := Qae (o := .tup [.str f, .str ac, .str (cs.getD i ""), .int (-N21.tot (cs.getD i "") (prs L'))]) htp
   have hp4 := e4 _ _ hp3
   refine ⟨p, _, t, _, rfl, rfl, hp4, by omega, by omega, ?_⟩
   refine ⟨_, _, _, _, L'.take t ++ (tp, f, ac, cs.getD i "", -N21.tot (cs.getD i "") (prs L')) :: L'.drop t, rfl, Qat (((e.trans e3).trans f12).trans e4) hp, ?_, ?_, fun z hz => ?_, fun j hj => ?_⟩
   ·rw [Qab]
    unfold rfs
    rw [List.map_append, List.map_cons, List.map_take, List.map_drop]
   ·rw [List.length_append, List.length_cons, List.length_take, List.length_drop]
    omega
   ·rcases List.mem_append.mp hz with w | w
    ·exact ⟨Qbv (e4 _ _ (f12 _ _ (e3 _ _ (hL' z (List.mem_of_mem_take w)).1))) hp4, ((hL'.le hbb) z (List.mem_of_mem_take w)).2⟩
    ·rcases List.mem_cons.mp w with w | w
     ·rw [w]
      exact ⟨Qbv Qab hp4, mf, mac, take3 hi3 (by omega), (by have := Qlq hL' (cs.getD i "") (by omega); rw [bnd_s]; show (-N21.tot (cs.getD i "") (prs L')).natAbs ≤ _; rw [Int.natAbs_neg]; exact this)⟩
     ·exact ⟨Qbv (e4 _ _ (f12 _ _ (e3 _ _ (hL' z (List.mem_of_mem_drop w)).1))) hp4, ((hL'.le hbb) z (List.mem_of_mem_drop w)).2⟩
   ·rw [Qny]
    show _ + (if cs.getD i "" = cs.getD j "" then -N21.tot (cs.getD i "") (prs L') else 0) = 0
    by_cases hji : cs.getD i "" = cs.getD j ""
    ·rw [if_pos hji, ← hji]
     omega
    ·have hji2 : j ≠ i := fun z => hji (by rw [z])
     rw [if_neg hji, hz0 j (by omega)]
     rfl
  ·refine ⟨_, _, _, _, L', rfl, e.trans e3, e3 _ _ hpp, by omega, (hL'.le hbb).same e3, fun j hj => ?_⟩
   by_cases hji : j = i
   ·rw [hji]
    exact V.int.inj h
   ·exact hz0 j (by omega)
 ·rintro σ H1 ⟨o1, o2, o3, o4, L', rfl, e, hpp, hlL, hL', hz0⟩
  exact ⟨_, rfl, q p L' _ e hp hpp (hL'.le (by show 2 ^ 127 * 64 ^ 3 ≤ 2 ^ 145; decide)) hlL hz0⟩
theorem Qb5 (A : List (List Key × V)) (k k' : List Key) (v : V) : valV (A ++ [(k, v)]) k' = (valV A k').or (if k = k' then some v else none) := by
 unfold valV
 rw [List.find?_append]
 cases A.find? (fun kv => decide (kv.1 = k')) with
 | some a => rfl
 | none =>
   by_cases h : k = k'
   ·rw [if_pos h]
    simp [List.find?_cons, h]
   ·rw [if_neg h]
    simp [List.find?_cons, h]
theorem Qch (c c' : Str) (dy m : Int) (kvs : List (List Key × V)) (v : V) : daysOf c dy (kvs ++ [([Sum.inr c', Sum.inl m], v)]) = daysOf c dy kvs ++ (if c' = c ∧ m ≤ dy then [m] else []) := by
 unfold daysOf
 rw [List.map_append, List.filter_append, List.map_append]
 congr 1
 show List.map gI (List.filter (fK c dy) [[Sum.inr c', Sum.inl m]]) = _
 have e : fK c dy [Sum.inr c', Sum.inl m] = (decide (c' = c) && decide (m ≤ dy)) := by
  show (decide (V.str c' = V.str c) && _) = _
  congr 1
  by_cases h : c' = c
  ·rw [decide_eq_true h, decide_eq_true (congrArg V.str h)]
  ·rw [decide_eq_false h, decide_eq_false (fun e => h (V.str.inj e))]
 rw [List.filter_cons, e, List.filter_nil]
 by_cases h : c' = c ∧ m ≤ dy
 ·rw [if_pos h, decide_eq_true h.1, decide_eq_true h.2]
  rfl
 ·rw [if_neg h, if_neg]
  ·rfl
  ·intro e
   rw [Bool.and_eq_true, decide_eq_true_eq, decide_eq_true_eq] at e
   exact h e
theorem Qe9 {cs : List Str} (nd : cs.Nodup) {i : Nat} {c : Str} (h : cs[i]? = some c) : c ∉ cs.take i := fun m => by
 obtain ⟨j, hj, e⟩ := List.mem_take_iff_getElem.mp m
 obtain ⟨hi, e2⟩ := List.getElem?_eq_some_iff.mp h
 have h3 := (List.pairwise_iff_getElem.mp nd) j i (by omega) hi (by omega)
 exact h3 (by rw [e, e2])
structure Rq (K : Q5) (C : Addr) (H : Hp) (rp d : Addr) (t : Str) (kvs : List (List Key × V)) (b : Int) (S : List Str) (P Z : Str → Addr × Int × Int) : Prop where
 ra : RatesAt K C H rp d t kvs
 yes : ∀ c ∈ S, c ≠ t ∧ (∀ dy, daysOf c dy kvs = (if b ≤ dy then [b] else []) ++ (if b + 45 ≤ dy then [b + 45] else [])) ∧ valV kvs [Sum.inr c, Sum.inl b] = some (.ref (P c).1) ∧ valV kvs [Sum.inr c, Sum.inl (b + 45)] = some (.ref (Z c).1) ∧ H (P c).1 = some (.tup [.int (P c).2.1, .int (P c).2.2]) ∧ H (Z c).1 = some (.tup [.int (Z c).2.1, .int (Z c).2.2])
 no : ∀ c, c ∉ S → (∀ m, valV kvs [Sum.inr c, Sum.inl m] = none) ∧ ∀ dy, daysOf c dy kvs = []
 bp : ∀ c, (P c).2.1.natAbs ≤ 2 ^ 200 ∧ 1 ≤ (P c).2.2 ∧ (P c).2.2 ≤ 2 ^ 200
 bz : ∀ c, (Z c).2.1.natAbs ≤ 2 ^ 200 ∧ 1 ≤ (Z c).2.2 ∧ (Z c).2.2 ≤ 2 ^ 200
 tp : (P t).2 = (1, 1)
 tz : (Z t).2 = (1, 1)
theorem Rq.add {K : Q5} {C : Addr} {H H' : Hp} {rp d r1 r2 : Addr} {t c : Str} {kvs : List (List Key × V)} {b x1 y1 x2 y2 : Int} {S : List Str} {P Z : Str → Addr × Int × Int} (R : Rq K C H rp d t kvs b S P Z) (hc : c ∉ S) (hct : c ≠ t)
 (ra : RatesAt K C H' rp d t (kvs ++ [([Sum.inr c, Sum.inl b], .ref r1)] ++ [([Sum.inr c, Sum.inl (b + 45)], .ref r2)])) (k : ∀ a xs, H a = some (.tup xs) → H' a = some (.tup xs)) (h1 : H' r1 = some (.tup [.int x1, .int y1])) (h2 : H' r2 = some (.tup [.int x2, .int y2]))
 (b1 : x1.natAbs ≤ 2 ^ 200 ∧ 1 ≤ y1 ∧ y1 ≤ 2 ^ 200) (b2 : x2.natAbs ≤ 2 ^ 200 ∧ 1 ≤ y2 ∧ y2 ≤ 2 ^ 200) :
 Rq K C H' rp d t (kvs ++ [([Sum.inr c, Sum.inl b], .ref r1)] ++ [([Sum.inr c, Sum.inl (b + 45)], .ref r2)]) b (c :: S) (fun e => if e = c then (r1, x1, y1) else P e) (fun e => if e = c then (r2, x2, y2) else Z e) := by
 have nb : ¬ ([Sum.inr c, Sum.inl b] : List Key) = [Sum.inr c, Sum.inl (b + 45)] := by
  intro z
  simp at z
  omega
 have ne : ∀ e m m', e ≠ c → ¬ ([Sum.inr c, Sum.inl m] : List Key) = [Sum.inr e, Sum.inl m'] := fun e m m' h z => by
  simp at z
  exact h z.1.symm
 refine ⟨ra, fun e he => ?_, fun e he => ?_, fun e => ?_, fun e => ?_, ?_, ?_⟩
 ·by_cases z : e = c
  ·subst z
   refine ⟨hct, fun dy => ?_, ?_, ?_, ?_, ?_⟩
   ·rw [Qch, Qch, (R.no e hc).2 dy]
    simp
   ·rw [Qb5, Qb5, (R.no e hc).1 b]
    simp
   ·rw [Qb5, Qb5, (R.no e hc).1 (b + 45), if_neg nb]
    simp
   ·simp only [if_pos]
    exact h1
   ·simp only [if_pos]
    exact h2
  ·have hs : e ∈ S := (List.mem_cons.mp he).elim (fun w => absurd w z) id
   obtain ⟨g1, g2, g3, g4, g5, g6⟩ := R.yes e hs
   refine ⟨g1, fun dy => ?_, ?_, ?_, ?_, ?_⟩
   ·rw [Qch, Qch, if_neg (fun w => z w.1.symm), if_neg (fun w => z w.1.symm), List.append_nil, List.append_nil]
    exact g2 dy
   ·rw [Qb5, Qb5, g3]
    simp [z]
   ·rw [Qb5, Qb5, g4]
    simp [z]
   ·simp only [if_neg z]
    exact k _ _ g5
   ·simp only [if_neg z]
    exact k _ _ g6
 ·have z : e ≠ c := fun w => he (by rw [w]; exact List.mem_cons_self)
  have hs : e ∉ S := fun w => he (List.mem_cons_of_mem _ w)
  refine ⟨fun m => ?_, fun dy => ?_⟩
  ·rw [Qb5, Qb5, (R.no e hs).1 m, if_neg (ne e _ _ z), if_neg (ne e _ _ z)]
   rfl
  ·rw [Qch, Qch, if_neg (fun w => z w.1.symm), if_neg (fun w => z w.1.symm), (R.no e hs).2 dy]
   rfl
 ·by_cases z : e = c
  ·simp only [if_pos z]
   exact b1
  ·simp only [if_neg z]
   exact R.bp e
 ·by_cases z : e = c
  ·simp only [if_pos z]
   exact b2
  ·simp only [if_neg z]
   exact R.bz e
 ·simp only [if_neg (Ne.symm hct)]
  exact R.tp
 ·simp only [if_neg (Ne.symm hct)]
  exact R.tz
def xD (b : Int) (P Z : Str → Addr × Int × Int) (dy : Int) (c : Str) : Int := if b + 45 ≤ dy then (Z c).2.1 else (P c).2.1
def yD (b : Int) (P Z : Str → Addr × Int × Int) (dy : Int) (c : Str) : Int := if b + 45 ≤ dy then (Z c).2.2 else (P c).2.2
theorem Rq.rtw {K : Q5} {C : Addr} {H : Hp} {rp d : Addr} {t : Str} {kvs : List (List Key × V)} {b : Int} {S : List Str} {P Z : Str → Addr × Int × Int} (R : Rq K C H rp d t kvs b S P Z) {dy : Int} (h : b ≤ dy) : RtW K C H rp d t S dy kvs (xD b P Z dy) (yD b P Z dy) := by
 refine ⟨R.ra, fun c hc => ?_, fun c => ?_, fun c => ?_, fun c => ?_, ?_, ?_⟩
 ·obtain ⟨g1, g2, g3, g4, g5, g6⟩ := R.yes c hc
  rw [g2 dy, if_pos h]
  refine ⟨by simp, fun m m1 m2 => ?_⟩
  unfold xD yD
  by_cases w : b + 45 ≤ dy
  ·rw [if_pos w] at m1 m2 ⊢
   have e : m = b + 45 := by
    have a := m2 (b + 45) (by simp)
    simp at m1
    omega
   rw [e, if_pos w]
   exact ⟨_, g4, g6⟩
  ·rw [if_neg w] at m1 ⊢
   have e : m = b := by simpa using m1
   rw [e, if_neg w]
   exact ⟨_, g3, g5⟩
 ·unfold xD
  split
  ·exact (R.bz c).1
  ·exact (R.bp c).1
 ·unfold yD
  split
  ·exact (R.bz c).2.1
  ·exact (R.bp c).2.1
 ·unfold yD
  split
  ·exact (R.bz c).2.2
  ·exact (R.bp c).2.2
 ·unfold xD
  rw [R.tp, R.tz]
  split <;> rfl
 ·unfold yD
  rw [R.tp, R.tz]
  split <;> rfl
def spRb (K : Q5) (C : Addr) : Sp := fun vs H Q _ => ∃ (a cl : Addr) (ns : List Int) (cs : List Str) (t : Str), vs = [.ref a, .ref cl, .str t] ∧ SqL K H a (ns.map V.int) ∧ H cl = some (.lst (cs.map V.str)) ∧ cs.length = 4 ∧ cs.Nodup ∧
 ∀ (rp d : Addr) (kvs : List (List Key × V)) (S : List Str) (P Z : Str → Addr × Int × Int) H', Same H H' → Rq K C H' rp d t kvs (ns.getD 4 0 % 9800) S P Z → (∀ c ∈ cs, c ≠ t → c ∈ S) → Q (.ref rp) H'
theorem scav0 : FnScope ["_law_script", "_law_coins_here", "_law_told", "_law_rates_here", "_law_table_here", "_law_base", "_law_coin"] ["_law_script", "_law_coins_here", "_law_told"] (defScope sav0) := fsc
theorem okav0 (D : Def K mg "_law_rates_by" sav0 .none) {C_Rates : Addr} (cau0 : Cal P w K mg base CX0 true 3 "_law_rates" ["_law_told"] [] (spRts K C_Rates)) (caz0 : Cal P w K mg base CX0 true 2 "_law_table" ["_law_script", "_law_coins_here", "_law_told"] [] (spTab K)) (cal0 : Cal P w K mg base CX0 true 1 "_law_cell_at" ["_law_script", "_law_k"] [] (spCell K)) (cai0 : CalM P w K mg base CX0 true 3 C_Rates "tell" ["self", "coin", "day", "top", "bottom"] [.int 1] (spTell K C_Rates)) (cl_Rates : Cls K C_Rates) : Cal P w K mg base CX0 true 4 "_law_rates_by" ["_law_script", "_law_coins_here", "_law_told"] [] (spRb K C_Rates) := by
 obtain ⟨f, fd, F, hm⟩ := D
 obtain ⟨fau0, fdau0, dau0, Gau0, mau0, kau0, bau0, vau0, bau01⟩ := cau0
 obtain ⟨faz0, fdaz0, daz0, Gaz0, maz0, kaz0, baz0, vaz0, baz01⟩ := caz0
 obtain ⟨fal0, fdal0, dal0, Gal0, mal0, kal0, bal0, val0, bal01⟩ := cal0
 obtain ⟨fai0, fdai0, dai0, Gai0, mai0, bai0, vai0, bai01⟩ := cai0
 refine ⟨f, fd, _, F.ok scav0 (fun vs H Q E h => ?_) (fun cdv A outer s H vs Q E hr h => ?_), hm, F.kp, (F.b3), .nil, F.b3⟩
 ·obtain ⟨a, cl, ns, cs, t, rfl, hS, hcl, hc4, hnd, q⟩ := h
  rfl
 obtain ⟨a, cl, ns, cs, t, rfl, hS, hcl, hc4, hnd, q⟩ := h
 have nd := scav0.nd
 refine ⟨_, (Qad (Qal (i := 3) nd rfl (Or.inl rfl) (Qan Gau0 (hr.mono (by decide)) rfl mau0 kau0 bau0 Paired.nil pass0 (Qaa (pv 2) Qaf)))
  (Qad (Qal (i := 4) nd rfl (Or.inl rfl) (Qan Gaz0 (hr.mono (by decide)) rfl maz0 kaz0 baz0 Paired.nil pass0 (Qaa (pv 0) (Qaa (pv 1) (Qaa (pv 2) Qaf)))))
  (Qad (Qal (i := 5) nd rfl (Or.inl rfl) (Qaj Qau (Qan Gal0 (hr.mono (by decide)) rfl mal0 kal0 bal0 Paired.nil pass0 (Qaa (pv 0) (Qaa Qac Qaf))) Qac))
  (Qad (Qa8 PassesOwn.never rfl (Qar (pv 1)) (Qak (i := 6) nd rfl (Or.inl rfl)) (Qag (Qbq (Qap Qee (pv 6) (pv 2) (nomark _)) (Qad (Qbg (Qb8 (pv 3) cl_Rates mai0 Gai0 (hr.mono (by decide)) bai0 Paired.nil pass0 (Qaa (pv 6) (Qaa (pv 5) (Qaa (Qax Qaw (Qbp (Qbl hr) (pv 4) (pv 6) (fun _ _ => rfl)) Qac (fun _ _ => rfl)) (Qaa (Qax Qaw (Qbp (Qbl hr) (pv 4) (pv 6) (fun _ _ => rfl)) Qac (fun _ _ => rfl)) Qaf))))))
  (Qag (Qbg (Qb8 (pv 3) cl_Rates mai0 Gai0 (hr.mono (by decide)) bai0 Paired.nil pass0 (Qaa (pv 6) (Qaa (Qaj Qa1 (pv 5) Qac) (Qaa (Qax Qaw (Qbp (Qbl hr) (pv 4) (pv 6) (fun _ _ => rfl)) Qac (fun _ _ => rfl)) (Qaa (Qax Qaw (Qbp (Qbl hr) (pv 4) (pv 6) (fun _ _ => rfl)) Qac (fun _ _ => rfl)) Qaf)))))))) Qas)))
  (Qag (Qaq (pv 3))))))), ?_⟩
 refine ⟨_, rfl, t, rfl, fun rp d H1 e1 hd0 R0 => ?_⟩
 refine ⟨_, rfl, _, rfl, _, rfl, a, cl, ns, cs, t, rfl, e1.seq hS, e1 _ _ hcl, hc4, fun td kvt H2 e2 htd hT => ?_⟩
 have e12 := e1.trans e2
 refine ⟨_, rfl, a, ns, 4, rfl, e12.seq hS, _, _, rfl, rfl, (by show (0 : Int) < 9800; decide), ?_⟩
 refine ⟨_, rfl, cl, rfl, ⟨_, SqL.of (e12 _ _ hcl)⟩, ?_⟩
 have R2 : RatesAt K C_Rates H2 rp d t [] := by
  obtain ⟨⟨dx, gs, x, y⟩, z, ln, ks⟩ := R0
  exact ⟨⟨dx, gs, e2 _ _ x, y⟩, e2 _ _ z, ln, ks⟩
 refine Qaz (xs := cs.map V.str) (fun i σ H' => ∃ (o6 : Option V) (kvs : List (List Key × V)) (S : List Str) (P Z : Str → Addr × Int × Int), σ = [some (.ref a), some (.ref cl), some (.str t), some (.ref rp), some (.ref td), some (.int (ns.getD 4 0 % 9800)), o6] ∧ (∀ b o, H2 b = some o → b ≠ d → H' b = some o) ∧ Rq K C_Rates H' rp d t kvs (ns.getD 4 0 % 9800) S P Z ∧ (∀ c, c ∈ S ↔ c ∈ cs.take i ∧ c ≠ t) ∧ kvs.length ≤ 2 * i) ⟨_, [], [], fun _ => (rp, 1, 1), fun _ => (rp, 1, 1), rfl, (fun b o h _ => h), ⟨R2, (fun c hc => nomatch hc), (fun c _ => ⟨fun m => rfl, fun dy => rfl⟩), (fun _ => by show (1 : Int).natAbs ≤ 2 ^ 200 ∧ (1 : Int) ≤ 1 ∧ (1 : Int) ≤ 2 ^ 200; decide), (fun _ => by show (1 : Int).natAbs ≤ 2 ^ 200 ∧ (1 : Int) ≤ 1 ∧ (1 : Int) ≤ 2 ^ 200; decide), rfl, rfl⟩, (fun c => by simp), Nat.le_refl _⟩ ?_ ?_ ?_
 ·rintro i σ H' hi ⟨o6, kvs, S, P, Z, rfl, k, R, _⟩
  have hc := e12 _ _ hcl
  exact SqL.of (k _ _ hc (Qbd hc R2.dc (by intro z; cases z)))
 ·rintro i x' σ H' hx ⟨o6, kvs, S, P, Z, rfl, k, R, hSm, hln⟩
  obtain ⟨c, hci, rfl⟩ := Qce hx
  have hil : i < cs.length := (List.getElem?_eq_some_iff.mp hci).1
  have tk := Qa7 hci
  have hnt := Qe9 hnd hci
  refine ⟨_, rfl, _, rfl, rfl, _, rfl, ?_⟩
  refine ndec2 (fun h => ?_) (fun h => ?_)
  ·have hct : c ≠ t := fun z => h (congrArg V.str z)
   have hcS : c ∉ S := fun z => hnt ((hSm c).mp z).1
   obtain ⟨r, x, y, hv, hr, x1, x2, y1, y2⟩ := hT c (List.mem_of_getElem? hci)
   have kp : ∀ a xs, H2 a = some (.tup xs) → H' a = some (.tup xs) := fun a xs h => k _ _ h (Qbd h R2.dc (by intro z; cases z))
   have hr' := kp _ _ hr
   have htd' := k _ _ htd (Qbd htd R2.dc (by intro z; cases z))
   have g := DGet.k (k := Sum.inr c) htd'
   rw [hv] at g
   have hTr := SqT.of (K := K) hr'
   obtain ⟨dx, gs, hpr, htl, hkn, hno⟩ := R.ra.ob
   refine ⟨_, rfl, rp, dx, gs, rfl, hpr, hno "tell" (by decide+kernel), _, rfl, _, rfl, _, rfl, _, rfl, td, _, rfl, g, .inr (.inl ⟨r, _, 0, _, rfl, rfl, hTr, rfl, _, rfl, _, rfl, td, _, rfl, g, .inr (.inl ⟨r, _, 1, _, rfl, rfl, hTr, rfl, ?_⟩)⟩)⟩
   refine ⟨rp, d, t, c, (ns.getD 4 0 % 9800), x, y, kvs, rfl, R.ra, x1, y1, by omega, hct, (R.no c hcS).1 _, by omega, fun r5 H5 hr5 R5 k5 => ?_⟩
   have kp5 : ∀ a xs, H' a = some (.tup xs) → H5 a = some (.tup xs) := fun a xs h => k5 _ _ h (Qbd h R.ra.dc (by intro z; cases z))
   have htd5 := k5 _ _ htd' (Qbd htd' R.ra.dc (by intro z; cases z))
   have g5 := DGet.k (k := Sum.inr c) htd5
   rw [hv] at g5
   have hTr5 := SqT.of (K := K) (kp5 _ _ hr')
   obtain ⟨dx5, gs5, hpr5, htl5, hkn5, hno5⟩ := R5.ob
   refine ⟨_, rfl, rp, dx5, gs5, rfl, hpr5, hno5 "tell" (by decide+kernel), _, rfl, _, rfl, _, _, rfl, rfl, _, rfl, _, rfl, td, _, rfl, g5, .inr (.inl ⟨r, _, 1, _, rfl, rfl, hTr5, rfl, _, rfl, _, rfl, td, _, rfl, g5, .inr (.inl ⟨r, _, 0, _, rfl, rfl, hTr5, rfl, ?_⟩)⟩)⟩
   have hv6 : valV (kvs ++ [([Sum.inr c, Sum.inl (ns.getD 4 0 % 9800)], V.ref r5)]) [Sum.inr c, Sum.inl ((ns.getD 4 0 % 9800) + 45)] = none := by
    rw [Qb5, (R.no c hcS).1]
    show (if _ then _ else _) = none
    rw [if_neg (by intro z; simp at z; omega)]
   refine ⟨rp, d, t, c, (ns.getD 4 0 % 9800) + 45, y, x, _, rfl, R5, y1, x1, by omega, hct, hv6, (by rw [List.length_append]; show kvs.length + 1 < 500; omega), fun r6 H6 hr6 R6 k6 => ?_⟩
   have kp6 : ∀ a xs, H5 a = some (.tup xs) → H6 a = some (.tup xs) := fun a xs h => k6 _ _ h (Qbd h R5.dc (by intro z; cases z))
   have lw := N11.lowD (t := x) (b := y) (by omega)
   have lv := N11.lowD (t := y) (b := x) (by omega)
   refine ⟨_, _, c :: S, _, _, rfl, (fun b o hb nb => k6 b o (k5 b o (k b o hb nb) nb) nb), R.add hcS hct R6 (fun a xs h => kp6 _ _ (kp5 _ _ h)) (kp6 _ _ hr5) hr6 ⟨(by have := lw.2.2.1; omega), lw.1, (by have := lw.2.1; omega)⟩ ⟨(by have := lv.2.2.1; omega), lv.1, (by have := lv.2.1; omega)⟩, fun e => ?_, ?_⟩
   ·rw [List.mem_cons, tk, List.mem_append, List.mem_singleton, hSm e]
    constructor
    ·rintro (rfl | w)
     ·exact ⟨.inr rfl, hct⟩
     ·exact ⟨.inl w.1, w.2⟩
    ·rintro ⟨w | w, w2⟩
     ·exact .inr ⟨w, w2⟩
     ·exact .inl w
   ·rw [List.length_append, List.length_append]
    show kvs.length + 1 + 1 ≤ _
    omega
  ·have hct : c = t := V.str.inj h
   refine ⟨_, kvs, S, P, Z, rfl, k, R, (fun e => ?_), by omega⟩
   rw [tk, List.mem_append, List.mem_singleton, hSm e]
   constructor
   ·exact fun w => ⟨.inl w.1, w.2⟩
   ·rintro ⟨w | w, w2⟩
    ·exact ⟨w, w2⟩
    ·exact absurd (w.trans hct) w2
 rintro σ H' ⟨o6, kvs, S, P, Z, rfl, k, R, hSm, hln⟩
 rw [List.length_map, List.take_length] at hSm
 exact ⟨_, rfl, q rp d kvs S P Z H' (fun b o hb => k b o (e12 _ _ hb) (Qai hb hd0)) R fun c hc ht => (hSm c).mpr ⟨hc, ht⟩⟩
abbrev Rr := Addr × Int × Addr × List Sd
def rfR (W : List Rr) : List V := W.map fun z => .ref z.1
theorem Qjk (W : List Rr) : (rfR W).length = W.length := List.length_map ..
theorem Qoc (A B : List Rr) : rfR (A ++ B) = rfR A ++ rfR B := List.map_append ..
def RrL (H : Hp) (fs as cs : List Str) (b : Int) (W : List Rr) : Prop := ∀ w ∈ W, H w.1 = some (.tup [.int w.2.1, .ref w.2.2.1]) ∧ b ≤ w.2.1 ∧ H w.2.2.1 = some (.lst (rfs w.2.2.2)) ∧ Rows fs as cs (2 ^ 145) H w.2.2.2 ∧ w.2.2.2.length ≤ 39 ∧ ∀ j, j < 3 → N21.tot (cs.getD j "") (prs w.2.2.2) = 0
theorem cut_sd (L : List Sd) (lo hi : Option Int) : ∃ U : List Sd, cutV (rfs L) lo hi = rfs U ∧ U.length ≤ L.length ∧ ∀ z ∈ U, z ∈ L := by
 refine ⟨(L.drop (HT.sIx L.length 0 lo)).take (HT.sIx L.length L.length hi - HT.sIx L.length 0 lo), ?_, ?_, fun w hw => List.mem_of_mem_drop (List.mem_of_mem_take hw)⟩
 ·unfold cutV rfs
  rw [List.length_map, ← List.map_drop, ← List.map_take]
 ·rw [List.length_take, List.length_drop]
  omega
def spRows28 (K : Q5) : Sp := fun vs H Q _ => ∃ (a fl al cl : Addr) (ns : List Int) (fs as cs : List Str), vs = [.ref a, .ref fl, .ref al, .ref cl] ∧ SqL K H a (ns.map V.int) ∧ ns.length ≤ 63 ∧ (∀ w ∈ ns, PySem.Builtin.Int.intBits w ≤ 2 ^ 20) ∧ Ls H fl al cl fs as cs ∧
 ∀ (p : Addr) (W : List Rr) H', Same H H' → H p = none → H' p = some (.lst (rfR W)) → RrL H' fs as cs (ns.getD 4 0 % 9800) W → W.length ≤ 8 → Q (.ref p) H'
theorem two29 {i : Int} (h0 : 0 ≤ i) (h1 : i < 2) : ∃ v : Int, atI [V.int 0, V.int 29] i = some (.int v) := by
 have : i = 0 ∨ i = 1 := by omega
 rcases this with rfl | rfl
 ·exact ⟨0, rfl⟩
 ·exact ⟨29, rfl⟩
theorem join2 {α β : Type} {G : Prop} (F P : α → β → Prop) (hm : (∀ x y, F x y → P x y) → G) (hr : ∀ x y, F x y → P x y) : G := hm hr
theorem max_le (i j : Int) : i ≤ (if j > i then j else i) := by split <;> omega
theorem scaw0 : FnScope ["_law_script", "_law_firms", "_law_accounts", "_law_coins_here", "_law_cells", "_law_base", "_law_sides", "_law_k", "_law_rows_here", "_law_pick", "_law_day"] ["_law_script", "_law_firms", "_law_accounts", "_law_coins_here"] (defScope saw0) := fsc
theorem okaw0 (D : Def K mg "_law_rows" saw0 .none) (cal0 : Cal P w K mg base CX0 true 1 "_law_cell_at" ["_law_script", "_law_k"] [] (spCell K)) (cax0 : Cal P w K mg base CX0 true 2 "_law_side" ["_law_pick", "_law_amount_here", "_law_firms", "_law_accounts", "_law_coins_here"] [] spSide) (cak0 : Cal P w K mg base CX0 true 1 "_law_amount" ["_law_cell"] [] spAmt) (car0 : Cal P w K mg base CX0 true 1 "_law_mix" ["_law_cell", "_law_by"] [] spMix) (cam0 : Cal P w K mg base CX0 true 3 "_law_closed" ["_law_sides", "_law_firms", "_law_accounts", "_law_coins_here", "_law_cell"] [] spClosed) (z_range : mg "range" = none) (z_len : mg "len" = none) (z_max : mg "max" = none) : Cal P w K mg base CX0 true 4 "_law_rows" ["_law_script", "_law_firms", "_law_accounts", "_law_coins_here"] [] (spRows28 K) := by
 obtain ⟨f, fd, F, hm⟩ := D
 obtain ⟨fal0, fdal0, dal0, Gal0, mal0, kal0, bal0, val0, bal01⟩ := cal0
 obtain ⟨fax0, fdax0, dax0, Gax0, max0, kax0, bax0, vax0, bax01⟩ := cax0
 obtain ⟨fak0, fdak0, dak0, Gak0, mak0, kak0, bak0, vak0, bak01⟩ := cak0
 obtain ⟨far0, fdar0, dar0, Gar0, mar0, kar0, bar0, var0, bar01⟩ := car0
 obtain ⟨fam0, fdam0, dam0, Gam0, mam0, kam0, bam0, vam0, bam01⟩ := cam0
 refine ⟨f, fd, _, F.ok scaw0 (fun vs H Q E h => ?_) (fun cdv A outer s H vs Q E hr h => ?_), hm, F.kp, (F.b4), .nil, F.b4⟩
 ·obtain ⟨a, fl, al, cl, ns, fs, as, cs, rfl, hS, hlen, hb, LS, q⟩ := h
  rfl
 obtain ⟨a, fl, al, cl, ns, fs, as, cs, rfl, hS, hlen, hb, LS, q⟩ := h
 have nd := scaw0.nd
 refine ⟨_, (Qad (Qal (i := 4) nd rfl (Or.inl rfl) (Qb1 Qc8 (pv 0) (Qb3 Qac) (Qb3 Qac)))
  (Qad (Qal (i := 5) nd rfl (Or.inl rfl) (Qaj Qau (Qan Gal0 (hr.mono (by decide)) rfl mal0 kal0 bal0 Paired.nil pass0 (Qaa (pv 0) (Qaa Qac Qaf))) Qac))
  (Qad (Qal (i := 6) nd rfl (Or.inl rfl) (Qb4 Qaf))
  (Qad (Qa8 PassesOwn.never rfl (Qbw rfl z_range (Qaa (Qaj Qbh (Qav Qa5 rfl z_len Qcw (Qaa (pv 4) Qaf)) Qac) Qaf)) (Qak (i := 7) nd rfl (Or.inl rfl)) (Qag (Qbg (Qc1 PySem.F.plainAttrs_list PySem.F.slot_list_append PySem.F.type_list_append Qbj (pv 6) (Qaa (Qan Gax0 (hr.mono (by decide)) rfl max0 kax0 bax0 Paired.nil pass0 (Qaa (Qax Qaw (pv 4) (Qaj Qbe Qac (pv 7)) (fun _ _ => rfl)) (Qaa (Qan Gak0 (hr.mono (by decide)) rfl mak0 kak0 bak0 Paired.nil pass0 (Qaa (Qax Qaw (pv 4) (Qaj Qa1 (Qaj Qbe Qac (pv 7)) Qac) (fun _ _ => rfl)) Qaf)) (Qaa (pv 1) (Qaa (pv 2) (Qaa (pv 3) Qaf)))))) Qaf)))))
  (Qad (Qal (i := 8) nd rfl (Or.inl rfl) (Qb4 Qaf))
  (Qad (Qa8 PassesOwn.never rfl (Qbw rfl z_range (Qaa (Qaj Qbh (Qaj Qa1 (Qav Qa5 rfl z_len Qcw (Qaa (pv 6) Qaf)) Qac) Qac) Qaf)) (Qak (i := 7) nd rfl (Or.inl rfl)) (Qad (Qal (i := 9) nd rfl (Or.inl rfl) (Qan Gar0 (hr.mono (by decide)) rfl mar0 kar0 bar0 Paired.nil pass0 (Qaa (Qan Gal0 (hr.mono (by decide)) rfl mal0 kal0 bal0 Paired.nil pass0 (Qaa (pv 0) (Qaa Qac Qaf))) (Qaa (Qaj Qa1 Qac (Qaj Qbe Qac (pv 7))) Qaf))))
  (Qad (Qal (i := 10) nd rfl (Or.inl rfl) (Qaj Qa1 (pv 5) (Qaj Qau (pv 9) Qac)))
  (Qad (Qbq (Qap Qcl (Qaj Qau (Qaj Qbh (pv 9) Qac) Qac) Qac (nomark _)) (Qag (Qal (i := 10) nd rfl (Or.inl rfl) (Qaj Qa1 (Qaj Qbe (Qaj Qbh (pv 10) Qac) Qac) (Qax Qaw (Qb4 (Qaa Qac (Qaa Qac Qaf))) (Qaj Qau (Qaj Qbh (pv 9) Qac) Qac) (fun _ _ => rfl))))) Qas)
  (Qag (Qbg (Qc1 PySem.F.plainAttrs_list PySem.F.slot_list_append PySem.F.type_list_append Qbj (pv 8) (Qaa (Qay (Qaa (Qav (Qge rfl) rfl z_max Qlf (Qaa (pv 5) (Qaa (pv 10) Qaf))) (Qaa (Qan Gam0 (hr.mono (by decide)) rfl mam0 kam0 bam0 Paired.nil pass0 (Qaa (Qb1 Qc8 (pv 6) (Qb3 (Qaj Qbe Qac (pv 7))) (Qb3 (Qaj Qa1 (Qaj Qbe Qac (pv 7)) Qac))) (Qaa (pv 1) (Qaa (pv 2) (Qaa (pv 3) (Qaa (pv 9) Qaf)))))) Qaf))) Qaf))))))))
  (Qag (Qaq (pv 8))))))))), ?_⟩
 have hline : 600 ≤ sizeLine := by decide
 obtain ⟨us, hu, lu, mu⟩ := Qmq ns (some 6) (some 62)
 refine ⟨_, rfl, _, rfl, _, rfl, a, _, rfl, hS, fun cu hcu => ?_⟩
 rw [hu]
 have e1 := Qae (o := .lst (us.map V.int)) hcu
 refine ⟨_, rfl, a, ns, 4, rfl, e1.seq hS, _, _, rfl, rfl, (by show (0 : Int) < 9800; decide), ?_⟩
 refine ⟨(by show 0 ≤ sizeLine; decide), fun p hp => ?_⟩
 have e2 := Qae (o := .lst []) hp
 have hp0 := e1.free hp
 have ncp : cu ≠ p := Qai Qab hp
 have lum : (us.map V.int).length = us.length := List.length_map ..
 refine ⟨_, rfl, cu, _, rfl, .inl (SqL.of (e2 _ _ Qab)), _, _, rfl, rfl, ⟨by decide, by decide⟩, _, rfl, by omega, by omega, ?_⟩
 refine Qcg (fun i σ H' => ∃ (o : Option V) (L : List Sd), σ = [some (.ref a), some (.ref fl), some (.ref al), some (.ref cl), some (.ref cu), some (.int (ns.getD 4 0 % 9800)), some (.ref p), o, none, none, none] ∧ Same H H' ∧ H' cu = some (.lst (us.map V.int)) ∧ H' p = some (.lst (rfs L)) ∧ L.length ≤ i ∧ Rows fs as cs (2 ^ 127) H' L) ⟨_, [], rfl, e1.trans e2, e2 _ _ Qab, Qab, Nat.le_refl _, fun z hz => nomatch hz⟩ ?_ ?_
 ·rintro i σ H1 hi ⟨o, L, rfl, e, hcc, hpp, hlL, hL⟩
  have hi2 : 2 * i + 1 < us.length := by omega
  obtain ⟨c1, _, hc1⟩ := Qkk (ws := us) (i := 2 * (0 + (i : Int))) (by omega) (by omega)
  obtain ⟨c2, mc2, hc2⟩ := Qkk (ws := us) (i := 2 * (0 + (i : Int)) + 1) (by omega) (by omega)
  refine ⟨_, rfl, .inl ⟨rfl, _, SqL.of hpp⟩, _, rfl, _, rfl, _, _, rfl, rfl, Qb9 (by omega) (by omega) (by omega) (by omega), .inl ⟨cu, _, _, _, rfl, rfl, SqL.of hcc, hc1, _, rfl, _, rfl, _, _, rfl, rfl, Qb9 (by omega) (by omega) (by omega) (by omega), _, _, rfl, rfl, .inl ⟨cu, _, _, _, rfl, rfl, SqL.of hcc, hc2, c2, rfl, hb c2 (mu c2 mc2), fun am ham => ⟨_, rfl, _, rfl, _, rfl, c1, am, fl, al, cl, fs, as, cs, rfl, LS.same e, fun t f ac co ht hlf hla hco => ?_⟩⟩⟩⟩
  have e5 := Qae (o := .tup [.str f, .str ac, .str co, .int am]) ht
  refine ⟨p, _, _, rfl, rfl, e5 _ _ hpp, (by rw [Qbc]; omega), ?_⟩
  refine ⟨_, L ++ [(t, f, ac, co, am)], rfl, Qat (e.trans e5) hp0, (by rw [Qah ncp]; exact e5 _ _ hcc), (by rw [Qab, Qdv]; rfl), (by rw [List.length_append]; show L.length + 1 ≤ _; omega), fun z hz => ?_⟩
  rcases List.mem_append.mp hz with w | w
  ·exact ⟨Qbv (e5 _ _ (hL z w).1) (e5 _ _ hpp), (hL z w).2⟩
  ·rw [List.mem_singleton.mp w]
   exact ⟨Qbv Qab (e5 _ _ hpp), hlf, hla, hco, ham⟩
 rintro σ H1 ⟨o, L, rfl, e, hcc, hpp, hlL, hL⟩
 have hL40 : L.length ≤ 31 := by omega
 clear hcc
 refine ⟨(by show 0 ≤ sizeLine; decide), fun rw hrw => ?_⟩
 have e3 := Qae (o := .lst []) hrw
 have hrw0 := e.free hrw
 have npr : p ≠ rw := Qai hpp hrw
 have rl := Qbc L
 refine ⟨_, rfl, p, _, rfl, .inl (SqL.of (e3 _ _ hpp)), _, _, rfl, rfl, _, _, rfl, rfl, ⟨by decide, by decide⟩, _, rfl, by omega, by omega, ?_⟩
 refine Qcg (fun i σ H' => ∃ (o7 o9 o10 : Option V) (W : List Rr), σ = [some (.ref a), some (.ref fl), some (.ref al), some (.ref cl), some (.ref cu), some (.int (ns.getD 4 0 % 9800)), some (.ref p), o7, some (.ref rw), o9, o10] ∧ Same H H' ∧ H' p = some (.lst (rfs L)) ∧ Rows fs as cs (2 ^ 127) H' L ∧ H' rw = some (.lst (rfR W)) ∧ RrL H' fs as cs (ns.getD 4 0 % 9800) W ∧ (∀ w ∈ W, w.2.2.1 ≠ rw) ∧ W.length ≤ i) ⟨_, _, _, [], rfl, e.trans e3, e3 _ _ hpp, hL.same e3, Qab, (fun w hw => nomatch hw), (fun w hw => nomatch hw), Nat.le_refl _⟩ ?_ ?_
 ·clear e hpp hL e3
  rintro i σ H1 hi ⟨o7, o9, o10, W, rfl, e, hpp, hL, hrr, hW, hWn, hWl⟩
  have hi7 : i < 7 := by omega
  refine ⟨_, rfl, a, ns, 5, rfl, e.seq hS, _, rfl, _, _, rfl, rfl, Qb9 (by omega) (by omega) (by omega) (by omega), _, _, rfl, rfl, _, _, rfl, by omega, fun m m0 m1 => ?_⟩
  refine ⟨_, rfl, _, rfl, _, _, rfl, rfl, (by show (0 : Int) < 100; decide), _, _, rfl, rfl, ?_⟩
  obtain ⟨d0, hd0⟩ : ∃ d0 : Int, d0 = (ns.getD 4 0 % 9800) + m % 100 := ⟨_, rfl⟩
  have hte : (fun i j => V.int (i + j)) (ns.getD 4 0 % 9800) (m % 100) = V.int d0 := congrArg V.int hd0.symm
  rw [hte]
  apply join2 (fun (_ : Int) (H2 : Hp) => Same H1 H2)
  ·intro k
   refine ⟨_, rfl, _, _, rfl, rfl, ⟨by decide, by decide⟩, _, _, rfl, rfl, (by show (0 : Int) < 3; decide), rfl, _, rfl, ?_⟩
   refine dec2 (fun h => ?a) (fun h => ?b)
   case b =>
    obtain ⟨x, ex⟩ : ∃ x : Int, x = d0 := ⟨_, rfl⟩
    obtain ⟨H2, eH⟩ : ∃ H2, H2 = H1 := ⟨_, rfl⟩
    rw [← ex, ← eH]
    exact k x H2 (by rw [eH]; exact Same.refl _)
   case a =>
    obtain ⟨v, hv⟩ := two29 (i := m / 300 % 2) (Int.emod_nonneg _ (by decide)) (Int.emod_lt_of_pos _ (by decide))
    refine ⟨_, rfl, _, _, rfl, rfl, ⟨by decide, by decide⟩, _, _, rfl, rfl, .of_right (intBits_le_64 (by decide) (by decide)), (by show 2 ≤ sizeLine; decide), fun q1 hq1 => ⟨_, rfl, _, _, rfl, rfl, ⟨by decide, by decide⟩, _, _, rfl, rfl, (by show (0 : Int) < 2; decide), .inl ⟨q1, _, _, _, rfl, rfl, SqL.of Qab, hv, _, _, rfl, rfl, ?_⟩⟩⟩
    exact k _ _ (Qae hq1)
  intro dy H2 e2
  obtain ⟨U, hU, lU, mU⟩ := cut_sd L (some (6 * (0 + (i : Int)))) (some (6 * (0 + (i : Int)) + 6))
  refine ⟨_, rfl, .inl ⟨rfl, _, SqL.of (e2 _ _ hrr)⟩, _, rfl, _, rfl, _, _, rfl, _, rfl, _, rfl, _, _, rfl, rfl, Qb9 (by omega) (by omega) (by omega) (by omega), _, rfl, _, rfl, _, _, rfl, rfl, Qb9 (by omega) (by omega) (by omega) (by omega), _, _, rfl, rfl, _, rfl, p, _, rfl, SqL.of (e2 _ _ hpp), fun cp hcp => ?_⟩
  rw [hU]
  have f3 := Qae (o := .lst (rfs U)) hcp
  have e13 := e2.trans f3
  have hUR : Rows fs as cs (2 ^ 127) (upd H2 cp (.lst (rfs U))) U := fun z hz => ⟨e13 _ _ (hL z (mU z hz)).1, (hL z (mU z hz)).2⟩
  refine ⟨_, rfl, _, rfl, _, rfl, _, rfl, cp, fl, al, cl, m, U, fs, as, cs, rfl, Qab, hUR, by omega, LS.same (e.trans e13), fun kp L' H4 e4 hk0 hkp hL' hlL' hz3 => ⟨(by show 2 ≤ sizeLine; decide), fun tp htp => ?_⟩⟩
  have f5 := Qae (o := .tup [.int (if dy > (ns.getD 4 0 % 9800) then dy else (ns.getD 4 0 % 9800)), .ref kp]) htp
  have e15 := (e13.trans e4).trans f5
  have hrr5 := e15 _ _ hrr
  have nkr : kp ≠ rw := fun z => by
   rw [z] at hk0
   rw [e13 _ _ hrr] at hk0
   cases hk0
  refine ⟨rw, _, _, rfl, rfl, hrr5, (by rw [Qjk]; omega), ?_⟩
  have kpt : ∀ b xs, upd H4 tp (.tup [.int (if dy > (ns.getD 4 0 % 9800) then dy else (ns.getD 4 0 % 9800)), .ref kp]) b = some (.tup xs) → upd (upd H4 tp (.tup [.int (if dy > (ns.getD 4 0 % 9800) then dy else (ns.getD 4 0 % 9800)), .ref kp])) rw (.lst (rfR W ++ [.ref tp])) b = some (.tup xs) := fun b xs h => Qbv h hrr5
  refine ⟨_, _, _, W ++ [(tp, (if dy > (ns.getD 4 0 % 9800) then dy else (ns.getD 4 0 % 9800)), kp, L')], rfl, Qat (e.trans e15) hrw0, (by rw [Qah npr]; exact e15 _ _ hpp), (fun z hz => ⟨kpt _ _ (e15 _ _ (hL z hz).1), (hL z hz).2⟩), (by rw [Qab, Qoc]; rfl), (fun w hw => ?_), (fun w hw => ?_), (by rw [List.length_append]; show W.length + 1 ≤ _; omega)⟩
  ·rcases List.mem_append.mp hw with x | x
   ·obtain ⟨a1, a2, a3, a4, a5⟩ := hW w x
    exact ⟨kpt _ _ (e15 _ _ a1), a2, (by rw [Qah (hWn w x)]; exact e15 _ _ a3), (fun z hz => ⟨kpt _ _ (e15 _ _ (a4 z hz).1), (a4 z hz).2⟩), a5⟩
   ·rw [List.mem_singleton.mp x]
    exact ⟨kpt _ _ Qab, max_le _ _, (by rw [Qah nkr]; exact f5 _ _ hkp), (fun z hz => ⟨kpt _ _ (f5 _ _ (hL' z hz).1), (hL' z hz).2⟩), hlL', hz3⟩
  ·rcases List.mem_append.mp hw with x | x
   ·exact hWn w x
   ·rw [List.mem_singleton.mp x]
    exact nkr
 rintro σ H1 ⟨o7, o9, o10, W, rfl, e, hpp, hL, hrr, hW, hWn, hWl⟩
 exact ⟨_, rfl, q rw W _ e hrw0 hrr hW (by omega)⟩
theorem bt_all : bootBuiltins "all" = some (.builtin "all") := by decide+kernel
def pc (G : List Pr) : List (Str × Int) := G.map fun g => (g.1.2, g.2.1)
def sW (G : List Pr) : Int := N25.sg (·.2.2) G
theorem Qn8 (G : List Pr) (g : Pr) : sW (G ++ [g]) = sW G + g.2.2 := by
 unfold sW
 rw [N25.Qbt]
 show _ + (g.2.2 + 0) = _
 rw [Int.add_zero]
theorem Qog (G : List Pr) (g : Pr) : pc (G ++ [g]) = pc G ++ [(g.1.2, g.2.1)] := by
 unfold pc
 rw [List.map_append]
 rfl
def spSm : Sp := fun vs H Q _ => ∃ (l : Addr) (F : List Rw4), vs = [.ref l] ∧ H l = some (.lst (rf4 F)) ∧ R4 H F ∧ F.length ≤ 1000 ∧ (∀ c, N21.tot c (pc (F.map (·.2))) = 0) ∧ sW (F.map (·.2)) = 0 ∧ ∀ H', Same H H' → Q (.bl true) H'
abbrev R3 := Addr × Str × Int × Int
def tup3 (z : R3) : HO := .tup [.str z.2.1, .int z.2.2.1, .int z.2.2.2]
def rf3 (L : List R3) : List V := L.map fun z => .ref z.1
theorem Qcy (L : List R3) : (rf3 L).length = L.length := List.length_map ..
theorem Qjn (A B : List R3) : rf3 (A ++ B) = rf3 A ++ rf3 B := List.map_append ..
theorem Qjm {L : List R3} {i : Nat} {x : V} (h : (rf3 L)[i]? = some x) : ∃ z, L[i]? = some z ∧ x = .ref z.1 := Qdy h
def R3L (H : Hp) (R : List R3) : Prop := ∀ z ∈ R, H z.1 = some (tup3 z)
theorem R3L.same {H H' : Hp} {R : List R3} (h : R3L H R) (e : Same H H') : R3L H' R := fun z hz => e _ _ (h z hz)
def duF (o : Str) (G : List Pr) : List (Str × Int × Int) := (G.filter fun g => decide (g.1.1 = due o)).map fun g => (g.1.2, g.2)
def spDu : Sp := fun vs H Q _ => ∃ (l : Addr) (o : Str) (F : List Rw4), vs = [.ref l, .str o] ∧ H l = some (.lst (rf4 F)) ∧ R4 H F ∧ F.length ≤ 1000 ∧ o.length ≤ 8 ∧ ∀ (p : Addr) (R : List R3) H', Same H H' → H' p = some (.lst (rf3 R)) → R3L H' R → R.map (·.2) = duF o (F.map (·.2)) → Q (.ref p) H'
theorem scay0 : FnScope ["_law_figures", "_law_sums_here", "_law_worth_here", "_law_account", "_law_coin", "_law_amount_here", "_law_part"] ["_law_figures"] (defScope say0) := fsc
theorem okay0 (D : Def K mg "_law_sums" say0 .none) (z_all : mg "all" = none) (z_list : mg "list" = none) : Cal P w K mg base CX0 true 1 "_law_sums" ["_law_figures"] [] spSm := by
 obtain ⟨f, fd, F, hm⟩ := D
 refine ⟨f, fd, _, F.ok scay0 (fun vs H Q E h => ?_) (fun cdv A outer s H vs Q E hr h => ?_), hm, F.kp, (F.b1), .nil, F.b1⟩
 ·obtain ⟨l, F, rfl, hl, hF, hlen, hz, hw, q⟩ := h
  rfl
 obtain ⟨l, F, rfl, hl, hF, hlen, hz, hw, q⟩ := h
 have nd := scay0.nd
 refine ⟨_, (Qad (Qal (i := 1) nd rfl (Or.inl rfl) Qcu)
  (Qad (Qal (i := 2) nd rfl (Or.inl rfl) Qac)
  (Qad (Qa8 PassesOwn.never rfl (Qar (pv 0)) (Qcc rfl (Qam (Qak (i := 3) nd rfl (Or.inl rfl)) (Qam (Qak (i := 4) nd rfl (Or.inl rfl)) (Qam (Qak (i := 5) nd rfl (Or.inl rfl)) (Qam (Qak (i := 6) nd rfl (Or.inl rfl)) Qbx))))) (Qad (Qb7 (Qbl hr) (pv 1) (pv 4) (Qaj Qa1 (Qck (Qbl hr) (pv 1) (pv 4) Qac ⟨rfl, rfl, rfl, rfl⟩) (pv 5)) rfl)
  (Qag (Qal (i := 2) nd rfl (Or.inl rfl) (Qaj Qa1 (pv 2) (pv 6))))))
  (Qag (Qaq (Qng (Qe6 Qcl (pv 2) Qac (nomark _)) (Qne (Qav (Qmu hr) rfl z_all bt_all (Qaa (Qe5 [] rfl (LcOk.plain (by decide+kernel) (by decide+kernel) rfl (by decide+kernel) rfl) (Qar (Qby (Qeh rfl) rfl z_list Qcs (Qaa (Qjv PySem.F.plainAttrs_dict PySem.F.slot_dict_values PySem.F.type_dict_values Qj4 (pv 1)) Qaf))) (fun C s2 H2 fp xe => (Qe6 Qcl (pv 0) Qac (nomark _)))) Qaf))))))))), ?_⟩
 have hline : 10 ^ 6 ≤ sizeLine := by decide
 refine fun d hd => ?_
 have e1 := Qae (o := .dK []) hd
 refine ⟨_, rfl, l, rfl, ⟨_, SqL.of (e1 _ _ hl)⟩, ?_⟩
 refine Qaz (xs := rf4 F) (fun i σ H' => ∃ (o3 o4 o5 o6 : Option V), σ = [some (.ref l), some (.ref d), some (.int (sW ((F.take i).map (·.2)))), o3, o4, o5, o6] ∧ Same H H' ∧ H' d = some (.dK (kvG kS (pc ((F.take i).map (·.2)))))) ⟨_, _, _, _, rfl, e1, Qab⟩ ?_ ?_ ?_
 ·rintro i σ H1 hi ⟨o3, o4, o5, o6, rfl, e, _⟩
  exact SqL.of (e _ _ hl)
 ·rintro i x σ H1 hx ⟨o3, o4, o5, o6, rfl, e, hdd⟩
  obtain ⟨z, hzi, rfl⟩ := Qen hx
  have hzz := e _ _ (hF z (List.mem_of_getElem? hzi))
  have hkl := Qdd kS (pc ((F.take i).map (·.2)))
  have hpl : (pc ((F.take i).map (·.2))).length ≤ F.length := by
   unfold pc
   rw [List.length_map, List.length_map, List.length_take]
   omega
  refine ⟨z.1, _, rfl, SqT.of hzz, rfl, _, _, rfl, _, _, rfl, _, _, rfl, _, _, rfl, rfl, ?_⟩
  refine ⟨_, rfl, d, rfl, .inl ⟨_, .inl hdd⟩, _, rfl, _, DGet.k (k := kS z.2.1.2) hdd, _, rfl, _, _, Qd2 kS Qc3 _ _, rfl, _, rfl, _, rfl, d, _, rfl, DPut.k (k := kS z.2.1.2) hdd (by omega), ?_⟩
  have em : (F.take (i + 1)).map (·.2) = (F.take i).map (·.2) ++ [z.2] := by
   rw [Qa7 hzi, List.map_append]
   rfl
  refine ⟨_, rfl, _, rfl, _, _, rfl, rfl, ?_⟩
  rw [em, Qn8, Qog]
  refine ⟨_, _, _, _, rfl, Qat e hd, ?_⟩
  rw [Qab, Qfd kS Qc3]
 rintro σ H1 ⟨o3, o4, o5, o6, rfl, e, hdd⟩
 rw [Qb6, List.take_length] at hdd
 rw [Qb6, List.take_length, hw]
 refine ⟨_, rfl, rfl, true, rfl, iteT ?_⟩
 refine ⟨_, rfl, .inr (.inr (.inl ⟨rfl, .inl ⟨_, hdd⟩⟩)), d, _, rfl, rfl, hdd, fun v hv => ?_⟩
 have f1 := Qae (o := vvw v d) hv
 refine ⟨v, d, _, rfl, Qab, f1 _ _ hdd, fun vl hvl => ⟨vl, rfl, ⟨_, SqL.of Qab⟩, ?_⟩⟩
 have f2 := Qae (o := .lst ((kvG kS (pc (F.map (·.2)))).map (·.2))) hvl
 have hkl := Qdd kS (pc (F.map (·.2)))
 have hpl : (pc (F.map (·.2))).length = F.length := by
  unfold pc
  rw [List.length_map, List.length_map]
 have hxl : ((kvG kS (pc (F.map (·.2)))).map (·.2)).length ≤ 1000 := by
  rw [List.length_map]
  omega
 have hxz : ∀ x ∈ (kvG kS (pc (F.map (·.2)))).map (·.2), x = V.int 0 := fun x hx => by
  obtain ⟨kv, hkv, rfl⟩ := List.mem_map.mp hx
  unfold kvG at hkv
  obtain ⟨c, _, rfl⟩ := List.mem_map.mp hkv
  exact congrArg V.int (hz c)
 generalize (kvG kS (pc (F.map (·.2)))).map (·.2) = xs at f2 hxl hxz ⊢
 have hS2 : SqL K (upd (upd H1 v (vvw v d)) vl (.lst xs)) vl xs := SqL.of Qab
 generalize upd (upd H1 v (vvw v d)) vl (.lst xs) = H2 at f2 hS2 ⊢
 refine Qcm (xs := xs) (fun j ys H5 => ys = (List.replicate j true).map V.bl ∧ H5 = H2) ⟨rfl, rfl⟩ (by omega) ?_ ?_ ?_
 ·rintro j ys H5 hj ⟨rfl, rfl⟩
  exact ⟨hS2, by rw [List.length_map, List.length_replicate]⟩
 ·rintro j x ys H5 hx ⟨rfl, rfl⟩
  have hx0 := hxz x (List.mem_of_getElem? hx)
  subst hx0
  refine ⟨_, rfl, rfl, ?_, rfl⟩
  rw [List.replicate_succ', List.map_append]
  rfl
 rintro ys HX ⟨rfl, rfl⟩ k1 hk1
 refine ⟨k1, _, rfl, SqL.of Qab, ?_⟩
 have ea : (List.replicate xs.length true).all id = true := by
  rw [List.all_eq_true]
  intro b hb
  rw [(List.mem_replicate.mp hb).2]
  rfl
 rw [ea]
 exact q _ (((e.trans f1).trans f2).trans (Qae hk1))
theorem scao0 : FnScope ["_law_figures", "_law_other"] ["_law_figures", "_law_other"] (defScope sao0) := fsc
theorem okao0 (D : Def K mg "_law_due" sao0 .none) : Cal P w K mg base CX0 true 1 "_law_due" ["_law_figures", "_law_other"] [] spDu := by
 obtain ⟨f, fd, F, hm⟩ := D
 refine ⟨f, fd, _, F.ok scao0 (fun vs H Q E h => ?_) (fun cdv A outer s H vs Q E hr h => ?_), hm, F.kp, (F.b2), .nil, F.b2⟩
 ·obtain ⟨l, o, F, rfl, hl, hF, hlen, ho, q⟩ := h
  rfl
 obtain ⟨l, o, F, rfl, hl, hF, hlen, ho, q⟩ := h
 have nd := scao0.nd
 refine ⟨_, (Qag (Qaq (Qe4 [1] rfl (LcOk.free ["_law_other"] rfl rfl (List.forall_mem_cons.mpr ⟨rfl, (fun _ h => nomatch h)⟩) (by decide+kernel) rfl (by decide+kernel) rfl (by decide+kernel) (show (["_law_row", "_law_other"] : List Str).Nodup from by decide+kernel) (List.forall_mem_cons.mpr ⟨⟨_, rfl, rfl, rfl, by decide+kernel⟩, (fun _ h => nomatch h)⟩)) (Qar (pv 0)) (fun C s2 H2 fp xe => (Qap Qcl (Qax Qbk (pv 0) Qac (fun _ _ => rfl)) (Qaj Qdb Qbz (pv 1)) (nomark _))) (fun C s2 H2 fp xe => (Qay (Qaa (Qax Qbk (pv 0) Qac (fun _ _ => rfl)) (Qaa (Qax Qbk (pv 0) Qac (fun _ _ => rfl)) (Qaa (Qax Qbk (pv 0) Qac (fun _ _ => rfl)) Qaf)))))))), ?_⟩
 have hline : 10 ^ 6 ≤ sizeLine := by decide
 refine ⟨_, rfl, l, rfl, ⟨_, SqL.of hl⟩, ?_⟩
 refine Qc2 (xs := rf4 F) (fun j ys H5 => ∃ R : List R3, ys = rf3 R ∧ R.map (·.2) = duF o ((F.take j).map (·.2)) ∧ R3L H5 R ∧ Same H H5) ⟨[], rfl, rfl, (fun z hz => nomatch hz), Same.refl _⟩ (by rw [Qb6]; omega) ?_ ?_ ?_
 ·rintro j ys H5 hj ⟨R, rfl, hR, _, e⟩
  refine ⟨SqL.of (e _ _ hl), ?_⟩
  have a := congrArg List.length hR
  unfold duF at a
  rw [List.length_map, List.length_map] at a
  have b := List.length_filter_le (fun g : Pr => decide (g.1.1 = due o)) ((F.take j).map (·.2))
  rw [List.length_map, List.length_take] at b
  rw [Qcy]
  omega
 ·rintro j x ys H5 hx ⟨R, rfl, hR, hRt, e⟩
  obtain ⟨z, hz, rfl⟩ := Qen hx
  have hzz := e _ _ (hF z (List.mem_of_getElem? hz))
  have hT := SqT.of (K := K) hzz
  have em : (F.take (j + 1)).map (·.2) = (F.take j).map (·.2) ++ [z.2] := by
   rw [Qa7 hz, List.map_append]
   rfl
  refine ⟨_, rfl, .inr (.inl ⟨z.1, _, 0, _, rfl, rfl, hT, rfl, _, rfl, ".due.", o, rfl, rfl, due5 ho, rfl, _, rfl, ?_⟩)⟩
  refine dec2 (fun h => ?_) (fun h => ?_)
  ·have hd : z.2.1.1 = due o := V.str.inj h
   refine ⟨_, rfl, .inr (.inl ⟨z.1, _, 1, _, rfl, rfl, hT, rfl, _, rfl, .inr (.inl ⟨z.1, _, 2, _, rfl, rfl, hT, rfl, _, rfl, .inr (.inl ⟨z.1, _, 3, _, rfl, rfl, hT, rfl, (by show 3 ≤ sizeLine; decide), fun t ht => ?_⟩)⟩)⟩)⟩
   have f1 := Qae (o := tup3 (t, z.2.1.2, z.2.2)) ht
   refine ⟨R ++ [(t, z.2.1.2, z.2.2)], by rw [Qjn]; rfl, ?_, fun y hy => ?_, e.trans f1⟩
   ·rw [em]
    unfold duF at hR ⊢
    rw [List.filter_append, List.map_append, List.map_append, hR, List.filter_cons_of_pos (by simpa using hd)]
    rfl
   ·rcases List.mem_append.mp hy with w | w
    ·exact f1 _ _ (hRt y w)
    ·rw [List.mem_singleton.mp w]
     exact Qab
  ·refine ⟨R, rfl, ?_, hRt, e⟩
   have hd : ¬ z.2.1.1 = due o := fun w => h (congrArg V.str w)
   rw [em]
   unfold duF at hR ⊢
   rw [List.filter_append, List.map_append, hR, List.filter_cons_of_neg (by simpa using hd)]
   simp
 rintro ys H5 ⟨R, rfl, hR, hRt, e⟩ k1 hk1
 rw [Qb6, List.take_length] at hR
 have f1 := Qae (o := .lst (rf3 R)) hk1
 exact q k1 R _ (e.trans f1) Qab (hRt.same f1) hR
def ngt (t : Str × Int × Int) : Str × Int × Int := (t.1, -t.2.1, -t.2.2)
theorem eq3 {K : Q5} {H : Hp} {M N : List R3} (h1 : R3L H M) (h2 : R3L H N) (h : M.map (·.2) = N.map (·.2)) : EqLs K H (rf3 M) (rf3 N) := by
 refine ⟨by have := congrArg List.length h; rw [List.length_map, List.length_map] at this; rw [Qcy, Qcy]; exact this, fun j x y e1 e2 => ?_⟩
 obtain ⟨y1, m1, rfl⟩ := Qjm e1
 obtain ⟨y2, m2, rfl⟩ := Qjm e2
 have hy : y1.2 = y2.2 := by
  have h := congrArg (fun l => l[j]?) h
  simp only [List.getElem?_map, m1, m2] at h
  exact Option.some.inj h
 have t1 := h1 y1 (List.mem_of_getElem? m1)
 have t2 := h2 y2 (List.mem_of_getElem? m2)
 unfold tup3 at t1 t2
 rw [← hy] at t2
 refine .inr ⟨y1.1, y2.1, _, rfl, rfl, SqT.of t1, SqT.of t2, fun w hw => ?_⟩
 simp only [List.mem_cons, List.not_mem_nil, or_false] at hw
 rcases hw with rfl | rfl | rfl <;> rfl
def Told (H : Hp) (d : Addr) (fs : List Str) (A : Str → Addr) (G : Str → List Rw4) : Prop := ∃ kvs : List (Key × V), H d = some (.dK kvs) ∧ ∀ f ∈ fs, valV kvs (kS f) = some (.ref (A f)) ∧ H (A f) = some (.lst (rf4 (G f))) ∧ R4 H (G f) ∧ (G f).length ≤ 1000 ∧ f.length ≤ 8
theorem Told.same {H H' : Hp} {d : Addr} {fs : List Str} {A : Str → Addr} {G : Str → List Rw4} (h : Told H d fs A G) (e : Same H H') : Told H' d fs A G := by
 obtain ⟨kvs, h1, h2⟩ := h
 exact ⟨kvs, e _ _ h1, fun f hf => ⟨(h2 f hf).1, e _ _ (h2 f hf).2.1, fun z hz => e _ _ ((h2 f hf).2.2.1 z hz), (h2 f hf).2.2.2⟩⟩
theorem Qo7 (o : Str) (G : List Pr) : (duF o G).length ≤ G.length := by
 unfold duF
 rw [List.length_map]
 exact List.length_filter_le ..
def spMir : Sp := fun vs H Q _ => ∃ (d fl : Addr) (fs : List Str) (A : Str → Addr) (G : Str → List Rw4), vs = [.ref d, .ref fl] ∧ H fl = some (.lst (fs.map V.str)) ∧ Told H d fs A G ∧ (∀ f ∈ fs, ∀ o ∈ fs, duF o ((G f).map (·.2)) = (duF f ((G o).map (·.2))).map ngt) ∧ ∀ H', Same H H' → Q (.bl true) H'
theorem scaq0 : FnScope ["_law_told", "_law_firms", "_law_one", "_law_other", "_law_turned"] ["_law_told", "_law_firms"] (defScope saq0) := fsc
theorem okaq0 (D : Def K mg "_law_mirrored" saq0 .none) (cao0 : Cal P w K mg base CX0 true 1 "_law_due" ["_law_figures", "_law_other"] [] spDu) : Cal P w K mg base CX0 true 2 "_law_mirrored" ["_law_told", "_law_firms"] [] spMir := by
 obtain ⟨f, fd, F, hm⟩ := D
 obtain ⟨fao0, fdao0, dao0, Gao0, mao0, kao0, bao0, vao0, bao01⟩ := cao0
 refine ⟨f, fd, _, F.ok scaq0 (fun vs H Q E h => ?_) (fun cdv A outer s H vs Q E hr h => ?_), hm, F.kp, (F.b2), .nil, F.b2⟩
 ·obtain ⟨d, fl, fs, A, G, rfl, hfl, hT, hm, q⟩ := h
  rfl
 obtain ⟨d, fl, fs, A, G, rfl, hfl, hT, hm, q⟩ := h
 have nd := scaq0.nd
 refine ⟨_, (Qad (Qa8 PassesOwn.never rfl (Qar (pv 1)) (Qak (i := 2) nd rfl (Or.inl rfl)) (Qag (Qa8 PassesOwn.never rfl (Qar (pv 1)) (Qak (i := 3) nd rfl (Or.inl rfl)) (Qad (Qjr (xs := ["_law_coin", "_law_amount_here", "_law_part"]) [] (i := 4) nd rfl (Or.inl rfl) rfl (LcOkT.plain (xs := ["_law_coin", "_law_amount_here", "_law_part"]) (by decide+kernel) (by decide+kernel) rfl (by decide+kernel) (by decide+kernel) (by decide+kernel)) (Qar (Qan Gao0 (hr.mono (by decide)) rfl mao0 kao0 bao0 Paired.nil pass0 (Qaa (Qbp (Qbl hr) (pv 0) (pv 3) (fun _ _ => rfl)) (Qaa (pv 2) Qaf)))) (Qlz rfl (LcOkT.plain (xs := ["_law_coin", "_law_amount_here", "_law_part"]) (by decide+kernel) (by decide+kernel) rfl (by decide+kernel) (by decide+kernel) (by decide+kernel))) (fun C s2 H2 fp xe => (Qay (Qaa (pv 0) (Qaa (Qgx Qdq (pv 1)) (Qaa (Qgx Qdq (pv 2)) Qaf))))))
  (Qag (Qbq (Qap (op_neD hr) (Qan Gao0 (hr.mono (by decide)) rfl mao0 kao0 bao0 Paired.nil pass0 (Qaa (Qbp (Qbl hr) (pv 0) (pv 2) (fun _ _ => rfl)) (Qaa (pv 3) Qaf))) (pv 4) (nomark _)) (Qag (Qaq Qgz)) Qas))))))
  (Qag (Qaq Qgz))), ?_⟩
 have hline : 10 ^ 6 ≤ sizeLine := by decide
 refine ⟨_, rfl, fl, rfl, ⟨_, SqL.of hfl⟩, ?_⟩
 refine Qaz (xs := fs.map V.str) (fun i σ H' => ∃ (o2 o3 o4 : Option V), σ = [some (.ref d), some (.ref fl), o2, o3, o4] ∧ Same H H') ⟨_, _, _, rfl, Same.refl _⟩ ?_ ?_ ?_
 ·rintro i σ H1 hi ⟨o2, o3, o4, rfl, e⟩
  exact SqL.of (e _ _ hfl)
 ·rintro i x σ H1 hx ⟨o2, o3, o4, rfl, e⟩
  obtain ⟨f, hfi, rfl⟩ := Qce hx
  have hf := List.mem_of_getElem? hfi
  refine ⟨_, rfl, fl, rfl, ⟨_, SqL.of (e _ _ hfl)⟩, ?_⟩
  refine Qaz (xs := fs.map V.str) (fun i σ H' => ∃ (o3 o4 : Option V), σ = [some (.ref d), some (.ref fl), some (.str f), o3, o4] ∧ Same H H') ⟨_, _, rfl, e⟩ ?_ ?_ ?_
  ·rintro i σ H1 hi ⟨o3, o4, rfl, e⟩
   exact SqL.of (e _ _ hfl)
  ·rintro i x σ H1 hx ⟨o3, o4, rfl, e⟩
   obtain ⟨o, hoi, rfl⟩ := Qce hx
   have ho := List.mem_of_getElem? hoi
   obtain ⟨kvs, hd, hk⟩ := hT.same e
   obtain ⟨f1, f2, f3, f4, f5⟩ := hk f hf
   obtain ⟨o1, o2, o3', o4', o5⟩ := hk o ho
   refine ⟨_, rfl, _, rfl, d, _, rfl, (show DGet H1 d (.str o) (some (.ref (A o))) from o1 ▸ DGet.k (k := kS o) hd), _, rfl, A o, f, G o, rfl, o2, o3', o4', f5, fun p R H2 e2 hp hR hRv => ⟨p, rfl, ⟨_, SqL.of hp⟩, ?_⟩⟩
   have hRl : R.length ≤ 1000 := by
    have a := congrArg List.length hRv
    have b := Qo7 f ((G o).map (·.2))
    rw [List.length_map] at a b
    omega
   refine Qcm (xs := rf3 R) (fun j ys H5 => ∃ T : List R3, ys = rf3 T ∧ T.map (·.2) = (R.take j).map (fun z => ngt z.2) ∧ R3L H5 T ∧ Same H2 H5) ⟨[], rfl, rfl, (fun z hz => nomatch hz), Same.refl _⟩ (by rw [Qcy]; omega) ?_ ?_ ?_
   ·rintro j ys H5 hj ⟨T, rfl, hT', _, e3⟩
    have := congrArg List.length hT'
    rw [List.length_map, List.length_map, List.length_take] at this
    rw [Qcy] at hj
    exact ⟨SqL.of (e3 _ _ hp), by rw [Qcy]; omega⟩
   ·rintro j x ys H5 hx ⟨T, rfl, hTv, hTt, e3⟩ σ0 h0
    obtain ⟨z, hz, rfl⟩ := Qjm hx
    obtain ⟨u1, u2, u3, rfl⟩ : ∃ u1 u2 u3, σ0 = [u1, u2, u3] := by
     rcases σ0 with _ | ⟨u, _ | ⟨v, _ | ⟨w, _ | ⟨w2, r⟩⟩⟩⟩ <;> simp at h0
     exact ⟨u, v, w, rfl⟩
    have z1 := e3 _ _ (hR z (List.mem_of_getElem? hz))
    refine ⟨z.1, _, rfl, SqT.of z1, rfl, _, _, rfl, _, _, rfl, _, _, rfl, rfl, [_, _, _], rfl, rfl, ?_⟩
    refine ⟨_, rfl, _, rfl, _, rfl, _, rfl, _, rfl, (by show 3 ≤ sizeLine; decide), fun t ht => ?_⟩
    have g := Qae (o := tup3 (t, ngt z.2)) ht
    refine ⟨T ++ [(t, ngt z.2)], by rw [Qjn]; rfl, ?_, fun y hy => ?_, e3.trans g⟩
    ·rw [Qa7 hz, List.map_append, List.map_append, hTv]
     rfl
    ·rcases List.mem_append.mp hy with w | w
     ·exact g _ _ (hTt y w)
     ·rw [List.mem_singleton.mp w]
      exact Qab
   rintro ys H5 ⟨T, rfl, hTv, hTt, e3⟩ k1 hk1
   rw [Qcy, List.take_length] at hTv
   have g1 := Qae (o := .lst (rf3 T)) hk1
   obtain ⟨kvs', hd', hk'⟩ := hT.same (((e.trans e2).trans e3).trans g1)
   obtain ⟨a1, a2, a3, a4, a5⟩ := hk' f hf
   refine ⟨_, rfl, _, rfl, d, _, rfl, (show DGet _ d (.str f) (some (.ref (A f))) from a1 ▸ DGet.k (k := kS f) hd'), _, rfl, A f, o, G f, rfl, a2, a3, a4, o5, fun p2 R2 H6 e6 hp2 hR2 hRv2 => ?_⟩
   refine ⟨_, rfl, p2, k1, _, _, rfl, rfl, SqL.of hp2, SqL.of (e6 _ _ Qab), eq3 hR2 ((hTt.same g1).same e6) ?_, false, rfl, iteF ?_⟩
   ·rw [hRv2, hTv, hm f hf o ho, ← hRv, List.map_map]
    rfl
   exact ⟨_, _, rfl, (((e.trans e2).trans e3).trans g1).trans e6⟩
  rintro σ H2 ⟨o3, o4, rfl, e⟩
  exact ⟨_, _, _, rfl, e⟩
 rintro σ H2 ⟨o2, o3, o4, rfl, e⟩
 exact q _ e
theorem Qhs {X : Cx} {scope : Scope} {cl : List (Str × Addr)} {C : Addr} {s2 : Shared} {H2 : Hp} {fp : List Addr} {N' : List Str} {xe : Q3} : OpR (X.inC scope cl C s2 H2 fp N' xe) (binaryOp .Add) (rCatT X.K) := Qoj (X := X.inC scope cl C s2 H2 fp N' xe)
def isD (x : Str) : Bool := decide (Txt.slice x none (some 5) = (".due." : Str))
def nD (g : Pr) : Bool := !isD g.1.1
def tgP (G : Str → List Rw4) (fs : List Str) : List Pr := fs.flatMap fun f => ((G f).map (·.2)).filter nD
def spTg : Sp := fun vs H Q _ => ∃ (d fl : Addr) (fs : List Str) (A : Str → Addr) (G : Str → List Rw4), vs = [.ref d, .ref fl] ∧ H fl = some (.lst (fs.map V.str)) ∧ Told H d fs A G ∧ (∀ f ∈ fs, ∀ z ∈ G f, z.2.1.1.length ≤ 100) ∧ (tgP G fs).length ≤ 6000 ∧ (kys (tgP G fs)).length < 64 ∧
 ∀ (p : Addr) (Z : List Rw4) H', Same H H' → H' p = some (.lst (rf4 Z)) → R4 H' Z → Fig (tgP G fs) (Z.map (·.2)) → Q (.ref p) H'
theorem Qm3 {G : Str → List Rw4} {fs : List Str} {i : Nat} {f : Str} (h : fs[i]? = some f) : tgP G (fs.take (i + 1)) = tgP G (fs.take i) ++ ((G f).map (·.2)).filter nD := by
 unfold tgP
 rw [Qa7 h, List.flatMap_append]
 show _ ++ (_ ++ []) = _
 rw [List.append_nil]
theorem tgP_le (G : Str → List Rw4) (fs : List Str) (i : Nat) : (tgP G (fs.take i)).length ≤ (tgP G fs).length := by
 conv => rhs; rw [← List.take_append_drop i fs]
 unfold tgP
 rw [List.flatMap_append, List.length_append]
 omega
theorem scba0 : FnScope ["_law_told", "_law_firms", "_law_sums_here", "_law_firm", "_law_account", "_law_coin", "_law_amount_here", "_law_part", "_law_one"] ["_law_told", "_law_firms"] (defScope sba0) := fsc
theorem okba0 (D : Def K mg "_law_together" sba0 .none) (z_sorted : mg "sorted" = none) : Cal P w K mg base CX0 true 1 "_law_together" ["_law_told", "_law_firms"] [] spTg := by
 obtain ⟨f, fd, F, hm⟩ := D
 refine ⟨f, fd, _, F.ok scba0 (fun vs H Q E h => ?_) (fun cdv A outer s H vs Q E hr h => ?_), hm, F.kp, (F.b2), .nil, F.b2⟩
 ·obtain ⟨d, fl, fs, A, G, rfl, hfl, hT, hac, hpl, hk64, q⟩ := h
  rfl
 obtain ⟨d, fl, fs, A, G, rfl, hfl, hT, hac, hpl, hk64, q⟩ := h
 have nd := scba0.nd
 refine ⟨_, (Qad (Qal (i := 2) nd rfl (Or.inr rfl) Qdn)
  (Qad (Qa8 PassesOwn.never rfl (Qar (pv 1)) (Qak (i := 3) nd rfl (Or.inl rfl)) (Qag (Qa8 PassesOwn.never rfl (Qar (Qbp (Qbl hr) (pv 0) (pv 3) (fun _ _ => rfl))) (Qcc rfl (Qam (Qak (i := 4) nd rfl (Or.inl rfl)) (Qam (Qak (i := 5) nd rfl (Or.inl rfl)) (Qam (Qak (i := 6) nd rfl (Or.inl rfl)) (Qam (Qak (i := 7) nd rfl (Or.inl rfl)) Qbx))))) (Qag (Qbq (Qap Qee (Qb1 sl_str (pv 4) Qco (Qb3 Qac)) Qbz (nomark _)) (Qad (Qal (i := 8) nd rfl (Or.inl rfl) (Qck (Qbl hr) (pv 2) (Qay (Qaa (pv 4) (Qaa (pv 5) Qaf))) (Qay (Qaa Qac (Qaa Qac Qaf))) ⟨rfl, rfl, rfl, rfl⟩))
  (Qag (Qb7 (Qbl hr) (pv 2) (Qay (Qaa (pv 4) (Qaa (pv 5) Qaf))) (Qay (Qaa (Qaj Qa1 (Qax Qaw (pv 8) Qac (fun _ _ => rfl)) (pv 6)) (Qaa (Qaj Qa1 (Qax Qaw (pv 8) Qac (fun _ _ => rfl)) (pv 7)) Qaf))) rfl))) Qas)))))
  (Qag (Qaq (Qe4 [2] rfl (LcOk.free ["_law_sums_here"] rfl rfl (List.forall_mem_cons.mpr ⟨rfl, (fun _ h => nomatch h)⟩) (by decide+kernel) rfl (by decide+kernel) rfl (by decide+kernel) (show (["_law_place", "_law_sums_here"] : List Str).Nodup from by decide+kernel) (List.forall_mem_cons.mpr ⟨⟨_, rfl, rfl, rfl, by decide+kernel⟩, (fun _ h => nomatch h)⟩)) (Qar (Qav (Qdh rfl) rfl z_sorted Qgh (Qaa (pv 2) Qaf))) (fun C s2 H2 fp xe => (Qap (Qoi hr) (Qbp (Qbl hr) (pv 1) (pv 0) (fun _ _ => rfl)) (Qay (Qaa Qac (Qaa Qac Qaf))) (nomark _))) (fun C s2 H2 fp xe => (Qaj Qhs (pv 0) (Qbp (Qbl hr) (pv 1) (pv 0) (fun _ _ => rfl))))))))), ?_⟩
 have hline : 10 ^ 6 ≤ sizeLine := by decide
 refine fun ds hds => ?_
 have e1 := Qae (o := .dT []) hds
 refine ⟨_, rfl, fl, rfl, ⟨_, SqL.of (e1 _ _ hfl)⟩, ?_⟩
 refine Qaz (xs := fs.map V.str) (fun i σ H' => ∃ (o3 o4 o5 o6 o7 o8 : Option V) (B : Pl → Addr), σ = [some (.ref d), some (.ref fl), some (.ref ds), o3, o4, o5, o6, o7, o8] ∧ Same H H' ∧ Sums H' ds (tgP G (fs.take i)) B) ⟨_, _, _, _, _, _, fun _ => ds, rfl, e1, Qab, fun k hk => nomatch hk⟩ ?_ ?_ ?_
 ·rintro i σ H1 hi ⟨o3, o4, o5, o6, o7, o8, B, rfl, e, _⟩
  exact SqL.of (e _ _ hfl)
 ·rintro i x σ H1 hx ⟨o3, o4, o5, o6, o7, o8, B, rfl, e, S⟩
  obtain ⟨f, hfi, rfl⟩ := Qce hx
  have hf := List.mem_of_getElem? hfi
  have hpi := tgP_le G fs (i + 1)
  rw [Qm3 hfi, List.length_append] at hpi
  obtain ⟨kvs, hd, hk⟩ := hT.same e
  obtain ⟨f1, f2, f3, f4, f5⟩ := hk f hf
  refine ⟨_, rfl, _, rfl, d, _, rfl, (show DGet H1 d (.str f) (some (.ref (A f))) from f1 ▸ DGet.k (k := kS f) hd), A f, rfl, ⟨_, SqL.of f2⟩, ?_⟩
  refine Qaz (xs := rf4 (G f)) (fun j σ H' => ∃ (o4 o5 o6 o7 o8 : Option V) (B : Pl → Addr), σ = [some (.ref d), some (.ref fl), some (.ref ds), some (.str f), o4, o5, o6, o7, o8] ∧ Same H H' ∧ Sums H' ds (tgP G (fs.take i) ++ (((G f).take j).map (·.2)).filter nD) B) ⟨_, _, _, _, _, B, rfl, e, by simpa using S⟩ ?_ ?_ ?_
  ·rintro j σ H2 hj ⟨o4, o5, o6, o7, o8, B, rfl, e, _⟩
   obtain ⟨kvs, hd, hk⟩ := hT.same e
   exact SqL.of (hk f hf).2.1
  ·rintro j x σ H2 hx ⟨o4, o5, o6, o7, o8, B, rfl, e, S⟩
   obtain ⟨z, hz, rfl⟩ := Qen hx
   have hzm := List.mem_of_getElem? hz
   obtain ⟨kvs2, hd2, hk2⟩ := hT.same e
   have hzz := (hk2 f hf).2.2.1 z hzm
   have hza := hac f hf z hzm
   have em : (((G f).take (j + 1)).map (·.2)).filter nD = (((G f).take j).map (·.2)).filter nD ++ [z.2].filter nD := by
    rw [Qa7 hz, List.map_append, List.filter_append]
    rfl
   have hjl : ((((G f).take j).map (·.2)).filter nD).length ≤ (((G f).map (·.2)).filter nD).length := by
    conv => rhs; rw [← List.take_append_drop j (G f)]
    rw [List.map_append, List.filter_append, List.length_append]
    omega
   generalize hPP : tgP G (fs.take i) ++ (((G f).take j).map (·.2)).filter nD = P at S
   have hP6 : P.length ≤ 6000 := by
    rw [← hPP, List.length_append]
    omega
   have hkl := Qkd B P
   refine ⟨z.1, _, rfl, SqT.of hzz, rfl, _, _, rfl, _, _, rfl, _, _, rfl, _, _, rfl, rfl, ?_⟩
   refine ⟨_, rfl, _, rfl, z.2.1.1, rfl, (by omega), rfl, _, rfl, ?_⟩
   refine ndec2 (fun h => ?_) (fun h => ?_)
   ·have hn : nD z.2 = true := by
     unfold nD
     rw [show isD z.2.1.1 = false from decide_eq_false fun w => h (congrArg V.str w)]
     rfl
    have hadd : tgP G (fs.take i) ++ (((G f).take (j + 1)).map (·.2)).filter nD = P ++ [z.2] := by
     rw [em, List.filter_cons_of_pos hn, ← List.append_assoc, hPP]
     rfl
    refine ⟨_, rfl, ds, rfl, .inr ⟨_, .inl S.1⟩, _, rfl, _, rfl, (by show 2 ≤ sizeLine; decide), fun kp hkp => ⟨(by show 2 ≤ sizeLine; decide), fun zp hzp => ?_⟩⟩
    have f1 := Qae (o := .tup [.str z.2.1.1, .str z.2.1.2]) hkp
    have f2 := Qae (o := .tup [.int 0, .int 0]) hzp
    have S2 := S.same (f1.trans f2)
    obtain ⟨s, hs, hst⟩ := S2.get z.2.1 (z := zp) Qab
    refine ⟨_, DGet.t (k := kk z.2.1) S2.1 (f2 _ _ Qab), ?_⟩
    rw [hs]
    have hT2 := SqT.of (K := K) hst
    refine ⟨_, rfl, .inr (.inl ⟨s, _, 0, _, rfl, rfl, hT2, rfl, _, rfl, _, _, rfl, rfl, _, rfl, .inr (.inl ⟨s, _, 1, _, rfl, rfl, hT2, rfl, _, rfl, _, _, rfl, rfl, (by show 2 ≤ sizeLine; decide), fun np hnp => ?_⟩)⟩)⟩
    have f3 := Qae (o := .tup [.int (ta P z.2.1 + z.2.2.1), .int (tw P z.2.1 + z.2.2.2)]) hnp
    refine ⟨_, rfl, _, rfl, _, rfl, (by show 2 ≤ sizeLine; decide), fun kq hkq => ?_⟩
    have f4 := Qae (o := .tup [.str z.2.1.1, .str z.2.1.2]) hkq
    have S4 := S2.same (f3.trans f4)
    refine ⟨ds, _, rfl, DPut.t (k := kk z.2.1) S4.1 Qab (by omega), ?_⟩
    refine ⟨_, _, _, _, _, fun k => if k = z.2.1 then np else B k, rfl, Qat (e.trans ((f1.trans f2).trans (f3.trans f4))) hds, ?_⟩
    rw [hadd]
    exact S4.put (p := z.2) (f4 _ _ Qab)
   ·have hn : ¬ nD z.2 = true := by
     unfold nD
     rw [show isD z.2.1.1 = true from decide_eq_true (V.str.inj h)]
     decide
    refine ⟨_, _, _, _, _, B, rfl, e, ?_⟩
    rw [em, List.filter_cons_of_neg hn, ← List.append_assoc, hPP]
    simpa using S
  rintro σ H2 ⟨o4, o5, o6, o7, o8, B, rfl, e, S⟩
  rw [Qb6, List.take_length, ← Qm3 hfi] at S
  exact ⟨_, _, _, _, _, _, B, rfl, e, S⟩
 rintro σ H1 ⟨o3, o4, o5, o6, o7, o8, B, rfl, e, S⟩
 rw [List.length_map, List.take_length] at S
 have hkn := Qkc (tgP G fs)
 generalize tgP G fs = P at S hkn hk64 hpl q
 refine ⟨_, rfl, ds, _, kys P, rfl, S.1, Qh1 B P, by omega, fun sl T hsl perm pw ht => ⟨sl, rfl, ⟨_, SqL.of Qab⟩, ?_⟩⟩
 have g2 := Qae (o := .lst (T.map fun z => V.ref z.1)) hsl
 have hTl := perm.length_eq
 rw [List.length_map] at hTl
 have hTn : (T.map fun z => V.ref z.1).length = T.length := List.length_map ..
 refine Qc2 (xs := T.map fun z => V.ref z.1) (fun i ys H' => ∃ Z : List Rw4, ys = rf4 Z ∧ Same (upd H1 sl (.lst (T.map fun z => V.ref z.1))) H' ∧ R4 H' Z ∧ Z.map (·.2) = fg P ((T.map (·.2)).take i)) ⟨[], rfl, (fun _ _ h => h), (fun z hz => nomatch hz), rfl⟩ (by omega) ?_ ?_ ?_
 ·rintro i ys H2 hi ⟨Z, rfl, e2, _, hZg⟩
  refine ⟨SqL.of (e2 _ _ Qab), ?_⟩
  have := congrArg List.length hZg
  rw [List.length_map] at this
  unfold fg at this
  rw [List.length_map] at this
  have b := List.length_filter_le (nz P) ((T.map (·.2)).take i)
  rw [List.length_take, List.length_map] at b
  rw [Qb6]
  omega
 ·rintro i x ys H2 hx ⟨Z, rfl, e2, hZ, hZg⟩
  obtain ⟨z, hz, rfl⟩ := Qdy hx
  have hzm := List.mem_of_getElem? hz
  have hzz := e2 _ _ (g2 _ _ (ht z hzm))
  have hkz : z.2 ∈ kys P := perm.mem_iff.mp (List.mem_map_of_mem hzm)
  have S1 := S.same (g2.trans e2)
  refine ⟨_, rfl, _, rfl, ds, .ref (B z.2), rfl, Qfc hkz ▸ DGet.t (k := kk z.2) S1.1 hzz, ?_⟩
  refine ⟨(by show 2 ≤ sizeLine; decide), fun zp hzp => ?_⟩
  have f2 := Qae (o := .tup [.int 0, .int 0]) hzp
  have S2 := S1.same f2
  refine ⟨B z.2, zp, [ta P z.2, tw P z.2], [0, 0], rfl, rfl, SqT.of (S2.2 z.2 hkz), SqT.of Qab, _, rfl, ?_⟩
  have nx := fg_nx (P := P) (ks := T.map (·.2)) (i := i) (k := z.2) (by rw [List.getElem?_map, hz]; rfl)
  refine ndec2 (fun h => ?_) (fun h => ?_)
  ·have hnz : nz P z.2 = true := by
    unfold nz
    rw [decide_eq_false h]
    rfl
   rw [if_pos hnz] at nx
   refine ⟨_, rfl, _, rfl, _, rfl, ds, .ref (B z.2), rfl, Qfc hkz ▸ DGet.t (k := kk z.2) S2.1 (f2 _ _ hzz), ?_⟩
   refine ⟨z.1, B z.2, _, _, rfl, rfl, SqT.of (f2 _ _ hzz), SqT.of (S2.2 z.2 hkz), (fun h => nomatch h), (by show 4 ≤ sizeLine; decide), (fun h => nomatch h), fun _ np hnp => ?_⟩
   have f3 := Qae (o := tup4 (np, z.2, ta P z.2, tw P z.2)) hnp
   refine ⟨Z ++ [(np, z.2, ta P z.2, tw P z.2)], by rw [Qgu]; rfl, e2.trans (f2.trans f3), fun y hy => ?_, ?_⟩
   ·rcases List.mem_append.mp hy with w | w
    ·exact hZ.same (f2.trans f3) y w
    ·rw [List.mem_singleton.mp w]
     exact Qab
   ·rw [nx, List.map_append, hZg]
    rfl
  ·have hnz : ¬ nz P z.2 = true := by
    unfold nz
    rw [decide_eq_true h]
    decide
   rw [if_neg hnz] at nx
   exact ⟨Z, rfl, e2.trans f2, hZ.same f2, hZg.trans nx.symm⟩
 rintro ys H2 ⟨Z, rfl, e2, hZ, hZg⟩ rl hrl
 rw [hTn, ← List.map_take, List.take_length] at hZg
 have f := Qae (o := .lst (rf4 Z)) hrl
 exact q rl Z _ (((e.trans g2).trans e2).trans f) Qab (hZ.same f) ⟨_, perm, pw, hZg⟩
theorem Qcz {P gs : List Pr} (h : Fig P gs) : gs.length ≤ (kys P).length := by
 obtain ⟨ks, p, _, rfl⟩ := h
 unfold fg
 rw [List.length_map, ← p.length_eq]
 exact List.length_filter_le ..
def plM (E : List En) (m : Option Int) : List Pr := (upto (dl E) m).map (·.2.2)
structure Meet (fs : List Str) (P : Str → List Pr) (P0 : List Pr) : Prop where
 z : ∀ f ∈ fs, ∀ g, Fig (P f) g → (∀ c, N21.tot c (pc g) = 0) ∧ sW g = 0
 z0 : ∀ g, Fig P0 g → (∀ c, N21.tot c (pc g) = 0) ∧ sW g = 0
 mir : ∀ f ∈ fs, ∀ o ∈ fs, ∀ g h, Fig (P f) g → Fig (P o) h → duF o g = (duF f h).map ngt
 tg : ∀ G : Str → List Pr, (∀ f ∈ fs, Fig (P f) (G f)) → ((fs.flatMap fun f => (G f).filter nD).length ≤ 6000 ∧ (kys (fs.flatMap fun f => (G f).filter nD)).length < 64 ∧ ∀ gs g0, Fig (fs.flatMap fun f => (G f).filter nD) gs → Fig P0 g0 → gs = g0)
 ac : ∀ f ∈ fs, ∀ g, Fig (P f) g → ∀ x ∈ g, x.1.1.length ≤ 100
 k : ∀ f ∈ fs, (kys (P f)).length < 64
 k0 : (kys P0).length < 64
 sh : ∀ f ∈ fs, f.length ≤ 8
def BkE (C : Addr) (H : Hp) (p kl : Addr) (f : Str) (E : List En) : Prop := KB0 C H p kl f ∧ H kl = some (.lst (rfE E)) ∧ EnL H E ∧ E.length ≤ 8
theorem BkE.same {C : Addr} {H H' : Hp} {p kl : Addr} {f : Str} {E : List En} (h : BkE C H p kl f E) (e : Same H H') : BkE C H' p kl f E := ⟨h.1.same e, e _ _ h.2.1, h.2.2.1.same e, h.2.2.2⟩
def BkD (C : Addr) (H : Hp) (bd : Addr) (fs : List Str) (pB kB : Str → Addr) (E : Str → List En) : Prop := ∃ kvs : List (Key × V), H bd = some (.dK kvs) ∧ ∀ f ∈ fs, valV kvs (kS f) = some (.ref (pB f)) ∧ BkE C H (pB f) (kB f) f (E f)
theorem BkD.same {C : Addr} {H H' : Hp} {bd : Addr} {fs : List Str} {pB kB : Str → Addr} {E : Str → List En} (h : BkD C H bd fs pB kB E) (e : Same H H') : BkD C H' bd fs pB kB E := by
 obtain ⟨kvs, h1, h2⟩ := h
 exact ⟨kvs, e _ _ h1, fun f hf => ⟨(h2 f hf).1, (h2 f hf).2.same e⟩⟩
theorem eq4 {K : Q5} {H : Hp} {M N : List Rw4} (h1 : R4 H M) (h2 : R4 H N) (h : M.map (·.2) = N.map (·.2)) : EqLs K H (rf4 M) (rf4 N) := by
 refine ⟨by have := congrArg List.length h; rw [List.length_map, List.length_map] at this; rw [Qb6, Qb6]; exact this, fun j x y e1 e2 => ?_⟩
 obtain ⟨y1, m1, rfl⟩ := Qen e1
 obtain ⟨y2, m2, rfl⟩ := Qen e2
 have hy : y1.2 = y2.2 := by
  have h := congrArg (fun l => l[j]?) h
  simp only [List.getElem?_map, m1, m2] at h
  exact Option.some.inj h
 have t1 := h1 y1 (List.mem_of_getElem? m1)
 have t2 := h2 y2 (List.mem_of_getElem? m2)
 unfold tup4 at t1 t2
 rw [← hy] at t2
 refine .inr ⟨y1.1, y2.1, _, rfl, rfl, SqT.of t1, SqT.of t2, fun w hw => ?_⟩
 simp only [List.mem_cons, List.not_mem_nil, or_false] at hw
 rcases hw with rfl | rfl | rfl | rfl <;> rfl
def spMt (C : Addr) : Sp := fun vs H Q _ => ∃ (bd fl al ka : Addr) (m : Option Int) (fs : List Str) (pB kB : Str → Addr) (E : Str → List En) (E0 : List En), vs = [.ref bd, .ref fl, .ref al, mV m] ∧ H fl = some (.lst (fs.map V.str)) ∧ fs.length ≤ 6 ∧ BkD C H bd fs pB kB E ∧ BkE C H al ka "only" E0 ∧ Meet fs (fun f => plM (E f) m) (plM E0 m) ∧ ∀ H', Same H H' → Q (.bl true) H'
theorem scap0 : FnScope ["_law_books", "_law_firms", "_law_alone", "_law_upto", "_law_told", "_law_firm", "_law_one"] ["_law_books", "_law_firms", "_law_alone", "_law_upto"] (defScope sap0) := fsc
theorem okap0 (D : Def K mg "_law_meets" sap0 .none) {C_Book : Addr} (cab0 : CalM P w K mg base CX0 true 4 C_Book "figures" ["self", "upto"] [.non] (spFigures0 C_Book)) (cay0 : Cal P w K mg base CX0 true 1 "_law_sums" ["_law_figures"] [] spSm) (caq0 : Cal P w K mg base CX0 true 2 "_law_mirrored" ["_law_told", "_law_firms"] [] spMir) (cba0 : Cal P w K mg base CX0 true 1 "_law_together" ["_law_told", "_law_firms"] [] spTg) (z_isinstance : mg "isinstance" = none) (z_list : mg "list" = none) (cl_Book : Cls K C_Book) : Cal P w K mg base CX0 true 5 "_law_meets" ["_law_books", "_law_firms", "_law_alone", "_law_upto"] [] (spMt C_Book) := by
 obtain ⟨f, fd, F, hm⟩ := D
 obtain ⟨fab0, fdab0, dab0, Gab0, mab0, bab0, vab0, bab01⟩ := cab0
 obtain ⟨fay0, fday0, day0, Gay0, may0, kay0, bay0, vay0, bay01⟩ := cay0
 obtain ⟨faq0, fdaq0, daq0, Gaq0, maq0, kaq0, baq0, vaq0, baq01⟩ := caq0
 obtain ⟨fba0, fdba0, dba0, Gba0, mba0, kba0, bba0, vba0, bba01⟩ := cba0
 refine ⟨f, fd, _, F.ok scap0 (fun vs H Q E h => ?_) (fun cdv A outer s H vs Q E hr h => ?_), hm, F.kp, (F.b4), .nil, F.b4⟩
 ·obtain ⟨bd, fl, al, ka, m, fs, pB, kB, E, E0, rfl, hfl, hf6, hB, hA, hM, q⟩ := h
  rfl
 obtain ⟨bd, fl, al, ka, m, fs, pB, kB, E, E0, rfl, hfl, hf6, hB, hA, hM, q⟩ := h
 have nd := scap0.nd
 refine ⟨_, (Qad (Qal (i := 4) nd rfl (Or.inl rfl) Qcu)
  (Qad (Qa8 PassesOwn.never rfl (Qar (pv 1)) (Qak (i := 5) nd rfl (Or.inl rfl)) (Qad (Qb7 (Qbl hr) (pv 4) (pv 5) (Qhr (Qap Qjy (pv 3) Qeq (nomark _)) (Qhq (Qbp (Qbl hr) (pv 0) (pv 5) (fun _ _ => rfl)) cl_Book mab0 Gab0 (hr.mono (by decide)) bab01 vab0 pass0) (Qb8 (Qbp (Qbl hr) (pv 0) (pv 5) (fun _ _ => rfl)) cl_Book mab0 Gab0 (hr.mono (by decide)) bab0 Paired.nil pass0 (Qaa (pv 3) Qaf))) rfl)
  (Qag (Qbq (PW.pt (Qjp (Qfw (Qfv (Qav Qlc rfl z_isinstance Qc4 (Qaa (Qbp (Qbl hr) (pv 4) (pv 5) (fun _ _ => rfl)) (Qaa (Qjw (v := .ty "list") rfl z_list Qcs rfl) Qaf))))) (Qfu (Qfw (Qfv (Qan Gay0 (hr.mono (by decide)) rfl may0 kay0 bay0 Paired.nil pass0 (Qaa (Qbp (Qbl hr) (pv 4) (pv 5) (fun _ _ => rfl)) Qaf))))))) (Qag (Qaq Qgz)) Qas))))
  (Qad (Qal (i := 6) nd rfl (Or.inl rfl) (Qhr (Qap Qjy (pv 3) Qeq (nomark _)) (Qhq (pv 2) cl_Book mab0 Gab0 (hr.mono (by decide)) bab01 vab0 pass0) (Qb8 (pv 2) cl_Book mab0 Gab0 (hr.mono (by decide)) bab0 Paired.nil pass0 (Qaa (pv 3) Qaf))))
  (Qad (Qbq (PW.pt (Qjp (Qfw (Qfv (Qav Qlc rfl z_isinstance Qc4 (Qaa (pv 6) (Qaa (Qjw (v := .ty "list") rfl z_list Qcs rfl) Qaf))))) (Qfu (Qfw (Qfv (Qan Gay0 (hr.mono (by decide)) rfl may0 kay0 bay0 Paired.nil pass0 (Qaa (pv 6) Qaf))))))) (Qag (Qaq Qgz)) Qas)
  (Qag (Qaq (Qng (Qan Gaq0 (hr.mono (by decide)) rfl maq0 kaq0 baq0 Paired.nil pass0 (Qaa (pv 4) (Qaa (pv 1) Qaf))) (Qne (Qe6 (op_eqD hr) (Qan Gba0 (hr.mono (by decide)) rfl mba0 kba0 bba0 Paired.nil pass0 (Qaa (pv 4) (Qaa (pv 1) Qaf))) (pv 6) (nomark _)))))))))), ?_⟩
 have hline : 10 ^ 6 ≤ sizeLine := by decide
 cases m with
 | none =>
   refine fun d hd => ?_
   have e1 := Qae (o := .dK []) hd
   refine ⟨_, rfl, fl, rfl, ⟨_, SqL.of (e1 _ _ hfl)⟩, ?_⟩
   refine Qaz (xs := fs.map V.str) (fun i σ H' => ∃ (o5 : Option V) (A : Str → Addr) (G : Str → List Rw4) (kvs : List (Key × V)), σ = [some (.ref bd), some (.ref fl), some (.ref al), some .non, some (.ref d), o5, none] ∧ Same H H' ∧ H' d = some (.dK kvs) ∧ kvs.length ≤ i ∧ ∀ f ∈ fs.take i, valV kvs (kS f) = some (.ref (A f)) ∧ H' (A f) = some (.lst (rf4 (G f))) ∧ R4 H' (G f) ∧ Fig (plM (E f) none) ((G f).map (·.2))) ⟨_, fun _ => d, fun _ => [], [], rfl, e1, Qab, Nat.le_refl _, fun f hf => nomatch hf⟩ ?_ ?_ ?_
   ·rintro i σ H1 hi ⟨o5, A, G, kvs, rfl, e, _⟩
    exact SqL.of (e _ _ hfl)
   ·rintro i x σ H1 hx ⟨o5, A, G, kvs, rfl, e, hdd, hkl, hG⟩
    obtain ⟨f, hfi, rfl⟩ := Qce hx
    have hf := List.mem_of_getElem? hfi
    have hil : i < fs.length := (List.getElem?_eq_some_iff.mp hfi).1
    obtain ⟨kb, hbd, hb⟩ := hB.same e
    obtain ⟨b1, R, hk, hE, hEl⟩ := hb f hf
    obtain ⟨dx, fl', hp, hbk, hke, hno⟩ := R.ob
    refine ⟨_, rfl, rfl, _, rfl, decT rfl ?_⟩
    refine ⟨_, rfl, _, rfl, bd, _, rfl, (show DGet H1 bd (.str f) (some (.ref (pB f))) from b1 ▸ DGet.k (k := kS f) hbd), pB f, dx, fl', rfl, hp, hno _ (by decide+kernel), pB f, kB f, f, none, E f, rfl, R, hk, hE, hEl, hM.k f hf, fun r F H2 e2 hrn hr2 hF hFig => ?_⟩
    have hd2 := e2 _ _ hdd
    refine ⟨_, rfl, _, rfl, d, _, rfl, DPut.k (k := kS f) hd2 (by omega), ?_⟩
    have kpL : ∀ b l, H2 b = some (.lst l) → upd H2 d (.dK (putK kvs (kS f) (.ref r))) b = some (.lst l) := fun b l hb => by
     rw [Qah (fun w => by rw [w, hd2] at hb; cases hb)]
     exact hb
    have kpT : ∀ b l, H2 b = some (.tup l) → upd H2 d (.dK (putK kvs (kS f) (.ref r))) b = some (.tup l) := fun b l hb => by
     rw [Qah (fun w => by rw [w, hd2] at hb; cases hb)]
     exact hb
    have hlk : valV (putK kvs (kS f) (.ref r)) (kS f) = some (.ref r) := by rw [Qca, if_pos rfl]
    have hFl : F.length ≤ 1000 := by
     have a := Qcz hFig
     have b := hM.k f hf
     rw [List.length_map] at a
     unfold plM at b
     omega
    obtain ⟨hz1, hz2⟩ := hM.z f hf _ hFig
    have hF3 : R4 (upd H2 d (.dK (putK kvs (kS f) (.ref r)))) F := fun z hz => kpT _ _ (hF z hz)
    have hr3 := kpL _ _ hr2
    have hd3 : upd H2 d (.dK (putK kvs (kS f) (.ref r))) d = some (.dK (putK kvs (kS f) (.ref r))) := Qab
    have e3 : Same H (upd H2 d (.dK (putK kvs (kS f) (.ref r)))) := Qat (e.trans e2) hd
    have hG3 : ∀ g ∈ fs.take i, H2 (A g) = some (.lst (rf4 (G g))) ∧ R4 H2 (G g) := fun g hg => ⟨e2 _ _ (hG g hg).2.1, fun z hz => e2 _ _ ((hG g hg).2.2.1 z hz)⟩
    have hG4 : ∀ g ∈ fs.take i, upd H2 d (.dK (putK kvs (kS f) (.ref r))) (A g) = some (.lst (rf4 (G g))) ∧ R4 (upd H2 d (.dK (putK kvs (kS f) (.ref r)))) (G g) := fun g hg => ⟨kpL _ _ (hG3 g hg).1, fun z hz => kpT _ _ ((hG3 g hg).2 z hz)⟩
    generalize upd H2 d (.dK (putK kvs (kS f) (.ref r))) = H3 at hF3 hr3 hd3 e3 hG4 ⊢
    refine ⟨_, rfl, _, rfl, d, _, rfl, (show DGet H3 d (.str f) (some (.ref r)) from hlk ▸ DGet.k (k := kS f) hd3), _, _, _, _, _, rfl, .of (.lst hr3), rfl, rfl, true, rfl, iteF ?_⟩
    refine ⟨_, rfl, _, rfl, d, _, rfl, (show DGet H3 d (.str f) (some (.ref r)) from hlk ▸ DGet.k (k := kS f) hd3), r, F, rfl, hr3, hF3, hFl, hz1, hz2, fun H4 e4 => ⟨true, rfl, iteF ?_⟩⟩
    refine ⟨_, fun g => if g = f then r else A g, fun g => if g = f then F else G g, putK kvs (kS f) (.ref r), rfl, e3.trans e4, e4 _ _ hd3, ?_, fun g hg => ?_⟩
    ·have := Qbs kvs (kS f) (V.ref r)
     omega
    dsimp only
    by_cases hgf : g = f
    ·subst hgf
     rw [if_pos rfl, if_pos rfl]
     exact ⟨hlk, e4 _ _ hr3, fun z hz => e4 _ _ (hF3 z hz), hFig⟩
    ·rw [if_neg hgf, if_neg hgf]
     rw [Qa7 hfi] at hg
     rcases List.mem_append.mp hg with w | w
     ·refine ⟨?_, e4 _ _ (hG4 g w).1, fun z hz => e4 _ _ ((hG4 g w).2 z hz), (hG g w).2.2.2⟩
      rw [Qca, if_neg (fun w => hgf (Qc3 _ _ w))]
      exact (hG g w).1
     ·exact absurd (List.mem_singleton.mp w) hgf
   rintro σ H1 ⟨o5, A, G, kvs, rfl, e, hdd, hkl, hG⟩
   rw [List.length_map, List.take_length] at hG
   have hTo : Told H1 d fs A G := ⟨kvs, hdd, fun f hf => by
    obtain ⟨g1, g2, g3, g4⟩ := hG f hf
    refine ⟨g1, g2, g3, ?_, hM.sh f hf⟩
    have a := Qcz g4
    have b := hM.k f hf
    rw [List.length_map] at a
    omega⟩
   have hGF : ∀ f ∈ fs, Fig (plM (E f) none) ((G f).map (·.2)) := fun f hf => (hG f hf).2.2.2
   obtain ⟨R, hk, hE, hEl⟩ := hA.same e
   obtain ⟨dx, fl', hp, hbk, hke, hno⟩ := R.ob
   refine ⟨_, rfl, rfl, _, rfl, decT rfl ?_⟩
   refine ⟨_, rfl, al, dx, fl', rfl, hp, hno _ (by decide+kernel), al, ka, "only", none, E0, rfl, R, hk, hE, hEl, hM.k0, fun r F H2 e2 hrn hr2 hF hFig => ?_⟩
   have hFl : F.length ≤ 1000 := by
    have a := Qcz hFig
    have b := hM.k0
    rw [List.length_map] at a
    unfold plM at b
    omega
   obtain ⟨hz1, hz2⟩ := hM.z0 _ hFig
   refine ⟨_, rfl, _, _, _, _, _, rfl, .of (.lst hr2), rfl, rfl, true, rfl, iteF ?_⟩
   refine ⟨_, rfl, r, F, rfl, hr2, hF, hFl, hz1, hz2, fun H3 e3 => ⟨true, rfl, iteF ?_⟩⟩
   have e13 := e2.trans e3
   refine ⟨_, rfl, _, rfl, d, fl, fs, A, G, rfl, (e.trans e13) _ _ hfl, hTo.same e13, fun f hf o ho => hM.mir f hf o ho _ _ (hGF f hf) (hGF o ho), fun H4 e4 => ⟨true, rfl, iteT ?_⟩⟩
   obtain ⟨t1, t2, t3⟩ := hM.tg (fun f => (G f).map (·.2)) hGF
   refine ⟨_, rfl, _, rfl, d, fl, fs, A, G, rfl, (e.trans (e13.trans e4)) _ _ hfl, hTo.same (e13.trans e4), (fun f hf z hz => hM.ac f hf _ (hGF f hf) z.2 (List.mem_map_of_mem hz)), t1, t2, fun p Z H5 e5 hp5 hZ hZg => ?_⟩
   refine ⟨_, rfl, p, r, _, _, rfl, rfl, SqL.of hp5, SqL.of (e5 _ _ (e4 _ _ (e3 _ _ hr2))), eq4 hZ (fun z hz => e5 _ _ (e4 _ _ (e3 _ _ (hF z hz)))) (t3 _ _ hZg hFig), ?_⟩
   exact q _ (((e.trans e13).trans e4).trans e5)
 | some m =>
   refine fun d hd => ?_
   have e1 := Qae (o := .dK []) hd
   refine ⟨_, rfl, fl, rfl, ⟨_, SqL.of (e1 _ _ hfl)⟩, ?_⟩
   refine Qaz (xs := fs.map V.str) (fun i σ H' => ∃ (o5 : Option V) (A : Str → Addr) (G : Str → List Rw4) (kvs : List (Key × V)), σ = [some (.ref bd), some (.ref fl), some (.ref al), some (.int m), some (.ref d), o5, none] ∧ Same H H' ∧ H' d = some (.dK kvs) ∧ kvs.length ≤ i ∧ ∀ f ∈ fs.take i, valV kvs (kS f) = some (.ref (A f)) ∧ H' (A f) = some (.lst (rf4 (G f))) ∧ R4 H' (G f) ∧ Fig (plM (E f) (some m)) ((G f).map (·.2))) ⟨_, fun _ => d, fun _ => [], [], rfl, e1, Qab, Nat.le_refl _, fun f hf => nomatch hf⟩ ?_ ?_ ?_
   ·rintro i σ H1 hi ⟨o5, A, G, kvs, rfl, e, _⟩
    exact SqL.of (e _ _ hfl)
   ·rintro i x σ H1 hx ⟨o5, A, G, kvs, rfl, e, hdd, hkl, hG⟩
    obtain ⟨f, hfi, rfl⟩ := Qce hx
    have hf := List.mem_of_getElem? hfi
    have hil : i < fs.length := (List.getElem?_eq_some_iff.mp hfi).1
    obtain ⟨kb, hbd, hb⟩ := hB.same e
    obtain ⟨b1, R, hk, hE, hEl⟩ := hb f hf
    obtain ⟨dx, fl', hp, hbk, hke, hno⟩ := R.ob
    refine ⟨_, rfl, rfl, _, rfl, decF (fun h => by cases h) ?_⟩
    refine ⟨_, rfl, _, rfl, bd, _, rfl, (show DGet H1 bd (.str f) (some (.ref (pB f))) from b1 ▸ DGet.k (k := kS f) hbd), pB f, dx, fl', rfl, hp, hno _ (by decide+kernel), _, rfl, pB f, kB f, f, (some m), E f, rfl, R, hk, hE, hEl, hM.k f hf, fun r F H2 e2 hrn hr2 hF hFig => ?_⟩
    have hd2 := e2 _ _ hdd
    refine ⟨_, rfl, _, rfl, d, _, rfl, DPut.k (k := kS f) hd2 (by omega), ?_⟩
    have kpL : ∀ b l, H2 b = some (.lst l) → upd H2 d (.dK (putK kvs (kS f) (.ref r))) b = some (.lst l) := fun b l hb => by
     rw [Qah (fun w => by rw [w, hd2] at hb; cases hb)]
     exact hb
    have kpT : ∀ b l, H2 b = some (.tup l) → upd H2 d (.dK (putK kvs (kS f) (.ref r))) b = some (.tup l) := fun b l hb => by
     rw [Qah (fun w => by rw [w, hd2] at hb; cases hb)]
     exact hb
    have hlk : valV (putK kvs (kS f) (.ref r)) (kS f) = some (.ref r) := by rw [Qca, if_pos rfl]
    have hFl : F.length ≤ 1000 := by
     have a := Qcz hFig
     have b := hM.k f hf
     rw [List.length_map] at a
     unfold plM at b
     omega
    obtain ⟨hz1, hz2⟩ := hM.z f hf _ hFig
    have hF3 : R4 (upd H2 d (.dK (putK kvs (kS f) (.ref r)))) F := fun z hz => kpT _ _ (hF z hz)
    have hr3 := kpL _ _ hr2
    have hd3 : upd H2 d (.dK (putK kvs (kS f) (.ref r))) d = some (.dK (putK kvs (kS f) (.ref r))) := Qab
    have e3 : Same H (upd H2 d (.dK (putK kvs (kS f) (.ref r)))) := Qat (e.trans e2) hd
    have hG3 : ∀ g ∈ fs.take i, H2 (A g) = some (.lst (rf4 (G g))) ∧ R4 H2 (G g) := fun g hg => ⟨e2 _ _ (hG g hg).2.1, fun z hz => e2 _ _ ((hG g hg).2.2.1 z hz)⟩
    have hG4 : ∀ g ∈ fs.take i, upd H2 d (.dK (putK kvs (kS f) (.ref r))) (A g) = some (.lst (rf4 (G g))) ∧ R4 (upd H2 d (.dK (putK kvs (kS f) (.ref r)))) (G g) := fun g hg => ⟨kpL _ _ (hG3 g hg).1, fun z hz => kpT _ _ ((hG3 g hg).2 z hz)⟩
    generalize upd H2 d (.dK (putK kvs (kS f) (.ref r))) = H3 at hF3 hr3 hd3 e3 hG4 ⊢
    refine ⟨_, rfl, _, rfl, d, _, rfl, (show DGet H3 d (.str f) (some (.ref r)) from hlk ▸ DGet.k (k := kS f) hd3), _, _, _, _, _, rfl, .of (.lst hr3), rfl, rfl, true, rfl, iteF ?_⟩
    refine ⟨_, rfl, _, rfl, d, _, rfl, (show DGet H3 d (.str f) (some (.ref r)) from hlk ▸ DGet.k (k := kS f) hd3), r, F, rfl, hr3, hF3, hFl, hz1, hz2, fun H4 e4 => ⟨true, rfl, iteF ?_⟩⟩
    refine ⟨_, fun g => if g = f then r else A g, fun g => if g = f then F else G g, putK kvs (kS f) (.ref r), rfl, e3.trans e4, e4 _ _ hd3, ?_, fun g hg => ?_⟩
    ·have := Qbs kvs (kS f) (V.ref r)
     omega
    dsimp only
    by_cases hgf : g = f
    ·subst hgf
     rw [if_pos rfl, if_pos rfl]
     exact ⟨hlk, e4 _ _ hr3, fun z hz => e4 _ _ (hF3 z hz), hFig⟩
    ·rw [if_neg hgf, if_neg hgf]
     rw [Qa7 hfi] at hg
     rcases List.mem_append.mp hg with w | w
     ·refine ⟨?_, e4 _ _ (hG4 g w).1, fun z hz => e4 _ _ ((hG4 g w).2 z hz), (hG g w).2.2.2⟩
      rw [Qca, if_neg (fun w => hgf (Qc3 _ _ w))]
      exact (hG g w).1
     ·exact absurd (List.mem_singleton.mp w) hgf
   rintro σ H1 ⟨o5, A, G, kvs, rfl, e, hdd, hkl, hG⟩
   rw [List.length_map, List.take_length] at hG
   have hTo : Told H1 d fs A G := ⟨kvs, hdd, fun f hf => by
    obtain ⟨g1, g2, g3, g4⟩ := hG f hf
    refine ⟨g1, g2, g3, ?_, hM.sh f hf⟩
    have a := Qcz g4
    have b := hM.k f hf
    rw [List.length_map] at a
    omega⟩
   have hGF : ∀ f ∈ fs, Fig (plM (E f) (some m)) ((G f).map (·.2)) := fun f hf => (hG f hf).2.2.2
   obtain ⟨R, hk, hE, hEl⟩ := hA.same e
   obtain ⟨dx, fl', hp, hbk, hke, hno⟩ := R.ob
   refine ⟨_, rfl, rfl, _, rfl, decF (fun h => by cases h) ?_⟩
   refine ⟨_, rfl, al, dx, fl', rfl, hp, hno _ (by decide+kernel), _, rfl, al, ka, "only", (some m), E0, rfl, R, hk, hE, hEl, hM.k0, fun r F H2 e2 hrn hr2 hF hFig => ?_⟩
   have hFl : F.length ≤ 1000 := by
    have a := Qcz hFig
    have b := hM.k0
    rw [List.length_map] at a
    unfold plM at b
    omega
   obtain ⟨hz1, hz2⟩ := hM.z0 _ hFig
   refine ⟨_, rfl, _, _, _, _, _, rfl, .of (.lst hr2), rfl, rfl, true, rfl, iteF ?_⟩
   refine ⟨_, rfl, r, F, rfl, hr2, hF, hFl, hz1, hz2, fun H3 e3 => ⟨true, rfl, iteF ?_⟩⟩
   have e13 := e2.trans e3
   refine ⟨_, rfl, _, rfl, d, fl, fs, A, G, rfl, (e.trans e13) _ _ hfl, hTo.same e13, fun f hf o ho => hM.mir f hf o ho _ _ (hGF f hf) (hGF o ho), fun H4 e4 => ⟨true, rfl, iteT ?_⟩⟩
   obtain ⟨t1, t2, t3⟩ := hM.tg (fun f => (G f).map (·.2)) hGF
   refine ⟨_, rfl, _, rfl, d, fl, fs, A, G, rfl, (e.trans (e13.trans e4)) _ _ hfl, hTo.same (e13.trans e4), (fun f hf z hz => hM.ac f hf _ (hGF f hf) z.2 (List.mem_map_of_mem hz)), t1, t2, fun p Z H5 e5 hp5 hZ hZg => ?_⟩
   refine ⟨_, rfl, p, r, _, _, rfl, rfl, SqL.of hp5, SqL.of (e5 _ _ (e4 _ _ (e3 _ _ hr2))), eq4 hZ (fun z hz => e5 _ _ (e4 _ _ (e3 _ _ (hF z hz)))) (t3 _ _ hZg hFig), ?_⟩
   exact q _ (((e.trans e13).trans e4).trans e5)
theorem Qnq {P gs : List Pr} (h : Fig P gs) (p : Pl → Bool) (v : Int × Int → Int) (h0 : v (0, 0) = 0) (hv : ∀ k, v (ta P k, tw P k) = N25.sg (fun q => if q.1 = k then v q.2 else 0) P) : N25.sg (fun g => if p g.1 = true then v g.2 else 0) gs = N25.sg (fun g => if p g.1 = true then v g.2 else 0) P := by
 obtain ⟨ks, pm, _, rfl⟩ := h
 unfold fg
 rw [N25.Qa4, N25.Qb2]
 have e1 : ∀ k ∈ ks, (if nz P k = true then (if p k = true then v (ta P k, tw P k) else 0) else 0) = N25.sg (fun q => if q.1 = k then (if p q.1 = true then v q.2 else 0) else 0) P := fun k _ => by
  have e2 : N25.sg (fun q => if q.1 = k then (if p q.1 = true then v q.2 else 0) else 0) P = if p k = true then v (ta P k, tw P k) else 0 := by
   by_cases hp : p k = true
   ·rw [if_pos hp, hv]
    exact N25.Qa0 fun q _ => by
     by_cases hq : q.1 = k
     ·rw [if_pos hq, if_pos hq, hq, if_pos hp]
     ·rw [if_neg hq, if_neg hq]
   ·rw [if_neg hp]
    exact N25.Qbf fun q _ => by
     by_cases hq : q.1 = k
     ·rw [if_pos hq, hq, if_neg hp]
     ·rw [if_neg hq]
  rw [e2]
  by_cases hn : nz P k = true
  ·rw [if_pos hn]
  ·rw [if_neg hn]
   have hz : [ta P k, tw P k] = [0, 0] := by
    unfold nz at hn
    simpa using hn
   have ha : ta P k = 0 := (List.cons.inj hz).1
   have hw : tw P k = 0 := (List.cons.inj (List.cons.inj hz).2).1
   rw [ha, hw, h0]
   split <;> rfl
 rw [N25.Qa0 e1, N28.Qn6 _ pm]
 exact N24.Qle (fun q : Pr => q.1) (fun q => if p q.1 = true then v q.2 else 0) (N21.Qa9 _) P fun q hq => N21.Qa2.mpr (List.mem_map_of_mem hq)
theorem Qkt {P gs : List Pr} (h : Fig P gs) (p : Pl → Bool) : N25.sg (fun g => if p g.1 = true then g.2.1 else 0) gs = N25.sg (fun g => if p g.1 = true then g.2.1 else 0) P := Qnq h p (·.1) rfl fun k => Qed P k
theorem Qkr {P gs : List Pr} (h : Fig P gs) (p : Pl → Bool) : N25.sg (fun g => if p g.1 = true then g.2.2 else 0) gs = N25.sg (fun g => if p g.1 = true then g.2.2 else 0) P := Qnq h p (·.2) rfl fun k => Qec P k
theorem Qdr (c : Str) (G : List Pr) : N21.tot c (pc G) = N25.sg (fun g => if g.1.2 = c then g.2.1 else 0) G := by
 unfold pc
 rw [N25.Qfk, N25.Qa4]
theorem Qh7 {P gs : List Pr} (h : Fig P gs) (hc : ∀ c, N21.tot c (pc P) = 0) (hw : sW P = 0) : (∀ c, N21.tot c (pc gs) = 0) ∧ sW gs = 0 := by
 refine ⟨fun c => ?_, ?_⟩
 ·have a := Qkt h (fun k => decide (k.2 = c))
  simp only [decide_eq_true_eq] at a
  rw [Qdr, a, ← Qdr]
  exact hc c
 ·have a := Qkr h (fun _ => true)
  simp only [if_true] at a
  exact a.trans hw
theorem Qhw {l : List Str} (h : l.Pairwise (fun a b => ltS a b = true)) : l.Nodup := h.imp fun e => Qhx e
theorem Qop {xs ys : List Str} (h1 : xs.Pairwise (fun a b => ltS a b = true)) (h2 : ys.Pairwise (fun a b => ltS a b = true)) (m : ∀ x, x ∈ xs ↔ x ∈ ys) : xs = ys := Ql9 ((List.perm_ext_iff_of_nodup (Qhw h1) (Qhw h2)).mpr m) h1 h2
theorem Qkz {P gs : List Pr} (h : Fig P gs) (o : Str) : ∃ cs : List Str, cs.Pairwise (fun a b => ltS a b = true) ∧ (∀ c, c ∈ cs ↔ nz P (due o, c) = true) ∧ duF o gs = cs.map fun c => (c, ta P (due o, c), tw P (due o, c)) := by
 obtain ⟨ks, pm, pw, rfl⟩ := h
 refine ⟨((ks.filter (nz P)).filter fun k => decide (k.1 = due o)).map (·.2), ?_, fun c => ?_, ?_⟩
 ·rw [List.pairwise_map]
  have a := (pw.filter (nz P)).filter fun k => decide (k.1 = due o)
  refine List.Pairwise.imp_of_mem (fun {x y} hx hy hl => ?_) a
  have ex : x.1 = due o := of_decide_eq_true (List.mem_filter.mp hx).2
  have ey : y.1 = due o := of_decide_eq_true (List.mem_filter.mp hy).2
  unfold ltP at hl
  rw [if_pos (ex.trans ey.symm)] at hl
  exact hl
 ·constructor
  ·intro hc
   obtain ⟨k, hk, rfl⟩ := List.mem_map.mp hc
   obtain ⟨h1, h2⟩ := List.mem_filter.mp hk
   have e : k.1 = due o := of_decide_eq_true h2
   rw [← e]
   exact (List.mem_filter.mp h1).2
  ·intro hn
   refine List.mem_map.mpr ⟨(due o, c), List.mem_filter.mpr ⟨List.mem_filter.mpr ⟨?_, hn⟩, decide_eq_true rfl⟩, rfl⟩
   refine pm.mem_iff.mpr (Classical.byContradiction fun hk => ?_)
   obtain ⟨z1, z2⟩ := Qfm hk
   unfold nz at hn
   rw [z1, z2] at hn
   exact absurd hn (by decide)
 ·unfold duF fg
  rw [List.filter_map, List.map_map, List.map_map]
  refine List.map_congr_left fun k hk => ?_
  have e : k.1 = due o := of_decide_eq_true (List.mem_filter.mp hk).2
  show (k.2, ta P k, tw P k) = (k.2, ta P (due o, k.2), tw P (due o, k.2))
  rw [← e]
theorem du_mir {P Q g h : List Pr} {f o : Str} (h1 : Fig P g) (h2 : Fig Q h) (ea : ∀ c, ta P (due o, c) = -ta Q (due f, c)) (ew : ∀ c, tw P (due o, c) = -tw Q (due f, c)) : duF o g = (duF f h).map ngt := by
 obtain ⟨cs, p1, m1, e1⟩ := Qkz h1 o
 obtain ⟨ds, p2, m2, e2⟩ := Qkz h2 f
 have en : ∀ c, nz P (due o, c) = nz Q (due f, c) := fun c => by
  unfold nz
  rw [ea, ew]
  congr 1
  refine decide_eq_decide.mpr ?_
  constructor
  ·intro z
   have a := (List.cons.inj z).1
   have b := (List.cons.inj (List.cons.inj z).2).1
   rw [show ta Q (due f, c) = 0 by omega, show tw Q (due f, c) = 0 by omega]
  ·intro z
   have a := (List.cons.inj z).1
   have b := (List.cons.inj (List.cons.inj z).2).1
   rw [a, b]
   rfl
 have ec : cs = ds := Qop p1 p2 fun c => by rw [m1, m2, en]
 rw [e1, e2, ec, List.map_map]
 refine List.map_congr_left fun c _ => ?_
 show (c, ta P (due o, c), tw P (due o, c)) = (c, -ta Q (due f, c), -tw Q (due f, c))
 rw [ea, ew]
theorem Qks {P gs : List Pr} (h : Fig P gs) : ∀ g ∈ gs, g.1 ∈ P.map (·.1) := by
 obtain ⟨ks, pm, _, rfl⟩ := h
 intro g hg
 unfold fg at hg
 obtain ⟨k, hk, rfl⟩ := List.mem_map.mp hg
 exact N21.Qa2.mp (pm.mem_iff.mp (List.mem_filter.mp hk).1)
theorem Qka {α : Type} [DecidableEq α] : ∀ {A C : List α}, A.Nodup → (∀ a ∈ A, a ∈ C) → A.length ≤ C.length
 | [], _, _, _ => Nat.zero_le _
 | a :: A, C, n, h => by
   have n2 := List.nodup_cons.mp n
   have ih := Qka (A := A) (C := C.erase a) n2.2 fun b hb => by
    have hne : b ≠ a := fun e => n2.1 (by rw [← e]; exact hb)
    exact (List.mem_erase_of_ne hne).mpr (h b (List.mem_cons_of_mem _ hb))
   have hc := List.length_erase_of_mem (h a List.mem_cons_self)
   have hp := List.length_pos_of_mem (h a List.mem_cons_self)
   rw [List.length_cons]
   omega
theorem Qg3 {P : List Pr} {C : List Pl} (h : ∀ q ∈ P, q.1 ∈ C) : (kys P).length ≤ C.length :=
 Qka (N21.Qa9 _) fun k hk => by
  obtain ⟨q, hq, rfl⟩ := List.mem_map.mp (N21.Qa2.mp hk)
  exact h q hq
theorem Qel {α β : Type} (g : β → Int) (F : α → List β) : ∀ A : List α, N25.sg g (A.flatMap F) = N25.sg (fun a => N25.sg g (F a)) A
 | [] => rfl
 | a :: A => by
   rw [List.flatMap_cons, N25.Qbt, Qel g F A]
   rfl
theorem Qm2 {fs : List Str} {P G : Str → List Pr} (k : Pl) (v : Int × Int → Int) (tv : List Pr → Int) (hv : ∀ Q, tv Q = N25.sg (fun q => if q.1 = k then v q.2 else 0) Q) (hf : ∀ f ∈ fs, N25.sg (fun q => if q.1 = k then v q.2 else 0) (G f) = N25.sg (fun q => if q.1 = k then v q.2 else 0) (P f)) :
 tv (fs.flatMap fun f => (G f).filter nD) = if isD k.1 = true then 0 else N25.sg (fun f => tv (P f)) fs := by
 rw [hv, Qel]
 have e : ∀ f ∈ fs, N25.sg (fun q => if q.1 = k then v q.2 else 0) ((G f).filter nD) = if isD k.1 = true then 0 else tv (P f) := fun f hf' => by
  rw [N25.Qb2, hv, ← hf f hf']
  by_cases hd : isD k.1 = true
  ·rw [if_pos hd]
   refine N25.Qbf fun q _ => ?_
   by_cases hq : q.1 = k
   ·rw [if_neg (by unfold nD; rw [hq, hd]; decide)]
   ·rw [if_neg hq]
    split <;> rfl
  ·rw [if_neg hd]
   refine N25.Qa0 fun q _ => ?_
   by_cases hq : q.1 = k
   ·rw [if_pos (show nD q = true by unfold nD; rw [hq]; simpa using hd)]
   ·rw [if_neg hq]
    split <;> rfl
 rw [N25.Qa0 e]
 by_cases hd : isD k.1 = true
 ·simp only [if_pos hd]
  exact N25.Qbf fun _ _ => rfl
 ·simp only [if_neg hd]
structure Lns (fs : List Str) (P : Str → List Pr) (P0 : List Pr) (C : List Pl) : Prop where
 c : ∀ f ∈ fs, ∀ c, N21.tot c (pc (P f)) = 0
 w : ∀ f ∈ fs, sW (P f) = 0
 c0 : ∀ c, N21.tot c (pc P0) = 0
 w0 : sW P0 = 0
 ma : ∀ f ∈ fs, ∀ o ∈ fs, ∀ c, ta (P f) (due o, c) = -ta (P o) (due f, c)
 mw : ∀ f ∈ fs, ∀ o ∈ fs, ∀ c, tw (P f) (due o, c) = -tw (P o) (due f, c)
 sa : ∀ k : Pl, isD k.1 = false → N25.sg (fun f => ta (P f) k) fs = ta P0 k
 sw : ∀ k : Pl, isD k.1 = false → N25.sg (fun f => tw (P f) k) fs = tw P0 k
 da : ∀ k : Pl, isD k.1 = true → ta P0 k = 0 ∧ tw P0 k = 0
 key : ∀ f ∈ fs, ∀ q ∈ P f, q.1 ∈ C
 key0 : ∀ q ∈ P0, q.1 ∈ C
 n : C.length < 64
 ac : ∀ k ∈ C, k.1.length ≤ 100
 f6 : fs.length ≤ 6
 sh : ∀ f ∈ fs, f.length ≤ 8
theorem Lns.meet {fs : List Str} {P : Str → List Pr} {P0 : List Pr} {C : List Pl} (h : Lns fs P P0 C) : Meet fs P P0 := by
 have hk : ∀ f ∈ fs, (kys (P f)).length < 64 := fun f hf => Nat.lt_of_le_of_lt (Qg3 (h.key f hf)) h.n
 refine ⟨fun f hf g hg => Qh7 hg (h.c f hf) (h.w f hf), fun g hg => Qh7 hg h.c0 h.w0, fun f hf o ho g g' h1 h2 => du_mir h1 h2 (h.ma f hf o ho) (h.mw f hf o ho), fun G hG => ⟨?_, ?_, fun gs g0 h1 h2 => ?_⟩, fun f hf g hg x hx => ?_, hk, Nat.lt_of_le_of_lt (Qg3 h.key0) h.n, h.sh⟩
 ·have a : ∀ L : List Str, (∀ f ∈ L, f ∈ fs) → (L.flatMap fun f => (G f).filter nD).length ≤ 64 * L.length := by
   intro L
   induction L with
   | nil => intro _; exact Nat.le_refl _
   | cons f r ih =>
     intro hL
     have i := ih fun x hx => hL x (List.mem_cons_of_mem _ hx)
     have hf := hL f List.mem_cons_self
     have b := Qcz (hG f hf)
     have d := hk f hf
     have c := List.length_filter_le nD (G f)
     rw [List.flatMap_cons, List.length_append, List.length_cons]
     omega
  have b := a fs fun _ hf => hf
  have c := h.f6
  omega
 ·refine Nat.lt_of_le_of_lt (Qg3 fun q hq => ?_) h.n
  obtain ⟨f, hf, hq⟩ := List.mem_flatMap.mp hq
  obtain ⟨y, hy, e⟩ := List.mem_map.mp (Qks (hG f hf) q (List.mem_filter.mp hq).1)
  exact e ▸ h.key f hf y hy
 ·refine fig_eq h1 h2 (fun k => ?_) (fun k => ?_)
  ·rw [Qm2 (fs := fs) (P := P) (G := G) k (·.1) (fun Q => ta Q k) (fun Q => Qed Q k) fun f hf => by
    have a := Qkt (hG f hf) fun x => decide (x = k)
    simp only [decide_eq_true_eq] at a
    exact a]
   by_cases hd : isD k.1 = true
   ·rw [if_pos hd, (h.da k hd).1]
   ·rw [if_neg hd]
    exact h.sa k (by simpa using hd)
  ·rw [Qm2 (fs := fs) (P := P) (G := G) k (·.2) (fun Q => tw Q k) (fun Q => Qec Q k) fun f hf => by
    have a := Qkr (hG f hf) fun x => decide (x = k)
    simp only [decide_eq_true_eq] at a
    exact a]
   by_cases hd : isD k.1 = true
   ·rw [if_pos hd, (h.da k hd).2]
   ·rw [if_neg hd]
    exact h.sw k (by simpa using hd)
 ·obtain ⟨y, hy, e⟩ := List.mem_map.mp (Qks hg x hx)
  rw [← e]
  exact h.ac _ (h.key f hf y hy)
theorem Qfn (P Q : List Pr) (k : Pl) : ta (P ++ Q) k = ta P k + ta Q k := by
 rw [Qed, Qed, Qed, N25.Qbt]
theorem Qfj (P Q : List Pr) (k : Pl) : tw (P ++ Q) k = tw P k + tw Q k := by
 rw [Qec, Qec, Qec, N25.Qbt]
theorem Qnh (P Q : List Pr) (c : Str) : N21.tot c (pc (P ++ Q)) = N21.tot c (pc P) + N21.tot c (pc Q) := by
 rw [Qdr, Qdr, Qdr, N25.Qbt]
theorem Qm8 (P Q : List Pr) : sW (P ++ Q) = sW P + sW Q := N25.Qbt ..
theorem Lns.nil {fs : List Str} {C : List Pl} (n : C.length < 64) (ac : ∀ k ∈ C, k.1.length ≤ 100) (f6 : fs.length ≤ 6) (sh : ∀ f ∈ fs, f.length ≤ 8) : Lns fs (fun _ => []) [] C where
 c _ _ _ := rfl
 w _ _ := rfl
 c0 _ := rfl
 w0 := rfl
 ma _ _ _ _ _ := rfl
 mw _ _ _ _ _ := rfl
 sa _ _ := N25.Qbf fun _ _ => rfl
 sw _ _ := N25.Qbf fun _ _ => rfl
 da _ _ := ⟨rfl, rfl⟩
 key _ _ q hq := nomatch hq
 key0 q hq := nomatch hq
 n := n
 ac := ac
 f6 := f6
 sh := sh
theorem Lns.app {fs : List Str} {P Q : Str → List Pr} {P0 Q0 : List Pr} {C : List Pl} (h : Lns fs P P0 C) (g : Lns fs Q Q0 C) : Lns fs (fun f => P f ++ Q f) (P0 ++ Q0) C where
 c f hf c := by rw [Qnh, h.c f hf, g.c f hf]; rfl
 w f hf := by rw [Qm8, h.w f hf, g.w f hf]; rfl
 c0 c := by rw [Qnh, h.c0, g.c0]; rfl
 w0 := by rw [Qm8, h.w0, g.w0]; rfl
 ma f hf o ho c := by rw [Qfn, Qfn, h.ma f hf o ho, g.ma f hf o ho]; omega
 mw f hf o ho c := by rw [Qfj, Qfj, h.mw f hf o ho, g.mw f hf o ho]; omega
 sa k hk := by
  rw [Qfn, ← h.sa k hk, ← g.sa k hk, ← N28.Qdu]
  exact N25.Qa0 fun f _ => Qfn ..
 sw k hk := by
  rw [Qfj, ← h.sw k hk, ← g.sw k hk, ← N28.Qdu]
  exact N25.Qa0 fun f _ => Qfj ..
 da k hk := by
  rw [Qfn, Qfj, (h.da k hk).1, (h.da k hk).2, (g.da k hk).1, (g.da k hk).2]
  exact ⟨rfl, rfl⟩
 key f hf q hq := (List.mem_append.mp hq).elim (h.key f hf q) (g.key f hf q)
 key0 q hq := (List.mem_append.mp hq).elim (h.key0 q) (g.key0 q)
 n := h.n
 ac := h.ac
 f6 := h.f6
 sh := h.sh
theorem Lns.congr {fs : List Str} {P Q : Str → List Pr} {P0 : List Pr} {C : List Pl} (h : Lns fs P P0 C) (e : ∀ f ∈ fs, Q f = P f) : Lns fs Q P0 C where
 c f hf c := by rw [e f hf]; exact h.c f hf c
 w f hf := by rw [e f hf]; exact h.w f hf
 c0 := h.c0
 w0 := h.w0
 ma f hf o ho c := by rw [e f hf, e o ho]; exact h.ma f hf o ho c
 mw f hf o ho c := by rw [e f hf, e o ho]; exact h.mw f hf o ho c
 sa k hk := by
  rw [← h.sa k hk]
  exact N25.Qa0 fun f hf => by rw [e f hf]
 sw k hk := by
  rw [← h.sw k hk]
  exact N25.Qa0 fun f hf => by rw [e f hf]
 da := h.da
 key f hf q hq := h.key f hf q (by rw [← e f hf]; exact hq)
 key0 := h.key0
 n := h.n
 ac := h.ac
 f6 := h.f6
 sh := h.sh
abbrev Ent := Int × (Str → List Pr) × List Pr
def selF (R : List Ent) (m : Option Int) (f : Str) : List Pr := R.flatMap fun r => if okM m r.1 = true then r.2.1 f else []
def sel0 (R : List Ent) (m : Option Int) : List Pr := R.flatMap fun r => if okM m r.1 = true then r.2.2 else []
theorem Lns.sel {fs : List Str} {C : List Pl} (n : C.length < 64) (ac : ∀ k ∈ C, k.1.length ≤ 100) (f6 : fs.length ≤ 6) (sh : ∀ f ∈ fs, f.length ≤ 8) (m : Option Int) : ∀ R : List Ent, (∀ r ∈ R, Lns fs r.2.1 r.2.2 C) → Lns fs (selF R m) (sel0 R m) C
 | [], _ => Lns.nil n ac f6 sh
 | r :: R, h => by
   have ih := Lns.sel n ac f6 sh m R fun x hx => h x (List.mem_cons_of_mem _ hx)
   have hr := h r List.mem_cons_self
   unfold selF sel0
   simp only [List.flatMap_cons]
   by_cases ho : okM m r.1 = true
   ·simp only [if_pos ho]
    exact hr.app ih
   ·simp only [if_neg ho, List.nil_append]
    exact ih
theorem Qnc {E : List En} {X : List (Int × List Pr)} (m : Option Int) (h : (dl E).map (fun d => (d.1, d.2.map (·.2.2))) = X) : plM E m = X.flatMap fun x => if okM m x.1 = true then x.2 else [] := by
 subst h
 unfold plM upto
 rw [List.flatMap_map, List.map_flatMap]
 refine congrArg (fun g => List.flatMap g (dl E)) (funext fun d => ?_)
 by_cases ho : okM m d.1 = true
 ·simp only [if_pos ho]
 ·simp only [if_neg ho]
  rfl
theorem Ql7 {fs : List Str} {C : List Pl} {R : List Ent} {E : Str → List En} {E0 : List En} (n : C.length < 64) (ac : ∀ k ∈ C, k.1.length ≤ 100) (f6 : fs.length ≤ 6) (sh : ∀ f ∈ fs, f.length ≤ 8) (hR : ∀ r ∈ R, Lns fs r.2.1 r.2.2 C)
 (hE : ∀ f ∈ fs, (dl (E f)).map (fun d => (d.1, d.2.map (·.2.2))) = R.map fun r => (r.1, r.2.1 f)) (hE0 : (dl E0).map (fun d => (d.1, d.2.map (·.2.2))) = R.map fun r => (r.1, r.2.2)) (m : Option Int) : Meet fs (fun f => plM (E f) m) (plM E0 m) := by
 have h := Lns.sel n ac f6 sh m R hR
 have e0 : plM E0 m = sel0 R m := by
  rw [Qnc m hE0, List.flatMap_map]
  rfl
 rw [e0]
 refine (h.congr fun f hf => ?_).meet
 rw [Qnc m (hE f hf), List.flatMap_map]
 rfl
def entF (W : Str → Int → Int) (t : Str) (X : List (N22.Rv Str)) (f : Str) : List Pr := ((N25.lines W "*rounding" t X).filter fun z => decide (z.1 = f)).map (·.2)
theorem Qnr {W : Str → Int → Int} {t : Str} {V D : List (N22.Rv Str)} {fs : List Str} (nF : fs.Nodup) (hfs : ∀ z ∈ N25.lines W "*rounding" t (V ++ D), z.1 ∈ fs) (hD : ∀ v ∈ D, isD v.2.1 = true) {k : Pl} (hk : isD k.1 = false) (v : Int × Int → Int) :
 N25.sg (fun f => N25.sg (fun q => if q.1 = k then v q.2 else 0) (entF W t (V ++ D) f)) fs = N25.sg (fun z : N25.Lv Str => if z.2.1 = k then v z.2.2 else 0) (V.map (N25.lnv W) ++ N25.rnd ("*rounding" : Str) t (N25.fw W (V ++ D))) := by
 unfold entF
 simp only [N25.Qa4]
 rw [N28.Qpa (fun z : N25.Lv Str => z.1) (fun z => if z.2.1 = k then v z.2.2 else 0) nF _ hfs]
 unfold N25.lines
 rw [List.map_append, N25.Qbt, N25.Qbt, N25.Qbt]
 have z : N25.sg (fun z : N25.Lv Str => if z.2.1 = k then v z.2.2 else 0) (D.map (N25.lnv W)) = 0 := N25.Qbf fun z hz => by
  obtain ⟨y, hy, rfl⟩ := List.mem_map.mp hz
  refine if_neg fun e => ?_
  have a := hD y hy
  rw [← e] at hk
  exact Bool.false_ne_true (hk.symm.trans a)
 rw [z]
 omega
theorem ent_sa {W : Str → Int → Int} {t a : Str} {V D : List (N22.Rv Str)} {fs : List Str} (nF : fs.Nodup) (hfs : ∀ z ∈ N25.lines W "*rounding" t (V ++ D), z.1 ∈ fs) (hD : ∀ v ∈ D, isD v.2.1 = true) {k : Pl} (hk : isD k.1 = false) :
 N25.sg (fun f => ta (entF W t (V ++ D) f) k) fs = ta ((N25.lines W "*rounding" t (N25.only a V)).map (·.2)) k := by
 rw [Qed, N25.Qa4, ← N25.Qlp W "*rounding" t a V D k, ← Qnr nF hfs hD hk (·.1)]
 exact N25.Qa0 fun f _ => Qed ..
theorem ent_sw {W : Str → Int → Int} {t a : Str} {V D : List (N22.Rv Str)} {fs : List Str} (nF : fs.Nodup) (hfs : ∀ z ∈ N25.lines W "*rounding" t (V ++ D), z.1 ∈ fs) (hD : ∀ v ∈ D, isD v.2.1 = true) (hz : N25.sg (·.2.2.2) (D.map (N25.lnv W)) = 0) {k : Pl} (hk : isD k.1 = false) :
 N25.sg (fun f => tw (entF W t (V ++ D) f) k) fs = tw ((N25.lines W "*rounding" t (N25.only a V)).map (·.2)) k := by
 rw [Qec, N25.Qa4, ← N25.Qlo W "*rounding" t a V D hz k, ← Qnr nF hfs hD hk (·.2)]
 exact N25.Qa0 fun f _ => Qec ..
open Builtin Builtin.Str in
theorem Qoe (j n : Nat) : strSliceIndices none (some (j : Int)) 1 n = List.range (min j n) := by
 by_cases h : j ≤ n
 ·rw [Qnb j n h, Nat.min_eq_left h]
 ·have h2 := Qnb n n (Nat.le_refl _)
  rw [Nat.min_eq_right (by omega), ← h2]
  unfold strSliceIndices sliceRange
  simp only [show (1 : Int) > 0 by decide, if_true]
  rw [if_neg (show ¬ ((j : Int) < 0) by omega), if_neg (show ¬ ((n : Int) < 0) by omega), show min (j : Int) (n : Int) = n by omega, show min (n : Int) (n : Int) = n by omega]
theorem Qeo (z : Str) : ∀ k, k ≤ z.cps.size → (List.range k).filterMap (z.cps[·]?) = z.cps.toList.take k
 | 0, _ => rfl
 | k + 1, h => by
   rw [List.range_succ, List.filterMap_append, Qeo z k (by omega), List.take_succ]
   have h1 : z.cps[k]? = some z.cps[k] := Array.getElem?_eq_getElem (by omega)
   have h2 : z.cps.toList[k]? = some z.cps[k] := by rw [Array.getElem?_toList]; exact h1
   rw [h2]
   simp [h1]
theorem Qfq (z : Str) (j : Nat) : (Txt.slice z none (some (j : Int))).cps.toList = z.cps.toList.take j := by
 unfold Txt.slice
 rw [Qoe, List.length_range]
 have hz : z.length = z.cps.toList.length := by rw [Array.length_toList]; rfl
 by_cases e : min j z.length = z.length
 ·rw [if_pos (by simp [e])]
  rw [List.take_of_length_le (by omega)]
 ·rw [if_neg (by simp [e])]
  show (List.filterMap _ (List.range (min j z.length))).toArray.toList = _
  rw [Qeo z _ (by show min j z.length ≤ z.length; omega)]
  show z.cps.toList.take (min j z.length) = _
  rw [show min j z.length = j by omega]
theorem Qn3 {x y : Str} (h : x.cps.toList = y.cps.toList) : x = y := by
 obtain ⟨⟨a⟩⟩ := x
 obtain ⟨⟨b⟩⟩ := y
 have e : a = b := h
 rw [e]
theorem Qg4 (x : Str) : isD (due x) = true := by
 refine decide_eq_true (Qn3 ?_)
 have h := Qfq (due x) 5
 rw [show ((5 : Nat) : Int) = 5 from rfl] at h
 rw [h]
 unfold due
 rw [Qfg]
 rfl
theorem Qov {x : Str} (h : Let x) : isD x = false := by
 refine decide_eq_false fun e => ?_
 obtain ⟨⟨c, h1, h2⟩, _⟩ := h
 have h3 := Qfq x 5
 rw [show ((5 : Nat) : Int) = 5 from rfl, e] at h3
 cases hc : x.cps.toList with
 | nil => rw [hc] at h1; cases h1
 | cons a r =>
   rw [hc] at h1 h3
   cases h1
   have h4 : (".due." : Str).cps.toList = [46, 100, 117, 101, 46] := by decide+kernel
   rw [h4] at h3
   have h5 : (46 : Nat) = c := by
    have := congrArg List.head? h3
    simpa using this
   omega
theorem Qno : isD "*rounding" = false := by decide+kernel
theorem Qh8 {W : Str → Int → Int} {t : Str} {V D : List (N22.Rv Str)} (hV : ∀ v ∈ V, isD v.2.1 = false) (f o c : Str) (u : Int × Int → Int) :
 N25.sg (fun q => if q.1 = (due o, c) then u q.2 else 0) (entF W t (V ++ D) f) = N25.sg (fun y => if N22.pOw due f o c y = true then u (y.2.2.2, W y.2.2.1 y.2.2.2) else 0) D := by
 unfold entF N25.lines
 rw [N25.Qa4, N25.Qb2, List.map_append, N25.Qbt, N25.Qbt, N25.Qa4, N25.Qa4]
 have z1 : N25.sg (fun y : N22.Rv Str => if decide ((N25.lnv W y).1 = f) = true then (if (N25.lnv W y).2.1 = (due o, c) then u (N25.lnv W y).2.2 else 0) else 0) V = 0 := N25.Qbf fun y hy => by
  have a : ¬ (N25.lnv W y).2.1 = (due o, c) := fun e => by
   have b : y.2.1 = due o := congrArg Prod.fst e
   have d := hV y hy
   rw [b, Qg4] at d
   cases d
  rw [if_neg a]
  split <;> rfl
 have z2 : N25.sg (fun y : N25.Lv Str => if decide (y.1 = f) = true then (if y.2.1 = (due o, c) then u y.2.2 else 0) else 0) (N25.rnd ("*rounding" : Str) t (N25.fw W (V ++ D))) = 0 := N25.Qbf fun y hy => by
  have a : ¬ y.2.1 = (due o, c) := fun e => by
   rw [(N25.Qcx hy).1] at e
   have b : ("*rounding" : Str) = due o := congrArg Prod.fst e
   have d := Qno
   rw [b, Qg4] at d
   cases d
  rw [if_neg a]
  split <;> rfl
 rw [z1, z2, Int.zero_add, Int.add_zero]
 refine N25.Qa0 fun y _ => ?_
 unfold N22.pOw N25.lnv
 by_cases h1 : y.1 = f <;> by_cases h2 : y.2.1 = due o <;> by_cases h3 : y.2.2.1 = c <;> simp [h1, h2, h3]
theorem ent_ma {W : Str → Int → Int} {t : Str} {V : List (N22.Rv Str)} (hV : ∀ v ∈ V, isD v.2.1 = false) (hb : ∀ x y, due x = due y → x = y) (s : Str) (tt : Str → Str → Int) (T C : List Str) (f o c : Str) :
 ta (entF W t (V ++ N22.dues due s tt T C) f) (due o, c) = -ta (entF W t (V ++ N22.dues due s tt T C) o) (due f, c) := by
 have a := N28.swap (fun _ a => a) (fun _ _ => rfl) due hb s tt T C f o c
 unfold N28.gOw at a
 rw [Qed, Qed, Qh8 hV f o c (·.1), Qh8 hV o f c (·.1)]
 dsimp only at a ⊢
 omega
theorem ent_mw {W : Str → Int → Int} (odd : ∀ c a, W c (-a) = -W c a) {t : Str} {V : List (N22.Rv Str)} (hV : ∀ v ∈ V, isD v.2.1 = false) (hb : ∀ x y, due x = due y → x = y) (s : Str) (tt : Str → Str → Int) (T C : List Str) (f o c : Str) :
 tw (entF W t (V ++ N22.dues due s tt T C) f) (due o, c) = -tw (entF W t (V ++ N22.dues due s tt T C) o) (due f, c) := by
 have a := N28.swap W odd due hb s tt T C f o c
 unfold N28.gOw at a
 rw [Qec, Qec, Qh8 hV f o c (·.2), Qh8 hV o f c (·.2)]
 dsimp only at a ⊢
 omega
theorem Qok {W : Str → Int → Int} {t a : Str} {V : List (N22.Rv Str)} (hV : ∀ v ∈ V, isD v.2.1 = false) : ∀ z ∈ N25.lines W ("*rounding" : Str) t (N25.only a V), isD z.2.1.1 = false := by
 intro z hz
 unfold N25.lines N25.only at hz
 rcases List.mem_append.mp hz with h | h
 ·obtain ⟨y, hy, rfl⟩ := List.mem_map.mp h
  obtain ⟨v, hv, rfl⟩ := List.mem_map.mp hy
  exact hV v hv
 ·rw [(N25.Qcx h).1]
  exact Qno
theorem Lns.entry {W : Str → Int → Int} (odd : ∀ c a, W c (-a) = -W c a) {t a : Str} {V : List (N22.Rv Str)} {fs : List Str} {C : List Pl} (nF : fs.Nodup) (hV : ∀ v ∈ V, isD v.2.1 = false) (hb : ∀ x y, due x = due y → x = y) (s : Str) (tt : Str → Str → Int) (T Cc : List Str)
 (hD : ∀ v ∈ N22.dues due s tt T Cc, isD v.2.1 = true) (hfs : ∀ z ∈ N25.lines W "*rounding" t (V ++ N22.dues due s tt T Cc), z.1 ∈ fs) (ha : ∀ z ∈ N25.lines W "*rounding" t (N25.only a V), z.1 = a)
 (h0 : ∀ f c, N22.sumIf (N22.pFC f c) (V ++ N22.dues due s tt T Cc) = 0) (h1 : ∀ c, N22.sumIf (N22.pFC a c) (N25.only a V) = 0)
 (key : ∀ z ∈ N25.lines W "*rounding" t (V ++ N22.dues due s tt T Cc), z.2.1 ∈ C) (key0 : ∀ z ∈ N25.lines W "*rounding" t (N25.only a V), z.2.1 ∈ C)
 (n : C.length < 64) (ac : ∀ k ∈ C, k.1.length ≤ 100) (f6 : fs.length ≤ 6) (sh : ∀ f ∈ fs, f.length ≤ 8) : Lns fs (entF W t (V ++ N22.dues due s tt T Cc)) ((N25.lines W "*rounding" t (N25.only a V)).map (·.2)) C where
 c f _ c := by
   rw [Qdr]
   unfold entF
   rw [N25.Qa4]
   exact N25.Qh4 W "*rounding" t _ f c (h0 f c)
 w f _ := by
   unfold sW entF
   rw [N25.Qa4]
   exact N25.Qh3 W "*rounding" t _ f
 c0 c := by
  rw [Qdr, N25.Qa4]
  have x := N25.Qh4 W "*rounding" t _ a c (h1 c)
  rw [List.filter_eq_self.mpr fun z hz => decide_eq_true (ha z hz)] at x
  exact x
 w0 := by
  unfold sW
  rw [N25.Qa4]
  have x := N25.Qh3 W "*rounding" t (N25.only a V) a
  rw [List.filter_eq_self.mpr fun z hz => decide_eq_true (ha z hz)] at x
  exact x
 ma f _ o _ c := ent_ma hV hb s tt T Cc f o c
 mw f _ o _ c := ent_mw odd hV hb s tt T Cc f o c
 sa k hk := ent_sa nF hfs hD hk
 sw k hk := ent_sw nF hfs hD (N25.Qo4 W odd due s tt T Cc) hk
 da k hk := by
  have z : ∀ y ∈ N25.lines W "*rounding" t (N25.only a V), ¬ y.2.1 = k := fun y hy e => by
   have d := Qok hV y hy
   rw [e, hk] at d
   cases d
  rw [Qed, Qec, N25.Qa4, N25.Qa4]
  exact ⟨N25.Qbf fun y hy => if_neg (z y hy), N25.Qbf fun y hy => if_neg (z y hy)⟩
 key f _ q hq := by
  unfold entF at hq
  obtain ⟨z, hz, rfl⟩ := List.mem_map.mp hq
  exact key z (List.mem_filter.mp hz).1
 key0 q hq := by
  obtain ⟨z, hz, rfl⟩ := List.mem_map.mp hq
  exact key0 z hz
 n := n
 ac := ac
 f6 := f6
 sh := sh
theorem Qkw {L : List Sd} {b : Str} (h : ∀ z ∈ L, z.2.1 = b) (C : List Str) : dvs L C = [] := by
 have h1 := Qf1 (frm L) [b] (N21.Qa9 _) fun x hx => by
  obtain ⟨z, hz, e⟩ := Qde hx
  rw [← e, h z hz]
  exact List.mem_singleton.mpr rfl
 unfold dvs
 rw [List.drop_of_length_le (show (frm L).length ≤ 1 from h1)]
 rfl
theorem prs_eq {L L1 : List Sd} {b : Str} (h : L1.map (·.2) = L.map (fun z => (b, z.2.2))) : prs L1 = prs L := by
 unfold prs
 have h2 := congrArg (List.map fun v : Str × Str × Str × Int => (v.2.2.1, v.2.2.2)) h
 rw [List.map_map, List.map_map] at h2
 exact h2
theorem Qe0 {ro t : Str} {P : List (Str × Int)} {z : N25.Lv Str} (h : z ∈ N25.rnd ro t P) : z.1 ∈ P.map (·.1) := by
 unfold N25.rnd at h
 obtain ⟨p, hp, hz⟩ := List.mem_flatMap.mp h
 unfold N25.rone at hz
 split at hz
 ·rw [List.mem_singleton.mp hz]
  unfold N21.rs at hp
  obtain ⟨c, hc, rfl⟩ := List.mem_map.mp hp
  exact N21.Qa2.mp hc
 ·cases hz
theorem Qdc {W : Str → Int → Int} {t : Str} {V : List (N22.Rv Str)} {fs : List Str} (h : ∀ v ∈ V, v.1 ∈ fs) : ∀ z ∈ N25.lines W ("*rounding" : Str) t V, z.1 ∈ fs := by
 intro z hz
 unfold N25.lines at hz
 rcases List.mem_append.mp hz with w | w
 ·obtain ⟨v, hv, rfl⟩ := List.mem_map.mp w
  exact h v hv
 ·have a := Qe0 w
  unfold N25.fw at a
  rw [List.map_map] at a
  obtain ⟨v, hv, e⟩ := List.mem_map.mp a
  rw [← e]
  exact h v hv
theorem Qf5 {W : Str → Int → Int} {t : Str} {V : List (N22.Rv Str)} {C : List Pl} (h : ∀ v ∈ V, (v.2.1, v.2.2.1) ∈ C) (hr : (("*rounding" : Str), t) ∈ C) : ∀ z ∈ N25.lines W ("*rounding" : Str) t V, z.2.1 ∈ C := by
 intro z hz
 unfold N25.lines at hz
 rcases List.mem_append.mp hz with w | w
 ·obtain ⟨v, hv, rfl⟩ := List.mem_map.mp w
  exact h v hv
 ·rw [(N25.Qcx w).1]
  exact hr
theorem Qmk (A B : List Str) : (A.flatMap fun a => B.map fun c => (a, c)).length = A.length * B.length := by
 induction A with
 | nil => simp
 | cons a r ih =>
   rw [List.flatMap_cons, List.length_append, List.length_map, ih, List.length_cons, Nat.add_mul, Nat.one_mul]
   exact Nat.add_comm _ _
def plC (fs as cs : List Str) (t : Str) : List Pl := (as ++ ("*rounding" : Str) :: fs.map due).flatMap fun a => (t :: cs.take 3).map fun c => (a, c)
theorem Qju {fs as cs : List Str} {t : Str} (h1 : fs.length ≤ 6) (h2 : as.length = 3) : (plC fs as cs t).length < 64 := by
 unfold plC
 rw [Qmk, List.length_append, List.length_cons, List.length_map, List.length_cons, List.length_take]
 have a : min 3 cs.length + 1 ≤ 4 := by omega
 have b : as.length + (fs.length + 1) ≤ 10 := by omega
 exact Nat.lt_of_le_of_lt (Nat.mul_le_mul b a) (by decide)
theorem Qgw {fs as cs : List Str} {t a c : Str} (ha : a ∈ as ∨ a = "*rounding" ∨ ∃ f ∈ fs, a = due f) (hc : c = t ∨ c ∈ cs.take 3) : (a, c) ∈ plC fs as cs t := by
 unfold plC
 refine List.mem_flatMap.mpr ⟨a, ?_, List.mem_map.mpr ⟨c, ?_, rfl⟩⟩
 ·rcases ha with h | h | ⟨f, hf, h⟩
  ·exact List.mem_append_left _ h
  ·rw [h]
   exact List.mem_append_right _ List.mem_cons_self
  ·rw [h]
   exact List.mem_append_right _ (List.mem_cons_of_mem _ (List.mem_map_of_mem hf))
 ·rcases hc with h | h
  ·rw [h]
   exact List.mem_cons_self
  ·exact List.mem_cons_of_mem _ h
theorem Qo5 (f : Str) : (due f).length = 5 + f.length := by
 unfold due
 rw [Qgp]
 rfl
theorem Qnd {fs as cs : List Str} {t : Str} (h1 : ∀ x ∈ fs, Let x) (h2 : ∀ x ∈ as, Let x) : ∀ k ∈ plC fs as cs t, k.1.length ≤ 100 := by
 intro k hk
 unfold plC at hk
 obtain ⟨a, ha, hk⟩ := List.mem_flatMap.mp hk
 obtain ⟨c, _, rfl⟩ := List.mem_map.mp hk
 show a.length ≤ 100
 rcases List.mem_append.mp ha with w | w
 ·have := (h2 a w).2
  omega
 ·rcases List.mem_cons.mp w with w | w
  ·rw [w]
   decide+kernel
  ·obtain ⟨f, hf, rfl⟩ := List.mem_map.mp w
   have := (h1 f hf).2
   rw [Qo5]
   omega
theorem Qkx {L : List Sd} {v : N22.Rv Str} (h : v ∈ dvs L (cns L)) : v.1 ∈ frm L ∧ (∃ x ∈ frm L, v.2.1 = due x) ∧ ∃ z ∈ L, z.2.2.2.1 = v.2.2.1 := by
 obtain ⟨f, c, hf, hc, e⟩ := Qh9 h
 have hf2 := List.mem_of_mem_drop hf
 have hs : (frm L).headD "" ∈ frm L := by
  cases e : frm L with
  | nil =>
    rw [e] at hf2
    cases hf2
  | cons a r => exact List.mem_cons_self
 obtain ⟨z, hz, ez⟩ := Qk8 hc
 rcases e with rfl | rfl
 ·exact ⟨hf2, ⟨_, hs, rfl⟩, z, hz, ez⟩
 ·exact ⟨hs, ⟨_, hf2, rfl⟩, z, hz, ez⟩
def loneS (L : List Sd) : List Sd := L.map fun z => (z.1, "only", z.2.2)
theorem Qmb (L : List Sd) : prs (loneS L) = prs L := by
 unfold loneS prs
 rw [List.map_map]
 rfl
theorem Qma (L : List Sd) : vls (loneS L) = N25.only ("only" : Str) (vls L) := by
 unfold loneS vls N25.only
 rw [List.map_map, List.map_map]
 rfl
theorem Qmc (L : List Sd) (C : List Str) : dvs (loneS L) C = [] := Qkw (b := "only") (fun z hz => by
 obtain ⟨y, _, rfl⟩ := List.mem_map.mp hz
 rfl) C
theorem Qoa {fs as cs : List Str} {B : Nat} {H : Hp} {L : List Sd} {t : Str} {X Y : Str → Int} (nF : fs.Nodup) (f6 : fs.length ≤ 6) (fL : ∀ x ∈ fs, Let x) (aL : ∀ x ∈ as, Let x) (a3 : as.length = 3) (hL : Rows fs as cs B H L) (b1 : ∀ c, 1 ≤ Y c) (h0 : ∀ z ∈ L, N21.tot z.2.2.2.1 (prs L) = 0) :
 Lns fs (entF (wS X Y) t (vls L ++ dvs L (cns L))) ((N25.lines (wS X Y) ("*rounding" : Str) t (N25.only ("only" : Str) (vls L))).map (·.2)) (plC fs as cs t) := by
 have hro : (("*rounding" : Str), t) ∈ plC fs as cs t := Qgw (.inr (.inl rfl)) (.inl rfl)
 have hfm : ∀ x ∈ frm L, x ∈ fs := fun x hx => by
  obtain ⟨z, hz, e⟩ := Qde hx
  rw [← e]
  exact (hL z hz).2.1
 have hVk : ∀ v ∈ vls L, (v.2.1, v.2.2.1) ∈ plC fs as cs t := fun v hv => by
  obtain ⟨z, hz, rfl⟩ := List.mem_map.mp hv
  exact Qgw (.inl (hL z hz).2.2.1) (.inr (hL z hz).2.2.2.1)
 refine Lns.entry (wS_odd b1) nF (fun v hv => ?_) Qo6 ((frm L).headD "") (tf L) ((frm L).drop 1) (cns L) (fun v hv => ?_) (Qdc fun v hv => ?_) (fun z hz => ?_) (Qkv h0) (fun c => ?_) (Qf5 (fun v hv => ?_) hro) (Qf5 (fun v hv => ?_) hro) (Qju f6 a3) (Qnd fL aL) f6 (fun f hf => (fL f hf).2)
 ·obtain ⟨z, hz, rfl⟩ := List.mem_map.mp hv
  exact Qov (aL _ (hL z hz).2.2.1)
 ·obtain ⟨_, ⟨x, _, e⟩, _⟩ := Qkx (L := L) hv
  rw [e]
  exact Qg4 x
 ·rcases List.mem_append.mp hv with w | w
  ·obtain ⟨z, hz, rfl⟩ := List.mem_map.mp w
   exact (hL z hz).2.1
  ·exact hfm _ (Qkx (L := L) w).1
 ·have := Qdc (W := wS X Y) (t := t) (V := N25.only ("only" : Str) (vls L)) (fs := ["only"]) (fun v hv => by
   obtain ⟨u, _, rfl⟩ := List.mem_map.mp hv
   exact List.mem_cons_self) z hz
  exact List.mem_singleton.mp this
 ·have a := Qkv (L := loneS L) (fun z hz => by
   obtain ⟨y, hy, rfl⟩ := List.mem_map.mp hz
   rw [Qmb]
   exact h0 y hy) "only" c
  rw [Qmc, List.append_nil, Qma] at a
  exact a
 ·rcases List.mem_append.mp hv with w | w
  ·exact hVk v w
  ·obtain ⟨_, ⟨x, hx, e⟩, z, hz, ez⟩ := Qkx (L := L) w
   rw [e, ← ez]
   exact Qgw (.inr (.inr ⟨x, hfm x hx, rfl⟩)) (.inr (hL z hz).2.2.2.1)
 ·obtain ⟨u, hu, rfl⟩ := List.mem_map.mp hv
  exact hVk u hu
theorem Qjl (A B : List En) : rfE (A ++ B) = rfE A ++ rfE B := List.map_append ..
def xE (E : List En) : List (Int × List Pr) := (dl E).map fun d => (d.1, d.2.map (·.2.2))
theorem Qmz (E : List En) (e : En) : xE (E ++ [e]) = xE E ++ [(e.2.1, e.2.2.2.2.map (·.2.2))] := by
 unfold xE dl
 rw [List.map_append, List.map_append]
 rfl
theorem Qhc (E : List En) : (xE E).length = E.length := by
 unfold xE dl
 rw [List.length_map, List.length_map]
theorem KB0.kp {C : Addr} {H H' : Hp} {p k x : Addr} {f : Str} {es : List V} (h : KB0 C H p k f) (hx : H x = some (.lst es)) (kp : ∀ b o, H b = some o → b ≠ x → H' b = some o) : KB0 C H' p k f := by
 obtain ⟨dx, gs, hp, r⟩ := h.ob
 exact ⟨dx, gs, kp _ _ hp (Qbd hp hx (by intro w; cases w)), r⟩
theorem R5.kp {H H' : Hp} {x : Addr} {es : List V} {M : List Ln} (h : R5 H M) (hx : H x = some (.lst es)) (kp : ∀ b o, H b = some o → b ≠ x → H' b = some o) : R5 H' M := fun z hz => by
 have a := h z hz
 unfold tup5 at a ⊢
 exact kp _ _ a (Qbd a hx (by intro w; cases w))
theorem EnL.kp {H H' : Hp} {x : Addr} {es : List V} {E : List En} (h : EnL H E) (hx : H x = some (.lst es)) (kp : ∀ b o, H b = some o → b ≠ x → H' b = some o) : EnL H' E := fun z hz =>
 ⟨kp _ _ (h z hz).1 (Qbd (h z hz).1 hx (by intro w; cases w)), kp _ _ (h z hz).2.1 (Qbd (h z hz).2.1 hx (by intro w; cases w)), (h z hz).2.2.1.kp hx kp, (h z hz).2.2.2⟩
structure Bkz (C : Addr) (H0 H : Hp) (bd : Addr) (fs : List Str) (al ka : Addr) (pB kB : Str → Addr) (E : Str → List En) (E0 : List En) : Prop where
 s : Same H0 H
 d : ∃ kvs : List (Key × V), H bd = some (.dK kvs) ∧ ∀ f ∈ fs, valV kvs (kS f) = some (.ref (pB f))
 b : ∀ f ∈ fs, KB0 C H (pB f) (kB f) f
 k : ∀ f ∈ fs, H (kB f) = some (.lst (rfE (E f)))
 e : ∀ f ∈ fs, EnL H (E f)
 a : KB0 C H al ka "only"
 ak : H ka = some (.lst (rfE E0))
 ae : EnL H E0
 inj : ∀ f ∈ fs, ∀ g ∈ fs, kB f = kB g → f = g
 na : ∀ f ∈ fs, kB f ≠ ka
 f0 : ∀ f ∈ fs, H0 (kB f) = none
 a0 : H0 ka = none
theorem Bkz.same {C : Addr} {H0 H H' : Hp} {bd : Addr} {fs : List Str} {al ka : Addr} {pB kB : Str → Addr} {E : Str → List En} {E0 : List En} (B : Bkz C H0 H bd fs al ka pB kB E E0) (e : Same H H') : Bkz C H0 H' bd fs al ka pB kB E E0 := by
 obtain ⟨kvs, h1, h2⟩ := B.d
 exact ⟨B.s.trans e, ⟨kvs, e _ _ h1, h2⟩, fun f hf => (B.b f hf).same e, fun f hf => e _ _ (B.k f hf), fun f hf => (B.e f hf).same e, B.a.same e, e _ _ B.ak, B.ae.same e, B.inj, B.na, B.f0, B.a0⟩
theorem Bkz.post {C : Addr} {H0 H H' : Hp} {bd : Addr} {fs : List Str} {al ka : Addr} {pB kB : Str → Addr} {E : Str → List En} {E0 : List En} (B : Bkz C H0 H bd fs al ka pB kB E E0) {f : Str} (hf : f ∈ fs) {d ab : Int} {e t : Addr} {L : List Ln} (kp : ∀ b o, H b = some o → b ≠ kB f → H' b = some o) (hk : H' (kB f) = some (.lst (rfE (E f) ++ [.ref e]))) (he : H' e = some (.tup [.int d, .int ab, .ref t])) (ht : H' t = some (.tup (rf5 L))) (hL : R5 H L) (hn : L.length ≤ 21000) :
 Bkz C H0 H' bd fs al ka pB kB (fun g => if g = f then E f ++ [(e, d, ab, t, L)] else E g) E0 := by
 have hkf := B.k f hf
 obtain ⟨kvs, h1, h2⟩ := B.d
 refine ⟨fun b o h => kp b o (B.s b o h) (Qai h (B.f0 f hf)), ⟨kvs, kp _ _ h1 (Qbd h1 hkf (by intro w; cases w)), h2⟩, fun g hg => (B.b g hg).kp hkf kp, fun g hg => ?_, fun g hg => ?_, B.a.kp hkf kp, kp _ _ B.ak (Ne.symm (B.na f hf)), B.ae.kp hkf kp, B.inj, B.na, B.f0, B.a0⟩
 ·by_cases z : g = f
  ·subst z
   rw [if_pos rfl, Qjl]
   exact hk
  ·rw [if_neg z]
   exact kp _ _ (B.k g hg) fun w => z (B.inj g hg f hf w)
 ·by_cases z : g = f
  ·subst z
   rw [if_pos rfl]
   intro y hy
   rcases List.mem_append.mp hy with w | w
   ·exact (B.e g hg).kp hkf kp y w
   ·rw [List.mem_singleton.mp w]
    exact ⟨he, ht, hL.kp hkf kp, hn⟩
  ·rw [if_neg z]
   exact (B.e g hg).kp hkf kp
theorem Bkz.lone {C : Addr} {H0 H H' : Hp} {bd : Addr} {fs : List Str} {al ka : Addr} {pB kB : Str → Addr} {E : Str → List En} {E0 : List En} (B : Bkz C H0 H bd fs al ka pB kB E E0) {d ab : Int} {e t : Addr} {L : List Ln} (kp : ∀ b o, H b = some o → b ≠ ka → H' b = some o) (hk : H' ka = some (.lst (rfE E0 ++ [.ref e]))) (he : H' e = some (.tup [.int d, .int ab, .ref t])) (ht : H' t = some (.tup (rf5 L))) (hL : R5 H L) (hn : L.length ≤ 21000) :
 Bkz C H0 H' bd fs al ka pB kB E (E0 ++ [(e, d, ab, t, L)]) := by
 obtain ⟨kvs, h1, h2⟩ := B.d
 refine ⟨fun b o h => kp b o (B.s b o h) (Qai h B.a0), ⟨kvs, kp _ _ h1 (Qbd h1 B.ak (by intro w; cases w)), h2⟩, fun g hg => (B.b g hg).kp B.ak kp, fun g hg => kp _ _ (B.k g hg) (B.na g hg), fun g hg => (B.e g hg).kp B.ak kp, B.a.kp B.ak kp, ?_, ?_, B.inj, B.na, B.f0, B.a0⟩
 ·rw [Qjl]
  exact hk
 ·intro y hy
  rcases List.mem_append.mp hy with w | w
  ·exact B.ae.kp B.ak kp y w
  ·rw [List.mem_singleton.mp w]
   exact ⟨he, ht, hL.kp B.ak kp, hn⟩
theorem Qko {f : Str} {M : List Ln} (hf : ∀ z ∈ M, z.2.1 = f) (hc : ∀ c, N21.tot c (pc (M.map (·.2.2))) = 0) (hw : sW (M.map (·.2.2)) = 0) (hn : M.length ≤ 21000) : Good f M := by
 refine ⟨hf, fun k => ?_, ?_, hn⟩
 ·have h := hc k
  unfold pc at h
  rw [List.map_map] at h
  exact h
 ·have a : ∀ N : List Ln, (wrs N).sum = sW (N.map (·.2.2)) := by
   intro N
   induction N with
   | nil => rfl
   | cons z r ih =>
     show (z.2.2.2.2 :: wrs r).sum = z.2.2.2.2 + sW (r.map (·.2.2))
     rw [List.sum_cons, ih]
  rw [a]
  exact hw
theorem Qo2 {W : Str → Int → Int} {t : Str} {X : List (N22.Rv Str)} {M : List Ln} (h : M.map (·.2) = N25.lines W "*rounding" t X) (f : Str) : (M.filter fun y => decide (y.2.1 = f)).map (·.2.2) = entF W t X f := by
 unfold entF
 rw [← h, List.filter_map, List.map_map]
 rfl
theorem R5.fil {H : Hp} {M : List Ln} (h : R5 H M) (p : Ln → Bool) : R5 H (M.filter p) := fun z hz => h z (List.mem_filter.mp hz).1
theorem map2 (N : List Ln) : N.map (·.2.2) = (N.map (·.2)).map (·.2) := by
 rw [List.map_map]
 rfl
theorem Qmd : Let ("only" : Str) := ⟨⟨_, rfl, by decide⟩, by decide⟩
theorem scbk0 : FnScope ["_law_script", "_law_cell", "_law_firms", "_law_accounts", "_law_coins_here", "_law_told", "_law_rates_here", "_law_rows_here", "_law_books", "_law_firm", "_law_alone", "_law_months", "_law_k", "_law_upto", "_law_day", "_law_lines"] ["_law_script"] (defScope sbk0) := fsc
theorem okbk0 {f : Addr} {fd : FuncData} (F : FunD K "law" "law" sbk0 f fd .none) {C_Book : Addr} (cal0 : Cal P w K mg base CX0 true 1 "_law_cell_at" ["_law_script", "_law_k"] [] (spCell K)) (cas0 : Cal P w K mg base CX0 true 2 "_law_names" ["_law_cell", "_law_many"] [] spNames) (car0 : Cal P w K mg base CX0 true 1 "_law_mix" ["_law_cell", "_law_by"] [] spMix) (can0 : Cal P w K mg base CX0 true 3 "_law_coins" ["_law_cell"] [] spCoins) (cbb0 : Cal P w K mg base CX0 true 1 "_law_told_coin" ["_law_cell", "_law_coins_here"] [] spTc) (cav0 : Cal P w K mg base CX0 true 4 "_law_rates_by" ["_law_script", "_law_coins_here", "_law_told"] [] (spRb K C_Rates)) (caw0 : Cal P w K mg base CX0 true 4 "_law_rows" ["_law_script", "_law_firms", "_law_accounts", "_law_coins_here"] [] (spRows28 K)) (caa0 : CalI P w K mg base CX0 true 1 C_Book ["self", "firm"] [] (spBkI C_Book)) (cbf0 : Cal P w K mg base CX0 true 6 "entry_lines" ["sides", "day", "rates"] [] (spEntry K C_Rates)) (cae0 : CalM P w K mg base CX0 true 3 C_Book "post" ["self", "day", "about", "lines"] [] (spPost0 C_Book)) (cap0 : Cal P w K mg base CX0 true 5 "_law_meets" ["_law_books", "_law_firms", "_law_alone", "_law_upto"] [] (spMt C_Book)) (z_range : mg "range" = none) (z_len : mg "len" = none) (z_list : mg "list" = none) (z_max : mg "max" = none) (m_Book : mg "Book" = some (.ref C_Book)) (cl_Book : Cls K C_Book) : FnOk P w K mg base CX0 true 7 f fd ["_law_script"] (spLaw K) := by
 obtain ⟨fal0, fdal0, dal0, Gal0, mal0, kal0, bal0, val0, bal01⟩ := cal0
 obtain ⟨fas0, fdas0, das0, Gas0, mas0, kas0, bas0, vas0, bas01⟩ := cas0
 obtain ⟨far0, fdar0, dar0, Gar0, mar0, kar0, bar0, var0, bar01⟩ := car0
 obtain ⟨fan0, fdan0, dan0, Gan0, man0, kan0, ban0, van0, ban01⟩ := can0
 obtain ⟨fbb0, fdbb0, dbb0, Gbb0, mbb0, kbb0, bbb0, vbb0, bbb01⟩ := cbb0
 obtain ⟨fav0, fdav0, dav0, Gav0, mav0, kav0, bav0, vav0, bav01⟩ := cav0
 obtain ⟨faw0, fdaw0, daw0, Gaw0, maw0, kaw0, baw0, vaw0, baw01⟩ := caw0
 obtain ⟨faa0, fdaa0, daa0, Gaa0, M_Book, baa0, vaa0, baa01⟩ := caa0
 obtain ⟨fbf0, fdbf0, dbf0, Gbf0, mbf0, kbf0, bbf0, vbf0, bbf01⟩ := cbf0
 obtain ⟨fae0, fdae0, dae0, Gae0, mae0, bae0, vae0, bae01⟩ := cae0
 obtain ⟨fap0, fdap0, dap0, Gap0, map0, kap0, bap0, vap0, bap01⟩ := cap0
 refine F.ok scbk0 (fun vs H Q E h => ?_) (fun cdv A outer s H vs Q E hr h => ?_)
 ·obtain ⟨a, ns, rfl, hS, hlen, hb, q⟩ := h
  rfl
 obtain ⟨a, ns, rfl, hS, hlen, hb, q⟩ := h
 have nd := scbk0.nd
 refine ⟨_, (Qad (Qal (i := 1) nd rfl (Or.inl rfl) (Qan Gal0 (hr.mono (by decide)) rfl mal0 kal0 bal0 Paired.nil pass0 (Qaa (pv 0) (Qaa Qac Qaf))))
  (Qad (Qal (i := 2) nd rfl (Or.inl rfl) (Qb1 Qc8 (Qan Gas0 (hr.mono (by decide)) rfl mas0 kas0 bas0 Paired.nil pass0 (Qaa (pv 1) (Qaa Qac Qaf))) Qco (Qb3 (Qaj Qa1 Qac (Qaj Qau (Qan Gar0 (hr.mono (by decide)) rfl mar0 kar0 bar0 Paired.nil pass0 (Qaa (pv 1) (Qaa Qac Qaf))) Qac)))))
  (Qad (Qal (i := 3) nd rfl (Or.inl rfl) (Qan Gas0 (hr.mono (by decide)) rfl mas0 kas0 bas0 Paired.nil pass0 (Qaa (Qan Gar0 (hr.mono (by decide)) rfl mar0 kar0 bar0 Paired.nil pass0 (Qaa (pv 1) (Qaa Qac Qaf))) (Qaa Qac Qaf))))
  (Qad (Qal (i := 4) nd rfl (Or.inl rfl) (Qan Gan0 (hr.mono (by decide)) rfl man0 kan0 ban0 Paired.nil pass0 (Qaa (Qan Gal0 (hr.mono (by decide)) rfl mal0 kal0 bal0 Paired.nil pass0 (Qaa (pv 0) (Qaa Qac Qaf))) Qaf)))
  (Qad (Qal (i := 5) nd rfl (Or.inl rfl) (Qan Gbb0 (hr.mono (by decide)) rfl mbb0 kbb0 bbb0 Paired.nil pass0 (Qaa (Qan Gal0 (hr.mono (by decide)) rfl mal0 kal0 bal0 Paired.nil pass0 (Qaa (pv 0) (Qaa Qac Qaf))) (Qaa (pv 4) Qaf))))
  (Qad (Qal (i := 6) nd rfl (Or.inl rfl) (Qan Gav0 (hr.mono (by decide)) rfl mav0 kav0 bav0 Paired.nil pass0 (Qaa (pv 0) (Qaa (pv 4) (Qaa (pv 5) Qaf)))))
  (Qad (Qal (i := 7) nd rfl (Or.inl rfl) (Qan Gaw0 (hr.mono (by decide)) rfl maw0 kaw0 baw0 Paired.nil pass0 (Qaa (pv 0) (Qaa (pv 2) (Qaa (pv 3) (Qaa (pv 4) Qaf))))))
  (Qad (Qal (i := 8) nd rfl (Or.inl rfl) Qcu)
  (Qad (Qa8 PassesOwn.never rfl (Qar (pv 2)) (Qak (i := 9) nd rfl (Or.inr rfl)) (Qag (Qb7 (Qbl hr) (pv 8) (pv 9) (Qgy M_Book Gaa0 (hr.mono (by decide)) rfl m_Book baa0 Paired.nil pass0 (Qaa (pv 9) Qaf)) rfl)))
  (Qad (Qal (i := 10) nd rfl (Or.inl rfl) (Qgy M_Book Gaa0 (hr.mono (by decide)) rfl m_Book baa0 Paired.nil pass0 (Qaa Qbz Qaf)))
  (Qad (Qal (i := 11) nd rfl (Or.inl rfl) (Qb4 (Qaa Qeq Qaf)))
  (Qad (Qa8 PassesOwn.never rfl (Qbw rfl z_range (Qaa (Qav Qa5 rfl z_len Qcw (Qaa (pv 7) Qaf)) Qaf)) (Qak (i := 12) nd rfl (Or.inl rfl)) (Qad (Qal (i := 14) nd rfl (Or.inl rfl) (Qax Qaw (Qax Qaw (pv 7) (pv 12) (fun _ _ => rfl)) Qac (fun _ _ => rfl)))
  (Qad (Qal (i := 15) nd rfl (Or.inl rfl) (Qan Gbf0 (hr.mono (by decide)) rfl mbf0 kbf0 bbf0 Paired.nil pass0 (Qaa (Qby Qcr rfl z_list Qcs (Qaa (Qax Qaw (Qax Qaw (pv 7) (pv 12) (fun _ _ => rfl)) Qac (fun _ _ => rfl)) Qaf)) (Qaa (pv 14) (Qaa (pv 6) Qaf)))))
  (Qad (Qa8 PassesOwn.never rfl (Qar (pv 2)) (Qak (i := 9) nd rfl (Or.inr rfl)) (Qag (Qbg (Qb8 (Qbp (Qbl hr) (pv 8) (pv 9) (fun _ _ => rfl)) cl_Book mae0 Gae0 (hr.mono (by decide)) bae0 Paired.nil pass0 (Qaa (pv 14) (Qaa (Qaj Qa1 (pv 12) Qac) (Qaa (Qe4 [9] rfl (LcOk.free ["_law_firm"] rfl rfl (List.forall_mem_cons.mpr ⟨rfl, (fun _ h => nomatch h)⟩) (by decide+kernel) rfl (by decide+kernel) rfl (by decide+kernel) (show (["_law_line", "_law_firm"] : List Str).Nodup from by decide+kernel) (List.forall_mem_cons.mpr ⟨⟨_, rfl, rfl, rfl, by decide+kernel⟩, (fun _ h => nomatch h)⟩)) (Qar (pv 15)) (fun C s2 H2 fp xe => (Qap Qcl (Qax Qbk (pv 0) Qac (fun _ _ => rfl)) (pv 1) (nomark _))) (fun C s2 H2 fp xe => (pv 0))) Qaf)))))))
  (Qad (Qbg (Qb8 (pv 10) cl_Book mae0 Gae0 (hr.mono (by decide)) bae0 Paired.nil pass0 (Qaa (pv 14) (Qaa (Qaj Qa1 (pv 12) Qac) (Qaa (Qan Gbf0 (hr.mono (by decide)) rfl mbf0 kbf0 bbf0 Paired.nil pass0 (Qaa (Qe5 [] rfl (LcOk.plain (by decide+kernel) (by decide+kernel) rfl (by decide+kernel) rfl) (Qar (Qax Qaw (Qax Qaw (pv 7) (pv 12) (fun _ _ => rfl)) Qac (fun _ _ => rfl))) (fun C s2 H2 fp xe => (Qaj Qhs (Qay (Qaa Qbz Qaf)) (Qb1 Qgr (pv 0) (Qb3 Qac) Qco)))) (Qaa (pv 14) (Qaa (pv 6) Qaf)))) Qaf)))))
  (Qag (Qal (i := 11) nd rfl (Or.inl rfl) (Qaj Qht (pv 11) (Qb4 (Qaa (Qaj Qbh (pv 14) Qac) (Qaa (Qav (Qge rfl) rfl z_max Qlf (Qaa Qac (Qaa (Qaj Qfz (Qaj Qbh (pv 14) Qac) Qac) Qaf))) Qaf)))))))))))
  (Qad (Qa8 PassesOwn.never rfl (Qar (Qaj Qht (pv 11) (Qb4 (Qaa Qeq Qaf)))) (Qak (i := 13) nd rfl (Or.inl rfl)) (Qag (Qbq (Qfw (Qfv (Qan Gap0 (hr.mono (by decide)) rfl map0 kap0 bap0 Paired.nil pass0 (Qaa (pv 8) (Qaa (pv 2) (Qaa (pv 10) (Qaa (pv 13) Qaf))))))) (Qag (Qaq Qgz)) Qas)))
  (Qag (Qaq Qgz))))))))))))))), ?_⟩
 have hline : 10 ^ 6 ≤ sizeLine := by decide
 refine ⟨_, rfl, a, ns, 0, rfl, hS, ?_⟩
 refine ⟨_, rfl, _, 6, rfl, by decide, by decide, fun l0 xs H1 e1 hl0 hx6 hxL hxn => ?_⟩
 refine ⟨_, rfl, _, 40014, rfl, by decide, fun m m0 m1 => ⟨_, _, rfl, rfl, (by show (0 : Int) < 6; decide), _, _, rfl, rfl, _, rfl, l0, _, rfl, SqL.of hl0, fun fl hfl0 => ?_⟩⟩
 obtain ⟨tn, ht⟩ : ∃ tn : Nat, 1 + m % 6 = (tn : Int) := Int.eq_ofNat_of_zero_le (by omega)
 rw [ht]
 have hfs : cutV (xs.map V.str) none (some (tn : Int)) = (xs.take (min tn xs.length)).map V.str := by
  rw [Qia, List.length_map, List.map_take]
 rw [hfs]
 obtain ⟨fs, hfs2⟩ : ∃ fs, fs = xs.take (min tn xs.length) := ⟨_, rfl⟩
 rw [← hfs2]
 have lf : 1 ≤ fs.length := by
  rw [hfs2, List.length_take]
  omega
 have lf6 : fs.length ≤ 6 := by
  rw [hfs2, List.length_take]
  omega
 have hfL : ∀ x ∈ fs, Let x := fun x hx => hxL x (List.mem_of_mem_take (by rw [hfs2] at hx; exact hx))
 have nF : fs.Nodup := by
  rw [hfs2]
  exact List.Pairwise.sublist (List.take_sublist _ _) hxn
 have hfl : upd H1 fl (.lst (fs.map V.str)) fl = some (.lst (fs.map V.str)) := Qab
 have eA := e1.trans (Qae (o := .lst (fs.map V.str)) hfl0)
 generalize upd H1 fl (.lst (fs.map V.str)) = H2 at hfl eA ⊢
 clear hfs2 hfs hxL hxn hx6 hl0 e1 hfl0
 refine ⟨_, rfl, _, 30269, rfl, by decide, fun m' _ _ => ⟨m', 3, rfl, by decide, by decide, fun al as H3 e3 hal la haL _ => ?_⟩⟩
 have eB := eA.trans e3
 refine ⟨_, rfl, a, ns, 1, rfl, eB.seq hS, _, rfl, fun cl cs H4 e4 hcl lcs cnd => ?_⟩
 have eC := eB.trans e4
 refine ⟨_, rfl, a, ns, 1, rfl, eC.seq hS, _, rfl, _, cl, cs, rfl, hcl, lcs, fun t => ?_⟩
 refine ⟨_, rfl, _, rfl, _, rfl, a, cl, ns, cs, t, rfl, eC.seq hS, hcl, lcs, cnd, fun rp d kvs S P Z H5 e5 RQ hSm => ?_⟩
 have eD := eC.trans e5
 have LS : Ls H5 fl al cl fs as cs := ⟨e5 _ _ (e4 _ _ (e3 _ _ hfl)), e5 _ _ (e4 _ _ hal), e5 _ _ hcl, lf, la, by omega, hfL, haL⟩
 refine ⟨_, rfl, _, rfl, _, rfl, _, rfl, a, fl, al, cl, ns, fs, as, cs, rfl, eD.seq hS, hlen, hb, LS, fun rw W H6 e6 hrw0 hrw hW hWl => ?_⟩
 have hfl6 := e6 _ _ LS.f
 have hR6 : ∀ dy, (ns.getD 4 0 % 9800) ≤ dy → RtW K C_Rates H6 rp d t S dy kvs (xD (ns.getD 4 0 % 9800) P Z dy) (yD (ns.getD 4 0 % 9800) P Z dy) := fun dy h => (RQ.rtw h).same e6
 clear RQ LS
 refine fun bd hbd => ?_
 have g1 := Qae (o := .dK []) hbd
 refine ⟨_, rfl, fl, rfl, ⟨_, SqL.of (g1 _ _ hfl6)⟩, ?_⟩
 refine Qaz (xs := fs.map V.str) (fun i σ H' => ∃ (o9 : Option V) (kvs : List (Key × V)) (pB kB : Str → Addr), σ = [some (.ref a), some (.int (ns.getD 0 0)), some (.ref fl), some (.ref al), some (.ref cl), some (.str t), some (.ref rp), some (.ref rw), some (.ref bd), o9, none, none, none, none, none, none] ∧ Same H6 H' ∧ H' bd = some (.dK kvs) ∧ kvs.length ≤ i ∧ (∀ f ∈ fs.take i, valV kvs (kS f) = some (.ref (pB f)) ∧ KB0 C_Book H' (pB f) (kB f) f ∧ H' (kB f) = some (.lst []) ∧ H6 (kB f) = none) ∧ ∀ f ∈ fs.take i, ∀ g ∈ fs.take i, kB f = kB g → f = g) ⟨_, [], fun _ => bd, fun _ => bd, rfl, g1, Qab, Nat.le_refl _, (fun f hf => nomatch hf), fun f hf => nomatch hf⟩ ?_ ?_ ?_
 ·rintro i σ H7 hi ⟨o9, kvs, pB, kB, rfl, e, _⟩
  exact SqL.of (e _ _ hfl6)
 ·rintro i x σ H7 hx ⟨o9, kvs, pB, kB, rfl, e, hbb, hkl', hB, hinj⟩
  obtain ⟨f, hfi, rfl⟩ := Qce hx
  have hil : i < fs.length := (List.getElem?_eq_some_iff.mp hfi).1
  have tk := Qa7 hfi
  have hnt := Qe9 nF hfi
  refine ⟨_, rfl, fun p dx hp0 hdx hne => ⟨p, dx, f, rfl, Qab, fun kl H8 hkl hkp R0 hk0 k2 => ⟨rfl, ?_⟩⟩⟩
  have k3 : Same H7 H8 := fun b o hb => by
   have nb1 : b ≠ p := Qai hb hp0
   have nb2 : b ≠ dx := Qai hb hdx
   exact k2 b o (by rw [Qah nb1, Qah nb2]; exact hb) nb1
  have hkn : H7 kl = none := by
   cases h : H7 kl with
   | none => rfl
   | some o =>
     have nb1 : kl ≠ p := Qai h hp0
     have nb2 : kl ≠ dx := Qai h hdx
     rw [Qah nb1, Qah nb2, h] at hkl
     cases hkl
  have hbb8 := k3 _ _ hbb
  refine ⟨_, rfl, _, rfl, bd, _, rfl, DPut.k (k := kS f) hbb8 (by omega), ?_⟩
  have kl6 : H6 kl = none := e.free hkn
  have ku : ∀ b o, H8 b = some o → b ≠ bd → upd H8 bd (.dK (putK kvs (kS f) (.ref p))) b = some o := fun b o hb nb => by
   rw [Qah nb]
   exact hb
  have kb : ∀ q k g, KB0 C_Book H8 q k g → KB0 C_Book (upd H8 bd (.dK (putK kvs (kS f) (.ref p)))) q k g := fun q k g h => by
   obtain ⟨dx, gs, hp, r⟩ := h.ob
   exact ⟨dx, gs, ku _ _ hp (Qbd hp hbb8 (by intro w; cases w)), r⟩
  have kll : ∀ b, H8 b = some (.lst []) → upd H8 bd (.dK (putK kvs (kS f) (.ref p))) b = some (.lst []) := fun b h => ku _ _ h (Qbd h hbb8 (by intro w; cases w))
  refine ⟨_, putK kvs (kS f) (.ref p), (fun g => if g = f then p else pB g), (fun g => if g = f then kl else kB g), rfl, Qat (e.trans k3) hbd, Qab, ?_, fun g hg => ?_, fun g hg g' hg' => ?_⟩
  ·have := Qbs kvs (kS f) (V.ref p)
   omega
  ·dsimp only
   by_cases z : g = f
   ·subst z
    rw [if_pos rfl, if_pos rfl, Qca, if_pos rfl]
    exact ⟨rfl, kb _ _ _ R0, kll _ hk0, kl6⟩
   ·rw [if_neg z, if_neg z, Qca, if_neg (fun w => z (Qc3 _ _ w))]
    rw [tk] at hg
    have hg2 := (List.mem_append.mp hg).elim id fun w => absurd (List.mem_singleton.mp w) z
    obtain ⟨b1, b2, b3, b4⟩ := hB g hg2
    exact ⟨b1, kb _ _ _ (b2.same k3), kll _ (k3 _ _ b3), b4⟩
  ·dsimp only
   rw [tk] at hg hg'
   by_cases z : g = f
   ·by_cases z' : g' = f
    ·exact fun _ => z.trans z'.symm
    ·have h2 := (List.mem_append.mp hg').elim id fun w => absurd (List.mem_singleton.mp w) z'
     rw [if_pos z, if_neg z']
     intro w
     have := (hB g' h2).2.2.1
     rw [← w, hkn] at this
     cases this
   ·have h1 := (List.mem_append.mp hg).elim id fun w => absurd (List.mem_singleton.mp w) z
    by_cases z' : g' = f
    ·rw [if_neg z, if_pos z']
     intro w
     have := (hB g h1).2.2.1
     rw [w, hkn] at this
     cases this
    ·have h2 := (List.mem_append.mp hg').elim id fun w => absurd (List.mem_singleton.mp w) z'
     rw [if_neg z, if_neg z']
     exact hinj g h1 g' h2
 rintro σ H7 ⟨o9, kvb, pB, kB, rfl, e7, hbb, hkl', hB, hinj⟩
 rw [List.length_map, List.take_length] at hB hinj
 refine fun alo dx hp0 hdx hne => ⟨alo, dx, "only", rfl, Qab, fun ka H8 hkl hkp R0 hk0 k2 => ⟨rfl, ?_⟩⟩
 have k3 : Same H7 H8 := fun b o hb => by
  have nb1 : b ≠ alo := Qai hb hp0
  have nb2 : b ≠ dx := Qai hb hdx
  exact k2 b o (by rw [Qah nb1, Qah nb2]; exact hb) nb1
 have hkn : H7 ka = none := by
  cases h : H7 ka with
  | none => rfl
  | some o =>
    have nb1 : ka ≠ alo := Qai h hp0
    have nb2 : ka ≠ dx := Qai h hdx
    rw [Qah nb1, Qah nb2, h] at hkl
    cases hkl
 have B0 : Bkz C_Book H6 H8 bd fs alo ka pB kB (fun _ => []) [] := ⟨e7.trans k3, ⟨kvb, k3 _ _ hbb, fun f hf => (hB f hf).1⟩, fun f hf => (hB f hf).2.1.same k3, fun f hf => k3 _ _ (hB f hf).2.2.1, (fun f hf z hz => nomatch hz), R0, hk0, (fun z hz => nomatch hz), hinj, (fun f hf w => by
  have := (hB f hf).2.2.1
  rw [w, hkn] at this
  cases this), fun f hf => (hB f hf).2.2.2, e7.free hkn⟩
 clear hB hinj hbb k2 R0 hk0 hkl hkn hp0 hdx hne hkp
 refine ⟨(by show 1 ≤ sizeLine; decide), fun mp hmp => ?_⟩
 have f1 := Qae (o := .lst [.non]) hmp
 have hmk : ∀ f ∈ fs, mp ≠ kB f := fun f hf w => by
  have := B0.k f hf
  rw [← w, hmp] at this
  cases this
 have hma : mp ≠ ka := fun w => by
  have := B0.ak
  rw [← w, hmp] at this
  cases this
 have B1 := B0.same f1
 have hm1 : upd H8 mp (.lst [.non]) mp = some (.lst (([none] : List (Option Int)).map mV)) := Qab
 generalize upd H8 mp (.lst [.non]) = H9 at f1 B1 hm1 ⊢
 clear B0 k3 e7
 have rwl := Qjk W
 refine ⟨_, rfl, rw, _, rfl, .inl (SqL.of (B1.s _ _ hrw)), _, rfl, by omega, by omega, ?_⟩
 refine Qcg (fun i σ H' => ∃ (o9 o12 o14 o15 : Option V) (mp : Addr) (ms : List (Option Int)) (E : Str → List En) (E0 : List En) (R : List Ent), σ = [some (.ref a), some (.int (ns.getD 0 0)), some (.ref fl), some (.ref al), some (.ref cl), some (.str t), some (.ref rp), some (.ref rw), some (.ref bd), o9, some (.ref alo), some (.ref mp), o12, none, o14, o15] ∧ Bkz C_Book H6 H' bd fs alo ka pB kB E E0 ∧ H' mp = some (.lst (ms.map mV)) ∧ (∀ f ∈ fs, mp ≠ kB f) ∧ mp ≠ ka ∧ ms.length ≤ 2 * i + 1 ∧ R.length = i ∧ (∀ r ∈ R, Lns fs r.2.1 r.2.2 (plC fs as cs t)) ∧ (∀ f ∈ fs, xE (E f) = R.map fun r => (r.1, r.2.1 f)) ∧ xE E0 = R.map fun r => (r.1, r.2.2)) ⟨_, _, _, _, mp, [none], fun _ => [], [], [], rfl, B1, hm1, hmk, hma, Nat.le_refl _, rfl, (fun r hr => nomatch hr), (fun f _ => rfl), rfl⟩ ?_ ?_
 ·clear B1 hm1 hmk hma f1
  rintro i σ H1 hi ⟨o9, o12, o14, o15, mp, ms, E, E0, R, rfl, B, hmp, hmk, hma, hml, hRl, hRL, hE, hE0⟩
  have hi8 : i < W.length := by omega
  obtain ⟨w, hw⟩ : ∃ w, W[i]? = some w := ⟨_, List.getElem?_eq_getElem hi8⟩
  have hwm := List.mem_of_getElem? hw
  obtain ⟨w1, w2, w3, w4, w5, w6⟩ := hW w hwm
  have hat : atI (rfR W) (0 + (i : Int)) = some (.ref w.1) := by
   rw [show (0 + (i : Int)) = ((i : Nat) : Int) by omega]
   refine Qct ?_
   unfold rfR
   rw [List.getElem?_map, hw]
   rfl
  have hTw := SqT.of (K := K) (B.s _ _ w1)
  have hrwB := SqL.of (K := K) (B.s _ _ hrw)
  refine ⟨_, rfl, _, rfl, .inl ⟨rw, _, _, _, rfl, rfl, hrwB, hat, .inr (.inl ⟨w.1, _, 0, _, rfl, rfl, hTw, rfl, ?_⟩)⟩⟩
  refine ⟨_, rfl, _, rfl, .inl ⟨rw, _, _, _, rfl, rfl, hrwB, hat, .inr (.inl ⟨w.1, _, 1, _, rfl, rfl, hTw, rfl, w.2.2.1, _, rfl, .inl (SqL.of (B.s _ _ w3)), fun cp hcp => ?_⟩)⟩⟩
  have g2 := Qae (o := .lst (rfs w.2.2.2)) hcp
  have B2 := B.same g2
  have h0 : ∀ z ∈ w.2.2.2, N21.tot z.2.2.2.1 (prs w.2.2.2) = 0 := fun z hz => by
   obtain ⟨j, hj, ej⟩ := List.mem_take_iff_getElem.mp (w4 z hz).2.2.2.1
   have := w6 j (by omega)
   rw [List.getD, List.getElem?_eq_getElem (by omega)] at this
   rw [← ej]
   exact this
  have hkn : ∀ z ∈ w.2.2.2, (z.2.2.2.1 = t ∨ z.2.2.2.1 ∈ S) ∧ z.2.2.2.2.natAbs ≤ 2 ^ 145 := fun z hz => by
   refine ⟨?_, (w4 z hz).2.2.2.2⟩
   by_cases z' : z.2.2.2.1 = t
   ·exact .inl z'
   ·exact .inr (hSm _ (List.mem_of_mem_take (w4 z hz).2.2.2.1) z')
  have hRw := hR6 w.2.1 w2
  generalize hX : xD (ns.getD 4 0 % 9800) P Z w.2.1 = X at hRw
  generalize hY : yD (ns.getD 4 0 % 9800) P Z w.2.1 = Y at hRw
  have hLn := Qoa (t := t) (X := X) (Y := Y) nF lf6 hfL haL la w4 hRw.b1 h0
  refine ⟨_, rfl, _, rfl, cp, rp, d, w.2.1, w.2.1, t, S, kvs, X, Y, w.2.2.2, rfl, Qab, w4.rt.same B2.s, by omega, (fun z hz => hfL _ (w4 z hz).2.1), h0, hRw.same B2.s, rfl, hkn, fun lp M H2 f2 hlp0 hlp hM hMv hMl => ?_⟩
  have B3 := B2.same f2
  have hlk : ∀ f ∈ fs, lp ≠ kB f := fun f hf w => by
   have := B2.k f hf
   rw [← w, hlp0] at this
   cases this
  have hmp3 := f2 _ _ (g2 _ _ hmp)
  generalize hX1 : vls w.2.2.2 ++ dvs w.2.2.2 (cns w.2.2.2) = X1 at hMv hLn
  have hEl : ∀ f ∈ fs, (E f).length = i := fun f hf => by
   rw [← Qhc, hE f hf, List.length_map, hRl]
  refine ⟨_, rfl, fl, rfl, ⟨_, SqL.of (B3.s _ _ hfl6)⟩, ?_⟩
  refine Qaz (xs := fs.map V.str) (fun j σ H' => ∃ (o9 : Option V) (E' : Str → List En), σ = [some (.ref a), some (.int (ns.getD 0 0)), some (.ref fl), some (.ref al), some (.ref cl), some (.str t), some (.ref rp), some (.ref rw), some (.ref bd), o9, some (.ref alo), some (.ref mp), some (.int (0 + (i : Int))), none, some (.int w.2.1), some (.ref lp)] ∧ Bkz C_Book H6 H' bd fs alo ka pB kB E' E0 ∧ H' lp = some (.lst (rf5 M)) ∧ R5 H' M ∧ H' mp = some (.lst (ms.map mV)) ∧ (∀ f ∈ fs.take j, xE (E' f) = (R.map fun r => (r.1, r.2.1 f)) ++ [(w.2.1, entF (wS X Y) t X1 f)]) ∧ ∀ f ∈ fs, f ∉ fs.take j → E' f = E f) ⟨_, E, rfl, B3, hlp, hM, hmp3, (fun f hf => nomatch hf), fun f _ _ => rfl⟩ ?_ ?_ ?_
  ·rintro j σ H3 hj ⟨o9, E', rfl, B4, _⟩
   exact SqL.of (B4.s _ _ hfl6)
  ·rintro j x σ H3 hx ⟨o9, E', rfl, B4, hl4, hM4, hm4, hE4, hn4⟩
   obtain ⟨f, hfj, rfl⟩ := Qce hx
   have hf := List.mem_of_getElem? hfj
   have tk := Qa7 hfj
   have hnt := Qe9 nF hfj
   have hEf := hn4 f hf hnt
   obtain ⟨kb, hbd4, hbv⟩ := B4.d
   obtain ⟨dx, gs, hp, hbk, hke, hno⟩ := (B4.b f hf).ob
   refine ⟨_, rfl, _, rfl, bd, _, rfl, (show DGet H3 bd (.str f) (some (.ref (pB f))) from hbv f hf ▸ DGet.k (k := kS f) hbd4), pB f, dx, gs, rfl, hp, hno "post" (by decide+kernel), _, rfl, _, rfl, _, _, rfl, rfl, _, rfl, lp, rfl, ⟨_, SqL.of hl4⟩, ?_⟩
   refine Qc2 (xs := rf5 M) (fun n ys H5 => ys = rf5 ((M.take n).filter (fun y : Ln => decide (y.2.1 = f))) ∧ H5 = H3) ⟨rfl, rfl⟩ (by rw [Qbo]; omega) ?_ ?_ ?_
   ·rintro n ys H5 hn ⟨rfl, rfl⟩
    refine ⟨SqL.of hl4, ?_⟩
    rw [Qbo]
    have h1 := List.length_filter_le (fun y : Ln => decide (y.2.1 = f)) (M.take n)
    rw [List.length_take] at h1
    omega
   ·rintro n x ys H5 hx ⟨rfl, rfl⟩
    obtain ⟨y, hy, rfl⟩ := Qdx hx
    have hTy := SqT.of (K := K) (hM4 y (List.mem_of_getElem? hy))
    refine ⟨_, rfl, .inr (.inl ⟨y.1, _, 0, _, rfl, rfl, hTy, rfl, _, rfl, rfl, _, rfl, ?_⟩)⟩
    refine dec2 (fun h => ?_) (fun h => ?_)
    ·refine ⟨_, rfl, ?_, rfl⟩
     rw [Qa7 hy, List.filter_append, List.filter_cons_of_pos (p := (fun y : Ln => decide (y.2.1 = f))) (decide_eq_true (V.str.inj h)), Qgt]
     rfl
    ·refine ⟨?_, rfl⟩
     rw [Qa7 hy, List.filter_append, List.filter_cons_of_neg (p := (fun y : Ln => decide (y.2.1 = f))) (fun z => h (congrArg V.str (of_decide_eq_true z)))]
     simp
   rintro ys H5 ⟨rfl, rfl⟩ fp hfp
   rw [Qbo, List.take_length]
   have f5 := Qae (o := .lst (rf5 (M.filter (fun y : Ln => decide (y.2.1 = f))))) hfp
   have B5 := B4.same f5
   have hfE := Qo2 hMv f
   have hfl5 := List.length_filter_le (fun y : Ln => decide (y.2.1 = f)) M
   have hG : Good f (M.filter (fun y : Ln => decide (y.2.1 = f))) := Qko (fun z hz => of_decide_eq_true (List.mem_filter.mp hz).2) (by rw [hfE]; exact hLn.c f hf) (by rw [hfE]; exact hLn.w f hf) (by omega)
   have hM5 := (hM4.same f5).fil (fun y : Ln => decide (y.2.1 = f))
   refine ⟨pB f, kB f, f, rfE (E' f), w.2.1, 0 + (i : Int) + 1, fp, _, rfl, B5.b f hf, B5.k f hf, (by rw [Qda, hEf, hEl f hf]; omega), Qab, hM5, hG, fun en tp v H6' kp hk6 he6 ht6 => ?_⟩
   have B6 := B5.post hf kp hk6 he6 ht6 hM5 (by omega)
   refine ⟨_, _, rfl, B6, kp _ _ (f5 _ _ hl4) (hlk f hf), (hM4.same f5).kp (B5.k f hf) kp, kp _ _ (f5 _ _ hm4) (hmk f hf), fun g hg => ?_, fun g hg hgn => ?_⟩
   ·by_cases z : g = f
    ·subst z
     simp only [if_true]
     rw [Qmz, hEf, hE g hf]
     show _ ++ [(w.2.1, (M.filter _).map (·.2.2))] = _
     rw [hfE]
    ·simp only [if_neg z]
     rw [tk] at hg
     exact hE4 g ((List.mem_append.mp hg).elim id fun w => absurd (List.mem_singleton.mp w) z)
   ·rw [tk] at hgn
    have z : g ≠ f := fun z => hgn (List.mem_append_right _ (List.mem_singleton.mpr z))
    simp only [if_neg z]
    exact hn4 g hg fun w => hgn (List.mem_append_left _ w)
  rintro σ H3 ⟨o9', E', rfl, B4, hl4, hM4, hm4, hE4, hn4⟩
  rw [List.length_map, List.take_length] at hE4
  obtain ⟨dx, gs, hp, hbk, hke, hno⟩ := B4.a.ob
  have hTw4 := SqT.of (K := K) (B4.s _ _ w1)
  have hsl4 := B4.s _ _ w3
  refine ⟨_, rfl, alo, dx, gs, rfl, hp, hno "post" (by decide+kernel), _, rfl, _, rfl, _, _, rfl, rfl, _, rfl, _, rfl, .inl ⟨rw, _, _, _, rfl, rfl, SqL.of (B4.s _ _ hrw), hat, .inr (.inl ⟨w.1, _, 1, _, rfl, rfl, hTw4, rfl, w.2.2.1, rfl, ⟨_, SqL.of hsl4⟩, ?_⟩)⟩⟩
  refine Qcm (xs := rfs w.2.2.2) (fun j ys H' => ∃ L1 : List Sd, ys = rfs L1 ∧ L1.map (·.2) = (w.2.2.2.take j).map (fun z => (("only" : Str), z.2.2)) ∧ RT H' L1 ∧ Same H3 H') ⟨[], rfl, rfl, (fun z hz => nomatch hz), Same.refl _⟩ (by rw [Qbc]; omega) ?_ ?_ ?_
  ·rintro j ys H' hj ⟨L1, rfl, hv1, _, e'⟩
   have := congrArg List.length hv1
   rw [List.length_map, List.length_map, List.length_take] at this
   rw [Qbc] at hj
   exact ⟨SqL.of (e' _ _ hsl4), by rw [Qbc]; omega⟩
  ·rintro j x ys H' hx ⟨L1, rfl, hv1, hR1, e'⟩
   obtain ⟨z, hz, rfl⟩ := Qem hx
   have hzz := w4.rt.same (B4.s.trans e') z (List.mem_of_getElem? hz)
   unfold tupZ at hzz
   refine ⟨(by show 1 ≤ sizeLine; decide), fun t1 ht1 => ?_⟩
   have k1 := Qae (o := .tup [.str "only"]) ht1
   refine ⟨_, rfl, _, rfl, z.1, _, rfl, SqT.of (k1 _ _ hzz), (fun h => Nat.one_ne_zero h.1), fun t2 ht2 => ?_⟩
   have k2 := Qae (o := .tup [.str z.2.2.1, .str z.2.2.2.1, .int z.2.2.2.2]) ht2
   refine ⟨t1, t2, _, _, rfl, rfl, SqT.of (k2 _ _ Qab), SqT.of Qab, (fun h => nomatch h), (by show 4 ≤ sizeLine; decide), (fun h => nomatch h), fun _ np hnp => ?_⟩
   have k3 := Qae (o := tupZ (np, "only", z.2.2)) hnp
   have k13 := (k1.trans k2).trans k3
   refine ⟨L1 ++ [(np, ("only" : Str), z.2.2)], by rw [Qdv]; rfl, ?_, fun y hy => ?_, e'.trans k13⟩
   ·rw [List.map_append, hv1, Qa7 hz, List.map_append]
    rfl
   ·rcases List.mem_append.mp hy with w | w
    ·exact k13 _ _ (hR1 y w)
    ·rw [List.mem_singleton.mp w]
     exact Qab
  rintro ys H4' ⟨L1, rfl, hv1, hR1, fD⟩ l9 hl9
  rw [Qbc, List.take_length] at hv1
  have hL1 : L1.length = w.2.2.2.length := by
   have := congrArg List.length hv1
   rw [List.length_map, List.length_map] at this
   exact this
  have f10 := Qae (o := .lst (rfs L1)) hl9
  have f34 := fD.trans f10
  have B5 := B4.same f34
  have hv1m : ∀ z ∈ L1, z.2.1 = "only" ∧ ∃ y ∈ w.2.2.2, y.2.2 = z.2.2 := fun z hz => by
   have : z.2 ∈ w.2.2.2.map (fun z => (("only" : Str), z.2.2)) := by rw [← hv1]; exact List.mem_map.mpr ⟨z, hz, rfl⟩
   obtain ⟨y, hy, e⟩ := List.mem_map.mp this
   exact ⟨by rw [← e], y, hy, by rw [← e]⟩
  have h01 : ∀ z ∈ L1, N21.tot z.2.2.2.1 (prs L1) = 0 := fun z hz => by
   obtain ⟨_, y, hy, e⟩ := hv1m z hz
   rw [prs_eq hv1, ← e]
   exact h0 y hy
  have hkn1 : ∀ z ∈ L1, (z.2.2.2.1 = t ∨ z.2.2.2.1 ∈ S) ∧ z.2.2.2.2.natAbs ≤ 2 ^ 145 := fun z hz => by
   obtain ⟨_, y, hy, e⟩ := hv1m z hz
   rw [← e]
   exact hkn y hy
  refine ⟨_, rfl, _, rfl, l9, rp, d, w.2.1, w.2.1, t, S, kvs, X, Y, L1, rfl, Qab, hR1.same f10, by omega, (fun z hz => by rw [(hv1m z hz).1]; exact Qmd), h01, hRw.same B5.s, rfl, hkn1, fun op M1 H5 f5 hop0 hop hM1 hMv1 hMl1 => ?_⟩
  rw [Qkw (fun z hz => (hv1m z hz).1), List.append_nil] at hMv1
  have hon : vls L1 = N25.only ("only" : Str) (vls w.2.2.2) := by
   unfold vls N25.only
   rw [hv1, List.map_map]
   rfl
  rw [hon] at hMv1
  have B6 := B5.same f5
  have hE0l : E0.length = i := by rw [← Qhc, hE0, List.length_map, hRl]
  have hM1e : M1.map (·.2.2) = (N25.lines (wS X Y) ("*rounding" : Str) t (N25.only ("only" : Str) (vls w.2.2.2))).map (·.2) := by rw [map2, hMv1]
  have hG : Good "only" M1 := Qko (fun z hz => ?_) (by rw [hM1e]; exact hLn.c0) (by rw [hM1e]; exact hLn.w0) hMl1
  rotate_left
  ·have h1 := Qdc (W := wS X Y) (t := t) (V := N25.only ("only" : Str) (vls w.2.2.2)) (fs := ["only"]) (fun v hv => by
    obtain ⟨u, _, rfl⟩ := List.mem_map.mp hv
    exact List.mem_cons_self) z.2 (by rw [← hMv1]; exact List.mem_map.mpr ⟨z, hz, rfl⟩)
   exact List.mem_singleton.mp h1
  refine ⟨alo, ka, "only", rfE E0, w.2.1, 0 + (i : Int) + 1, op, M1, rfl, B6.a, B6.ak, (by rw [Qda]; omega), hop, hM1, hG, fun en tp v H6' kp hk6 he6 ht6 => ?_⟩
  have B7 := B6.lone kp hk6 he6 ht6 hM1 hMl1
  have hm7 := kp _ _ (f5 _ _ (f34 _ _ hm4)) hma
  refine ⟨_, rfl, _, rfl, _, _, rfl, rfl, ⟨by decide, by decide⟩, _, rfl, _, _, rfl, rfl, ⟨by decide, by decide⟩, _, _, rfl, rfl, _, _, rfl, (by show 2 ≤ sizeLine; decide), fun l2 hl2 => ?_⟩
  have k2 := Qae (o := .lst [.int (w.2.1 / 30), .int (if w.2.1 / 30 - 1 > 0 then w.2.1 / 30 - 1 else 0)]) hl2
  refine ⟨mp, l2, _, _, rfl, rfl, k2 _ _ hm7, Qab, (by rw [List.length_map]; show ms.length + 2 ≤ sizeLine; omega), fun l3 hl3 => ?_⟩
  have k3 := Qae (o := .lst (ms.map mV ++ [.int (w.2.1 / 30), .int (if w.2.1 / 30 - 1 > 0 then w.2.1 / 30 - 1 else 0)])) hl3
  have k23 := k2.trans k3
  refine ⟨_, _, _, _, l3, ms ++ [some (w.2.1 / 30), some (if w.2.1 / 30 - 1 > 0 then w.2.1 / 30 - 1 else 0)], E', _, R ++ [(w.2.1, entF (wS X Y) t X1, (N25.lines (wS X Y) ("*rounding" : Str) t (N25.only ("only" : Str) (vls w.2.2.2))).map (·.2))], rfl, B7.same k23, ?_, fun f hf z => ?_, fun z => ?_, ?_, ?_, fun r hr => ?_, fun f hf => ?_, ?_⟩
  ·rw [Qab, List.map_append]
   rfl
  ·have := (B7.same k2).k f hf
   rw [← z, hl3] at this
   cases this
  ·have := (B7.same k2).ak
   rw [← z, hl3] at this
   cases this
  ·rw [List.length_append]
   show ms.length + 2 ≤ _
   omega
  ·rw [List.length_append, hRl]
   rfl
  ·rcases List.mem_append.mp hr with w | w
   ·exact hRL r w
   ·rw [List.mem_singleton.mp w]
    exact hLn
  ·rw [hE4 f hf, List.map_append]
   rfl
  ·rw [Qmz, hE0, List.map_append]
   show _ ++ [(w.2.1, M1.map (·.2.2))] = _
   rw [hM1e]
   rfl
 rintro σ H1 ⟨o9, o12, o14, o15, mp, ms, E, E0, R, rfl, B, hmp, hmk, hma, hml, hRl, hRL, hE, hE0⟩
 have hMt := Ql7 (E := E) (E0 := E0) (Qju (cs := cs) (t := t) lf6 la) (Qnd hfL haL) lf6 (fun f hf => (hfL f hf).2) hRL hE hE0
 have hEl : ∀ f ∈ fs, (E f).length ≤ 8 := fun f hf => by
  rw [← Qhc, hE f hf, List.length_map]
  omega
 have hE0l : E0.length ≤ 8 := by
  rw [← Qhc, hE0, List.length_map]
  omega
 obtain ⟨kb, hbd4, hbv⟩ := B.d
 have hD : BkD C_Book H1 bd fs pB kB E := ⟨kb, hbd4, fun f hf => ⟨hbv f hf, B.b f hf, B.k f hf, B.e f hf, hEl f hf⟩⟩
 have hA : BkE C_Book H1 alo ka "only" E0 := ⟨B.a, B.ak, B.ae, hE0l⟩
 have hflE := B.s _ _ hfl6
 refine ⟨_, rfl, (by show 1 ≤ sizeLine; decide), fun l2 hl2 => ?_⟩
 have k2 := Qae (o := .lst [.non]) hl2
 refine ⟨mp, l2, _, _, rfl, rfl, k2 _ _ hmp, Qab, (by rw [List.length_map]; show ms.length + 1 ≤ sizeLine; omega), fun l3 hl3 => ?_⟩
 have k3 := Qae (o := .lst (ms.map mV ++ [.non])) hl3
 have k23 := k2.trans k3
 have hl33 : upd (upd H1 l2 (.lst [.non])) l3 (.lst (ms.map mV ++ [.non])) l3 = some (.lst ((ms ++ [none]).map mV)) := by
  rw [Qab, List.map_append]
  rfl
 generalize upd (upd H1 l2 (.lst [.non])) l3 (.lst (ms.map mV ++ [.non])) = HE at k23 hl33 ⊢
 refine ⟨l3, rfl, ⟨_, SqL.of hl33⟩, ?_⟩
 refine Qaz (xs := (ms ++ [none]).map mV) (fun i σ H' => ∃ (o13 : Option V), σ = [some (.ref a), some (.int (ns.getD 0 0)), some (.ref fl), some (.ref al), some (.ref cl), some (.str t), some (.ref rp), some (.ref rw), some (.ref bd), o9, some (.ref alo), some (.ref mp), o12, o13, o14, o15] ∧ Same HE H') ⟨_, rfl, Same.refl _⟩ ?_ ?_ ?_
 ·rintro i σ H' hi ⟨o13, rfl, e⟩
  exact SqL.of (e _ _ hl33)
 ·rintro i x σ H' hx ⟨o13, rfl, e⟩
  obtain ⟨m, hmi, rfl⟩ : ∃ m, (ms ++ [none])[i]? = some m ∧ x = mV m := by
   rw [List.getElem?_map] at hx
   cases h : (ms ++ [none])[i]? with
   | none =>
     rw [h] at hx
     cases hx
   | some m =>
     rw [h] at hx
     exact ⟨m, rfl, (Option.some.inj hx).symm⟩
  have eE := k23.trans e
  refine ⟨_, rfl, _, rfl, _, rfl, _, rfl, bd, fl, alo, ka, m, fs, pB, kB, E, E0, rfl, eE _ _ hflE, lf6, hD.same eE, hA.same eE, hMt m, fun H2 e2 => ⟨true, rfl, iteF ?_⟩⟩
  exact ⟨_, rfl, e.trans e2⟩
 rintro σ H' ⟨o13, rfl, e⟩
 exact q _
end
theorem all_mk {l : PySem.W.OpenLaw} {w : World} {K : Q5} {h : Heap} {mg : Str → Option Value} {fa : Addr} {C_Book C_NoNumber C_Rates : Addr} {fbd0 : Addr} {ocbd0 kVbd0 dcbd0 pmbd0 cdbd0 ctbd0 : Value} {odbd0 anbd0 : Option Addr} {slbd0 : Array Q6} {fbi0 : Addr} {ocbi0 kVbi0 dcbi0 pmbi0 cdbi0 ctbi0 : Value} {odbi0 anbi0 : Option Addr} {slbi0 : Array Q6} {Tbi0 : Addr} {odTbi0 : Option Addr} {nTbi0 : Nat} {slTbi0 : Array Q6} {tkTbi0 : Tok} {fbn0 : Addr} {ocbn0 kVbn0 dcbn0 pmbn0 cdbn0 ctbn0 : Value} {odbn0 anbn0 : Option Addr} {slbn0 : Array Q6} {Tbn0 : Addr} {odTbn0 : Option Addr} {nTbn0 : Nat} {slTbn0 : Array Q6} {tkTbn0 : Tok} {fah0 : Addr} {ocah0 kVah0 dcah0 pmah0 cdah0 ctah0 : Value} {odah0 anah0 : Option Addr} {slah0 : Array Q6} {fag0 : Addr} {ocag0 kVag0 dcag0 pmag0 cdag0 ctag0 : Value} {odag0 anag0 : Option Addr} {slag0 : Array Q6} {Tag0 : Addr} {odTag0 : Option Addr} {nTag0 : Nat} {slTag0 : Array Q6} {tkTag0 : Tok} {fai0 : Addr} {ocai0 kVai0 dcai0 pmai0 cdai0 ctai0 : Value} {odai0 anai0 : Option Addr} {slai0 : Array Q6} {Tai0 : Addr} {odTai0 : Option Addr} {nTai0 : Nat} {slTai0 : Array Q6} {tkTai0 : Tok} {faj0 : Addr} {ocaj0 kVaj0 dcaj0 pmaj0 cdaj0 ctaj0 : Value} {odaj0 anaj0 : Option Addr} {slaj0 : Array Q6} {fbp0 : Addr} {ocbp0 kVbp0 dcbp0 pmbp0 cdbp0 ctbp0 : Value} {odbp0 anbp0 : Option Addr} {slbp0 : Array Q6} {fbj0 : Addr} {ocbj0 kVbj0 dcbj0 pmbj0 cdbj0 ctbj0 : Value} {odbj0 anbj0 : Option Addr} {slbj0 : Array Q6} {fbh0 : Addr} {ocbh0 kVbh0 dcbh0 pmbh0 cdbh0 ctbh0 : Value} {odbh0 anbh0 : Option Addr} {slbh0 : Array Q6} {fbe0 : Addr} {ocbe0 kVbe0 dcbe0 pmbe0 cdbe0 ctbe0 : Value} {odbe0 anbe0 : Option Addr} {slbe0 : Array Q6} {fbq0 : Addr} {ocbq0 kVbq0 dcbq0 pmbq0 cdbq0 ctbq0 : Value} {odbq0 anbq0 : Option Addr} {slbq0 : Array Q6} {fbl0 : Addr} {ocbl0 kVbl0 dcbl0 pmbl0 cdbl0 ctbl0 : Value} {odbl0 anbl0 : Option Addr} {slbl0 : Array Q6} {fbf0 : Addr} {ocbf0 kVbf0 dcbf0 pmbf0 cdbf0 ctbf0 : Value} {odbf0 anbf0 : Option Addr} {slbf0 : Array Q6} {fbm0 : Addr} {ocbm0 kVbm0 dcbm0 pmbm0 cdbm0 ctbm0 : Value} {odbm0 anbm0 : Option Addr} {slbm0 : Array Q6} {fbo0 : Addr} {ocbo0 kVbo0 dcbo0 pmbo0 cdbo0 ctbo0 : Value} {odbo0 anbo0 : Option Addr} {slbo0 : Array Q6} {fbg0 : Addr} {ocbg0 kVbg0 dcbg0 pmbg0 cdbg0 ctbg0 : Value} {odbg0 anbg0 : Option Addr} {slbg0 : Array Q6} {fbc0 : Addr} {ocbc0 kVbc0 dcbc0 pmbc0 cdbc0 ctbc0 : Value} {odbc0 anbc0 : Option Addr} {slbc0 : Array Q6} {faa0 : Addr} {ocaa0 kVaa0 dcaa0 pmaa0 cdaa0 ctaa0 : Value} {odaa0 anaa0 : Option Addr} {slaa0 : Array Q6} {fad0 : Addr} {ocad0 kVad0 dcad0 pmad0 cdad0 ctad0 : Value} {odad0 anad0 : Option Addr} {slad0 : Array Q6} {fae0 : Addr} {ocae0 kVae0 dcae0 pmae0 cdae0 ctae0 : Value} {odae0 anae0 : Option Addr} {slae0 : Array Q6} {faf0 : Addr} {ocaf0 kVaf0 dcaf0 pmaf0 cdaf0 ctaf0 : Value} {odaf0 anaf0 : Option Addr} {slaf0 : Array Q6} {Taf0 : Addr} {odTaf0 : Option Addr} {nTaf0 : Nat} {slTaf0 : Array Q6} {fac0 : Addr} {ocac0 kVac0 dcac0 pmac0 cdac0 ctac0 : Value} {odac0 anac0 : Option Addr} {slac0 : Array Q6} {Tac0 : Addr} {odTac0 : Option Addr} {nTac0 : Nat} {slTac0 : Array Q6} {fab0 : Addr} {ocab0 kVab0 dcab0 pmab0 cdab0 ctab0 : Value} {odab0 anab0 : Option Addr} {slab0 : Array Q6} {Tab0 : Addr} {odTab0 : Option Addr} {nTab0 : Nat} {slTab0 : Array Q6} {fal0 : Addr} {ocal0 kVal0 dcal0 pmal0 cdal0 ctal0 : Value} {odal0 anal0 : Option Addr} {slal0 : Array Q6} {far0 : Addr} {ocar0 kVar0 dcar0 pmar0 cdar0 ctar0 : Value} {odar0 anar0 : Option Addr} {slar0 : Array Q6} {fas0 : Addr} {ocas0 kVas0 dcas0 pmas0 cdas0 ctas0 : Value} {odas0 anas0 : Option Addr} {slas0 : Array Q6} {fan0 : Addr} {ocan0 kVan0 dcan0 pman0 cdan0 ctan0 : Value} {odan0 anan0 : Option Addr} {slan0 : Array Q6} {fak0 : Addr} {ocak0 kVak0 dcak0 pmak0 cdak0 ctak0 : Value} {odak0 anak0 : Option Addr} {slak0 : Array Q6} {fat0 : Addr} {ocat0 kVat0 dcat0 pmat0 cdat0 ctat0 : Value} {odat0 anat0 : Option Addr} {slat0 : Array Q6} {faz0 : Addr} {ocaz0 kVaz0 dcaz0 pmaz0 cdaz0 ctaz0 : Value} {odaz0 anaz0 : Option Addr} {slaz0 : Array Q6} {fbb0 : Addr} {ocbb0 kVbb0 dcbb0 pmbb0 cdbb0 ctbb0 : Value} {odbb0 anbb0 : Option Addr} {slbb0 : Array Q6} {fau0 : Addr} {ocau0 kVau0 dcau0 pmau0 cdau0 ctau0 : Value} {odau0 anau0 : Option Addr} {slau0 : Array Q6} {fax0 : Addr} {ocax0 kVax0 dcax0 pmax0 cdax0 ctax0 : Value} {odax0 anax0 : Option Addr} {slax0 : Array Q6} {fam0 : Addr} {ocam0 kVam0 dcam0 pmam0 cdam0 ctam0 : Value} {odam0 anam0 : Option Addr} {slam0 : Array Q6} {fav0 : Addr} {ocav0 kVav0 dcav0 pmav0 cdav0 ctav0 : Value} {odav0 anav0 : Option Addr} {slav0 : Array Q6} {faw0 : Addr} {ocaw0 kVaw0 dcaw0 pmaw0 cdaw0 ctaw0 : Value} {odaw0 anaw0 : Option Addr} {slaw0 : Array Q6} {fay0 : Addr} {ocay0 kVay0 dcay0 pmay0 cday0 ctay0 : Value} {oday0 anay0 : Option Addr} {slay0 : Array Q6} {fao0 : Addr} {ocao0 kVao0 dcao0 pmao0 cdao0 ctao0 : Value} {odao0 anao0 : Option Addr} {slao0 : Array Q6} {faq0 : Addr} {ocaq0 kVaq0 dcaq0 pmaq0 cdaq0 ctaq0 : Value} {odaq0 anaq0 : Option Addr} {slaq0 : Array Q6} {fba0 : Addr} {ocba0 kVba0 dcba0 pmba0 cdba0 ctba0 : Value} {odba0 anba0 : Option Addr} {slba0 : Array Q6} {fap0 : Addr} {ocap0 kVap0 dcap0 pmap0 cdap0 ctap0 : Value} {odap0 anap0 : Option Addr} {slap0 : Array Q6} {fbk0 : Addr} {ocbk0 kVbk0 dcbk0 pmbk0 cdbk0 ctbk0 : Value} {odbk0 anbk0 : Option Addr} {slbk0 : Array Q6} (X : K.In h) (G : h.Ns mainGlobals mg) (hfa : mg "law" = some (.ref fa))
 (a_Book : nsIn K mainGlobals "Book" = some (some (.ref C_Book))) (a_NoNumber : nsIn K mainGlobals "NoNumber" = some (some (.ref C_NoNumber))) (a_Rates : nsIn K mainGlobals "Rates" = some (some (.ref C_Rates))) (xs_NoNumber : xclsIn K C_NoNumber = true) (xga_NoNumber : findIn K (.ref C_NoNumber) "__getattribute__" = some (some (.builtin "BaseException.__getattribute__"))) (xgh_NoNumber : findIn K (.ref C_NoNumber) "__getattr__" = some (none)) (xsa_NoNumber : findIn K (.ref C_NoNumber) "__setattr__" = some (some (.builtin "object.__setattr__"))) (xcl_NoNumber : findIn K (.ref C_NoNumber) "__class__" = some (some (.builtin "object.__class__"))) (i_NoNumber : findIn K (.ref C_NoNumber) "__init__" = some (some (.builtin "ValueError.__init__"))) (nz_abs : nsIn K mainGlobals "abs" = some none) (nz_len : nsIn K mainGlobals "len" = some none) (nz_max : nsIn K mainGlobals "max" = some none) (nz_list : nsIn K mainGlobals "list" = some none) (nz_dict : nsIn K mainGlobals "dict" = some none) (nz_sorted : nsIn K mainGlobals "sorted" = some none) (nz_sum : nsIn K mainGlobals "sum" = some none) (nz_tuple : nsIn K mainGlobals "tuple" = some none) (nz_enumerate : nsIn K mainGlobals "enumerate" = some none) (nz_range : nsIn K mainGlobals "range" = some none) (nz_int : nsIn K mainGlobals "int" = some none) (nz_all : nsIn K mainGlobals "all" = some none) (nz_isinstance : nsIn K mainGlobals "isinstance" = some none) (pg_Rates : PySem.W.plainGet K C_Rates Str.empty = true) (hd_Rates : PySem.W.hasDictIn K C_Rates = true) (po_Rates : PySem.W.plainOver K C_Rates = true) (sa_Rates : findIn K (.ref C_Rates) "__setattr__" = some (some (.builtin "object.__setattr__"))) (mk_Rates : PySem.W.makesIn K C_Rates = true) (kc_Rates : keepIn K (.ref C_Rates) = true) (pg_Book : PySem.W.plainGet K C_Book Str.empty = true) (hd_Book : PySem.W.hasDictIn K C_Book = true) (po_Book : PySem.W.plainOver K C_Book = true) (sa_Book : findIn K (.ref C_Book) "__setattr__" = some (some (.builtin "object.__setattr__"))) (mk_Book : PySem.W.makesIn K C_Book = true) (kc_Book : keepIn K (.ref C_Book) = true) (n_told : findIn K (.ref C_Rates) "told" = some none) (n_known : findIn K (.ref C_Rates) "known" = some none) (n_bbook : findIn K (.ref C_Book) "book" = some none) (n_bkept : findIn K (.ref C_Book) "kept" = some none) (abd0 : nsIn K mainGlobals "divisor" = some (some (.ref fbd0))) (lbd0 : K.lookup fbd0 = some ⟨ocbd0, odbd0, .func (fnOf "divisor" "divisor" (defArgs sbd0) (defBody sbd0) (defScope sbd0) .none kVbd0 dcbd0 pmbd0 anbd0 cdbd0 ctbd0), slbd0⟩) (cbd0 : codeIn K cdbd0 "divisor" = true) (kbd0 : keepIn K (.ref fbd0) = true) (abi0 : nsIn K mainGlobals "fraction" = some (some (.ref fbi0))) (lbi0 : K.lookup fbi0 = some ⟨ocbi0, odbi0, .func (fnOf "fraction" "fraction" (defArgs sbi0) (defBody sbi0) (defScope sbi0) (.ref Tbi0) kVbi0 dcbi0 pmbi0 anbi0 cdbi0 ctbi0), slbi0⟩) (cbi0 : codeIn K cdbi0 "fraction" = true) (kbi0 : keepIn K (.ref fbi0) = true) (lTbi0 : K.lookup Tbi0 = some ⟨.type "tuple", odTbi0, .seq #[.int 1 tkTbi0] nTbi0, slTbi0⟩) (abn0 : nsIn K mainGlobals "nearest" = some (some (.ref fbn0))) (lbn0 : K.lookup fbn0 = some ⟨ocbn0, odbn0, .func (fnOf "nearest" "nearest" (defArgs sbn0) (defBody sbn0) (defScope sbn0) (.ref Tbn0) kVbn0 dcbn0 pmbn0 anbn0 cdbn0 ctbn0), slbn0⟩) (cbn0 : codeIn K cdbn0 "nearest" = true) (kbn0 : keepIn K (.ref fbn0) = true) (lTbn0 : K.lookup Tbn0 = some ⟨.type "tuple", odTbn0, .seq #[.int 1 tkTbn0] nTbn0, slTbn0⟩) (atah0 : findIn K (.ref C_Rates) "rate" = some (some (.ref fah0))) (fnah0 : isFn K (.ref fah0) = true) (lah0 : K.lookup fah0 = some ⟨ocah0, odah0, .func (fnOf "rate" "Rates.rate" (defArgs sah0) (defBody sah0) (defScope sah0) .none kVah0 dcah0 pmah0 anah0 cdah0 ctah0), slah0⟩) (cah0 : codeIn K cdah0 "Rates.rate" = true) (kah0 : keepIn K (.ref fah0) = true) (atag0 : findIn K (.ref C_Rates) "__init__" = some (some (.ref fag0))) (fnag0 : isFn K (.ref fag0) = true) (lag0 : K.lookup fag0 = some ⟨ocag0, odag0, .func (fnOf "__init__" "Rates.__init__" (defArgs sag0) (defBody sag0) (defScope sag0) (.ref Tag0) kVag0 dcag0 pmag0 anag0 cdag0 ctag0), slag0⟩) (cag0 : codeIn K cdag0 "Rates.__init__" = true) (kag0 : keepIn K (.ref fag0) = true) (lTag0 : K.lookup Tag0 = some ⟨.type "tuple", odTag0, .seq #[.str "one" tkTag0] nTag0, slTag0⟩) (atai0 : findIn K (.ref C_Rates) "tell" = some (some (.ref fai0))) (fnai0 : isFn K (.ref fai0) = true) (lai0 : K.lookup fai0 = some ⟨ocai0, odai0, .func (fnOf "tell" "Rates.tell" (defArgs sai0) (defBody sai0) (defScope sai0) (.ref Tai0) kVai0 dcai0 pmai0 anai0 cdai0 ctai0), slai0⟩) (cai0 : codeIn K cdai0 "Rates.tell" = true) (kai0 : keepIn K (.ref fai0) = true) (lTai0 : K.lookup Tai0 = some ⟨.type "tuple", odTai0, .seq #[.int 1 tkTai0] nTai0, slTai0⟩) (ataj0 : findIn K (.ref C_Rates) "worth" = some (some (.ref faj0))) (fnaj0 : isFn K (.ref faj0) = true) (laj0 : K.lookup faj0 = some ⟨ocaj0, odaj0, .func (fnOf "worth" "Rates.worth" (defArgs saj0) (defBody saj0) (defScope saj0) .none kVaj0 dcaj0 pmaj0 anaj0 cdaj0 ctaj0), slaj0⟩) (caj0 : codeIn K cdaj0 "Rates.worth" = true) (kaj0 : keepIn K (.ref faj0) = true) (abp0 : nsIn K mainGlobals "rests_of" = some (some (.ref fbp0))) (lbp0 : K.lookup fbp0 = some ⟨ocbp0, odbp0, .func (fnOf "rests_of" "rests_of" (defArgs sbp0) (defBody sbp0) (defScope sbp0) .none kVbp0 dcbp0 pmbp0 anbp0 cdbp0 ctbp0), slbp0⟩) (cbp0 : codeIn K cdbp0 "rests_of" = true) (kbp0 : keepIn K (.ref fbp0) = true) (abj0 : nsIn K mainGlobals "half_rests" = some (some (.ref fbj0))) (lbj0 : K.lookup fbj0 = some ⟨ocbj0, odbj0, .func (fnOf "half_rests" "half_rests" (defArgs sbj0) (defBody sbj0) (defScope sbj0) .none kVbj0 dcbj0 pmbj0 anbj0 cdbj0 ctbj0), slbj0⟩) (cbj0 : codeIn K cdbj0 "half_rests" = true) (kbj0 : keepIn K (.ref fbj0) = true) (abh0 : nsIn K mainGlobals "firms_in" = some (some (.ref fbh0))) (lbh0 : K.lookup fbh0 = some ⟨ocbh0, odbh0, .func (fnOf "firms_in" "firms_in" (defArgs sbh0) (defBody sbh0) (defScope sbh0) .none kVbh0 dcbh0 pmbh0 anbh0 cdbh0 ctbh0), slbh0⟩) (cbh0 : codeIn K cdbh0 "firms_in" = true) (kbh0 : keepIn K (.ref fbh0) = true) (abe0 : nsIn K mainGlobals "dues_added" = some (some (.ref fbe0))) (lbe0 : K.lookup fbe0 = some ⟨ocbe0, odbe0, .func (fnOf "dues_added" "dues_added" (defArgs sbe0) (defBody sbe0) (defScope sbe0) .none kVbe0 dcbe0 pmbe0 anbe0 cdbe0 ctbe0), slbe0⟩) (cbe0 : codeIn K cdbe0 "dues_added" = true) (kbe0 : keepIn K (.ref fbe0) = true) (abq0 : nsIn K mainGlobals "with_dues" = some (some (.ref fbq0))) (lbq0 : K.lookup fbq0 = some ⟨ocbq0, odbq0, .func (fnOf "with_dues" "with_dues" (defArgs sbq0) (defBody sbq0) (defScope sbq0) .none kVbq0 dcbq0 pmbq0 anbq0 cdbq0 ctbq0), slbq0⟩) (cbq0 : codeIn K cdbq0 "with_dues" = true) (kbq0 : keepIn K (.ref fbq0) = true) (abl0 : nsIn K mainGlobals "lined_by" = some (some (.ref fbl0))) (lbl0 : K.lookup fbl0 = some ⟨ocbl0, odbl0, .func (fnOf "lined_by" "lined_by" (defArgs sbl0) (defBody sbl0) (defScope sbl0) .none kVbl0 dcbl0 pmbl0 anbl0 cdbl0 ctbl0), slbl0⟩) (cbl0 : codeIn K cdbl0 "lined_by" = true) (kbl0 : keepIn K (.ref fbl0) = true) (abf0 : nsIn K mainGlobals "entry_lines" = some (some (.ref fbf0))) (lbf0 : K.lookup fbf0 = some ⟨ocbf0, odbf0, .func (fnOf "entry_lines" "entry_lines" (defArgs sbf0) (defBody sbf0) (defScope sbf0) .none kVbf0 dcbf0 pmbf0 anbf0 cdbf0 ctbf0), slbf0⟩) (cbf0 : codeIn K cdbf0 "entry_lines" = true) (kbf0 : keepIn K (.ref fbf0) = true) (abm0 : nsIn K mainGlobals "month_of" = some (some (.ref fbm0))) (lbm0 : K.lookup fbm0 = some ⟨ocbm0, odbm0, .func (fnOf "month_of" "month_of" (defArgs sbm0) (defBody sbm0) (defScope sbm0) .none kVbm0 dcbm0 pmbm0 anbm0 cdbm0 ctbm0), slbm0⟩) (cbm0 : codeIn K cdbm0 "month_of" = true) (kbm0 : keepIn K (.ref fbm0) = true) (abo0 : nsIn K mainGlobals "put_together" = some (some (.ref fbo0))) (lbo0 : K.lookup fbo0 = some ⟨ocbo0, odbo0, .func (fnOf "put_together" "put_together" (defArgs sbo0) (defBody sbo0) (defScope sbo0) .none kVbo0 dcbo0 pmbo0 anbo0 cdbo0 ctbo0), slbo0⟩) (cbo0 : codeIn K cdbo0 "put_together" = true) (kbo0 : keepIn K (.ref fbo0) = true) (abg0 : nsIn K mainGlobals "figures_of" = some (some (.ref fbg0))) (lbg0 : K.lookup fbg0 = some ⟨ocbg0, odbg0, .func (fnOf "figures_of" "figures_of" (defArgs sbg0) (defBody sbg0) (defScope sbg0) .none kVbg0 dcbg0 pmbg0 anbg0 cdbg0 ctbg0), slbg0⟩) (cbg0 : codeIn K cdbg0 "figures_of" = true) (kbg0 : keepIn K (.ref fbg0) = true) (abc0 : nsIn K mainGlobals "check_entry" = some (some (.ref fbc0))) (lbc0 : K.lookup fbc0 = some ⟨ocbc0, odbc0, .func (fnOf "check_entry" "check_entry" (defArgs sbc0) (defBody sbc0) (defScope sbc0) .none kVbc0 dcbc0 pmbc0 anbc0 cdbc0 ctbc0), slbc0⟩) (cbc0 : codeIn K cdbc0 "check_entry" = true) (kbc0 : keepIn K (.ref fbc0) = true) (ataa0 : findIn K (.ref C_Book) "__init__" = some (some (.ref faa0))) (fnaa0 : isFn K (.ref faa0) = true) (laa0 : K.lookup faa0 = some ⟨ocaa0, odaa0, .func (fnOf "__init__" "Book.__init__" (defArgs saa0) (defBody saa0) (defScope saa0) .none kVaa0 dcaa0 pmaa0 anaa0 cdaa0 ctaa0), slaa0⟩) (caa0 : codeIn K cdaa0 "Book.__init__" = true) (kaa0 : keepIn K (.ref faa0) = true) (atad0 : findIn K (.ref C_Book) "may_enter" = some (some (.ref fad0))) (fnad0 : isFn K (.ref fad0) = true) (lad0 : K.lookup fad0 = some ⟨ocad0, odad0, .func (fnOf "may_enter" "Book.may_enter" (defArgs sad0) (defBody sad0) (defScope sad0) .none kVad0 dcad0 pmad0 anad0 cdad0 ctad0), slad0⟩) (cad0 : codeIn K cdad0 "Book.may_enter" = true) (kad0 : keepIn K (.ref fad0) = true) (atae0 : findIn K (.ref C_Book) "post" = some (some (.ref fae0))) (fnae0 : isFn K (.ref fae0) = true) (lae0 : K.lookup fae0 = some ⟨ocae0, odae0, .func (fnOf "post" "Book.post" (defArgs sae0) (defBody sae0) (defScope sae0) .none kVae0 dcae0 pmae0 anae0 cdae0 ctae0), slae0⟩) (cae0 : codeIn K cdae0 "Book.post" = true) (kae0 : keepIn K (.ref fae0) = true) (ataf0 : findIn K (.ref C_Book) "spots" = some (some (.ref faf0))) (fnaf0 : isFn K (.ref faf0) = true) (laf0 : K.lookup faf0 = some ⟨ocaf0, odaf0, .func (fnOf "spots" "Book.spots" (defArgs saf0) (defBody saf0) (defScope saf0) (.ref Taf0) kVaf0 dcaf0 pmaf0 anaf0 cdaf0 ctaf0), slaf0⟩) (caf0 : codeIn K cdaf0 "Book.spots" = true) (kaf0 : keepIn K (.ref faf0) = true) (lTaf0 : K.lookup Taf0 = some ⟨.type "tuple", odTaf0, .seq #[.none] nTaf0, slTaf0⟩) (atac0 : findIn K (.ref C_Book) "lines_upto" = some (some (.ref fac0))) (fnac0 : isFn K (.ref fac0) = true) (lac0 : K.lookup fac0 = some ⟨ocac0, odac0, .func (fnOf "lines_upto" "Book.lines_upto" (defArgs sac0) (defBody sac0) (defScope sac0) (.ref Tac0) kVac0 dcac0 pmac0 anac0 cdac0 ctac0), slac0⟩) (cac0 : codeIn K cdac0 "Book.lines_upto" = true) (kac0 : keepIn K (.ref fac0) = true) (lTac0 : K.lookup Tac0 = some ⟨.type "tuple", odTac0, .seq #[.none] nTac0, slTac0⟩) (atab0 : findIn K (.ref C_Book) "figures" = some (some (.ref fab0))) (fnab0 : isFn K (.ref fab0) = true) (lab0 : K.lookup fab0 = some ⟨ocab0, odab0, .func (fnOf "figures" "Book.figures" (defArgs sab0) (defBody sab0) (defScope sab0) (.ref Tab0) kVab0 dcab0 pmab0 anab0 cdab0 ctab0), slab0⟩) (cab0 : codeIn K cdab0 "Book.figures" = true) (kab0 : keepIn K (.ref fab0) = true) (lTab0 : K.lookup Tab0 = some ⟨.type "tuple", odTab0, .seq #[.none] nTab0, slTab0⟩) (aal0 : nsIn K mainGlobals "_law_cell_at" = some (some (.ref fal0))) (lal0 : K.lookup fal0 = some ⟨ocal0, odal0, .func (fnOf "_law_cell_at" "_law_cell_at" (defArgs sal0) (defBody sal0) (defScope sal0) .none kVal0 dcal0 pmal0 anal0 cdal0 ctal0), slal0⟩) (cal0 : codeIn K cdal0 "_law_cell_at" = true) (kal0 : keepIn K (.ref fal0) = true) (aar0 : nsIn K mainGlobals "_law_mix" = some (some (.ref far0))) (lar0 : K.lookup far0 = some ⟨ocar0, odar0, .func (fnOf "_law_mix" "_law_mix" (defArgs sar0) (defBody sar0) (defScope sar0) .none kVar0 dcar0 pmar0 anar0 cdar0 ctar0), slar0⟩) (car0 : codeIn K cdar0 "_law_mix" = true) (kar0 : keepIn K (.ref far0) = true) (aas0 : nsIn K mainGlobals "_law_names" = some (some (.ref fas0))) (las0 : K.lookup fas0 = some ⟨ocas0, odas0, .func (fnOf "_law_names" "_law_names" (defArgs sas0) (defBody sas0) (defScope sas0) .none kVas0 dcas0 pmas0 anas0 cdas0 ctas0), slas0⟩) (cas0 : codeIn K cdas0 "_law_names" = true) (kas0 : keepIn K (.ref fas0) = true) (aan0 : nsIn K mainGlobals "_law_coins" = some (some (.ref fan0))) (lan0 : K.lookup fan0 = some ⟨ocan0, odan0, .func (fnOf "_law_coins" "_law_coins" (defArgs san0) (defBody san0) (defScope san0) .none kVan0 dcan0 pman0 anan0 cdan0 ctan0), slan0⟩) (can0 : codeIn K cdan0 "_law_coins" = true) (kan0 : keepIn K (.ref fan0) = true) (aak0 : nsIn K mainGlobals "_law_amount" = some (some (.ref fak0))) (lak0 : K.lookup fak0 = some ⟨ocak0, odak0, .func (fnOf "_law_amount" "_law_amount" (defArgs sak0) (defBody sak0) (defScope sak0) .none kVak0 dcak0 pmak0 anak0 cdak0 ctak0), slak0⟩) (cak0 : codeIn K cdak0 "_law_amount" = true) (kak0 : keepIn K (.ref fak0) = true) (aat0 : nsIn K mainGlobals "_law_rate" = some (some (.ref fat0))) (lat0 : K.lookup fat0 = some ⟨ocat0, odat0, .func (fnOf "_law_rate" "_law_rate" (defArgs sat0) (defBody sat0) (defScope sat0) .none kVat0 dcat0 pmat0 anat0 cdat0 ctat0), slat0⟩) (cat0 : codeIn K cdat0 "_law_rate" = true) (kat0 : keepIn K (.ref fat0) = true) (aaz0 : nsIn K mainGlobals "_law_table" = some (some (.ref faz0))) (laz0 : K.lookup faz0 = some ⟨ocaz0, odaz0, .func (fnOf "_law_table" "_law_table" (defArgs saz0) (defBody saz0) (defScope saz0) .none kVaz0 dcaz0 pmaz0 anaz0 cdaz0 ctaz0), slaz0⟩) (caz0 : codeIn K cdaz0 "_law_table" = true) (kaz0 : keepIn K (.ref faz0) = true) (abb0 : nsIn K mainGlobals "_law_told_coin" = some (some (.ref fbb0))) (lbb0 : K.lookup fbb0 = some ⟨ocbb0, odbb0, .func (fnOf "_law_told_coin" "_law_told_coin" (defArgs sbb0) (defBody sbb0) (defScope sbb0) .none kVbb0 dcbb0 pmbb0 anbb0 cdbb0 ctbb0), slbb0⟩) (cbb0 : codeIn K cdbb0 "_law_told_coin" = true) (kbb0 : keepIn K (.ref fbb0) = true) (aau0 : nsIn K mainGlobals "_law_rates" = some (some (.ref fau0))) (lau0 : K.lookup fau0 = some ⟨ocau0, odau0, .func (fnOf "_law_rates" "_law_rates" (defArgs sau0) (defBody sau0) (defScope sau0) .none kVau0 dcau0 pmau0 anau0 cdau0 ctau0), slau0⟩) (cau0 : codeIn K cdau0 "_law_rates" = true) (kau0 : keepIn K (.ref fau0) = true) (aax0 : nsIn K mainGlobals "_law_side" = some (some (.ref fax0))) (lax0 : K.lookup fax0 = some ⟨ocax0, odax0, .func (fnOf "_law_side" "_law_side" (defArgs sax0) (defBody sax0) (defScope sax0) .none kVax0 dcax0 pmax0 anax0 cdax0 ctax0), slax0⟩) (cax0 : codeIn K cdax0 "_law_side" = true) (kax0 : keepIn K (.ref fax0) = true) (aam0 : nsIn K mainGlobals "_law_closed" = some (some (.ref fam0))) (lam0 : K.lookup fam0 = some ⟨ocam0, odam0, .func (fnOf "_law_closed" "_law_closed" (defArgs sam0) (defBody sam0) (defScope sam0) .none kVam0 dcam0 pmam0 anam0 cdam0 ctam0), slam0⟩) (cam0 : codeIn K cdam0 "_law_closed" = true) (kam0 : keepIn K (.ref fam0) = true) (aav0 : nsIn K mainGlobals "_law_rates_by" = some (some (.ref fav0))) (lav0 : K.lookup fav0 = some ⟨ocav0, odav0, .func (fnOf "_law_rates_by" "_law_rates_by" (defArgs sav0) (defBody sav0) (defScope sav0) .none kVav0 dcav0 pmav0 anav0 cdav0 ctav0), slav0⟩) (cav0 : codeIn K cdav0 "_law_rates_by" = true) (kav0 : keepIn K (.ref fav0) = true) (aaw0 : nsIn K mainGlobals "_law_rows" = some (some (.ref faw0))) (law0 : K.lookup faw0 = some ⟨ocaw0, odaw0, .func (fnOf "_law_rows" "_law_rows" (defArgs saw0) (defBody saw0) (defScope saw0) .none kVaw0 dcaw0 pmaw0 anaw0 cdaw0 ctaw0), slaw0⟩) (caw0 : codeIn K cdaw0 "_law_rows" = true) (kaw0 : keepIn K (.ref faw0) = true) (aay0 : nsIn K mainGlobals "_law_sums" = some (some (.ref fay0))) (lay0 : K.lookup fay0 = some ⟨ocay0, oday0, .func (fnOf "_law_sums" "_law_sums" (defArgs say0) (defBody say0) (defScope say0) .none kVay0 dcay0 pmay0 anay0 cday0 ctay0), slay0⟩) (cay0 : codeIn K cday0 "_law_sums" = true) (kay0 : keepIn K (.ref fay0) = true) (aao0 : nsIn K mainGlobals "_law_due" = some (some (.ref fao0))) (lao0 : K.lookup fao0 = some ⟨ocao0, odao0, .func (fnOf "_law_due" "_law_due" (defArgs sao0) (defBody sao0) (defScope sao0) .none kVao0 dcao0 pmao0 anao0 cdao0 ctao0), slao0⟩) (cao0 : codeIn K cdao0 "_law_due" = true) (kao0 : keepIn K (.ref fao0) = true) (aaq0 : nsIn K mainGlobals "_law_mirrored" = some (some (.ref faq0))) (laq0 : K.lookup faq0 = some ⟨ocaq0, odaq0, .func (fnOf "_law_mirrored" "_law_mirrored" (defArgs saq0) (defBody saq0) (defScope saq0) .none kVaq0 dcaq0 pmaq0 anaq0 cdaq0 ctaq0), slaq0⟩) (caq0 : codeIn K cdaq0 "_law_mirrored" = true) (kaq0 : keepIn K (.ref faq0) = true) (aba0 : nsIn K mainGlobals "_law_together" = some (some (.ref fba0))) (lba0 : K.lookup fba0 = some ⟨ocba0, odba0, .func (fnOf "_law_together" "_law_together" (defArgs sba0) (defBody sba0) (defScope sba0) .none kVba0 dcba0 pmba0 anba0 cdba0 ctba0), slba0⟩) (cba0 : codeIn K cdba0 "_law_together" = true) (kba0 : keepIn K (.ref fba0) = true) (aap0 : nsIn K mainGlobals "_law_meets" = some (some (.ref fap0))) (lap0 : K.lookup fap0 = some ⟨ocap0, odap0, .func (fnOf "_law_meets" "_law_meets" (defArgs sap0) (defBody sap0) (defScope sap0) .none kVap0 dcap0 pmap0 anap0 cdap0 ctap0), slap0⟩) (cap0 : codeIn K cdap0 "_law_meets" = true) (kap0 : keepIn K (.ref fap0) = true) (abk0 : nsIn K mainGlobals "law" = some (some (.ref fbk0))) (lbk0 : K.lookup fbk0 = some ⟨ocbk0, odbk0, .func (fnOf "law" "law" (defArgs sbk0) (defBody sbk0) (defScope sbk0) .none kVbk0 dcbk0 pmbk0 anbk0 cdbk0 ctbk0), slbk0⟩) (cbk0 : codeIn K cdbk0 "law" = true) (kbk0 : keepIn K (.ref fbk0) = true) :
 ∃ fd : FuncData, (∀ (s : Shared) (v : Value), BindsTo s fd ⟨[v], []⟩ [("_law_script", v)]) ∧ ∀ base : Heap, K.In base → base.Ns mainGlobals mg → FnOk l.prog w K mg base CX0 true 7 fa fd ["_law_script"] (spLaw K) := by
 have e := hfa.symm.trans (mg_of X G abk0)
 cases e
 have m_Book := mg_of X G a_Book
 have m_NoNumber := mg_of X G a_NoNumber
 have m_Rates := mg_of X G a_Rates
 have X_NoNumber : XCls K C_NoNumber := ⟨xs_NoNumber, xga_NoNumber, xgh_NoNumber, xsa_NoNumber, xcl_NoNumber⟩
 have z_abs := mg_none_of X G nz_abs
 have z_len := mg_none_of X G nz_len
 have z_max := mg_none_of X G nz_max
 have z_list := mg_none_of X G nz_list
 have z_dict := mg_none_of X G nz_dict
 have z_sorted := mg_none_of X G nz_sorted
 have z_sum := mg_none_of X G nz_sum
 have z_tuple := mg_none_of X G nz_tuple
 have z_enumerate := mg_none_of X G nz_enumerate
 have z_range := mg_none_of X G nz_range
 have z_int := mg_none_of X G nz_int
 have z_all := mg_none_of X G nz_all
 have z_isinstance := mg_none_of X G nz_isinstance
 have cl_Rates : Cls K C_Rates := ⟨pg_Rates, hd_Rates, po_Rates, sa_Rates⟩
 have cl_Book : Cls K C_Book := ⟨pg_Book, hd_Book, po_Book, sa_Book⟩
 refine ⟨fnOf "law" "law" (defArgs sbk0) (defBody sbk0) (defScope sbk0) .none kVbk0 dcbk0 pmbk0 anbk0 cdbk0 ctbk0, fun s v => .of_eq rfl, fun base _ _ => ?_⟩
 have qbd0 := okbd0 (P := l.prog) (w := w) (base := base) (cm := true) ⟨fbd0, _, Qao (st := sbd0) lbd0 cbd0 kbd0, mg_of X G abd0⟩ z_abs
 have qbi0 := okbi0 (P := l.prog) (w := w) (base := base) ⟨fbi0, _, Qao (st := sbi0) lbi0 cbi0 kbi0, mg_of X G abi0⟩ lTbi0 qbd0 m_NoNumber X_NoNumber i_NoNumber
 have qbn0 := okbn0 (P := l.prog) (w := w) (base := base) ⟨fbn0, _, Qao (st := sbn0) lbn0 cbn0 kbn0, mg_of X G abn0⟩ lTbn0 z_abs m_NoNumber X_NoNumber i_NoNumber
 have qah0 := okah0 (P := l.prog) (w := w) (mg := mg) (base := base) ⟨fah0, _, Qao (st := sah0) lah0 cah0 kah0, ⟨atah0, fnah0, kah0⟩⟩ qbi0 z_len z_max cl_Rates n_told n_known
 have qag0 := okag0 (P := l.prog) (w := w) (mg := mg) (base := base) (cm := true) ⟨fag0, _, Qao (st := sag0) lag0 cag0 kag0, ⟨mk_Rates, atag0, fnag0, kc_Rates⟩⟩ lTag0 cl_Rates n_told n_known
 have qai0 := okai0 (P := l.prog) (w := w) (mg := mg) (base := base) ⟨fai0, _, Qao (st := sai0) lai0 cai0 kai0, ⟨atai0, fnai0, kai0⟩⟩ lTai0 qbi0 cl_Rates n_told n_known
 have qaj0 := okaj0 (P := l.prog) (w := w) (mg := mg) (base := base) ⟨faj0, _, Qao (st := saj0) laj0 caj0 kaj0, ⟨ataj0, fnaj0, kaj0⟩⟩ qah0 qbn0 cl_Rates n_told n_known
 have qbp0 := okbp0 (P := l.prog) (w := w) (base := base) ⟨fbp0, _, Qao (st := sbp0) lbp0 cbp0 kbp0, mg_of X G abp0⟩ z_list
 have qbj0 := okbj0 (P := l.prog) (w := w) (base := base) ⟨fbj0, _, Qao (st := sbj0) lbj0 cbj0 kbj0, mg_of X G abj0⟩
 have qbh0 := okbh0 (P := l.prog) (w := w) (base := base) ⟨fbh0, _, Qao (st := sbh0) lbh0 cbh0 kbh0, mg_of X G abh0⟩ z_list z_dict
 have qbe0 := okbe0 (P := l.prog) (w := w) (base := base) ⟨fbe0, _, Qao (st := sbe0) lbe0 cbe0 kbe0, mg_of X G abe0⟩ qbh0 qbj0
 have qbq0 := okbq0 (P := l.prog) (w := w) (base := base) ⟨fbq0, _, Qao (st := sbq0) lbq0 cbq0 kbq0, mg_of X G abq0⟩ qbp0 qbe0 z_list
 have qbl0 := okbl0 (P := l.prog) (w := w) (base := base) ⟨fbl0, _, Qao (st := sbl0) lbl0 cbl0 kbl0, mg_of X G abl0⟩ qaj0 cl_Rates n_told
 have qbf0 := okbf0 (P := l.prog) (w := w) (base := base) ⟨fbf0, _, Qao (st := sbf0) lbf0 cbf0 kbf0, mg_of X G abf0⟩ qbl0 qbq0
 have qbm0 := okbm0 (P := l.prog) (w := w) (base := base) (cm := true) ⟨fbm0, _, Qao (st := sbm0) lbm0 cbm0 kbm0, mg_of X G abm0⟩
 have qbo0 := okbo0 (P := l.prog) (w := w) (base := base) ⟨fbo0, _, Qao (st := sbo0) lbo0 cbo0 kbo0, mg_of X G abo0⟩ z_sorted
 have qbg0 := okbg0 (P := l.prog) (w := w) (base := base) ⟨fbg0, _, Qao (st := sbg0) lbg0 cbg0 kbg0, mg_of X G abg0⟩ qbo0
 have qbc0 := okbc0 (P := l.prog) (w := w) (base := base) ⟨fbc0, _, Qao (st := sbc0) lbc0 cbc0 kbc0, mg_of X G abc0⟩ qbp0 z_sum
 have qaa0 := okaa0 (P := l.prog) (w := w) (mg := mg) (base := base) (cm := true) ⟨faa0, _, Qao (st := saa0) laa0 caa0 kaa0, ⟨mk_Book, ataa0, fnaa0, kc_Book⟩⟩ cl_Book n_bbook n_bkept
 have qad0 := okad0 (P := l.prog) (w := w) (mg := mg) (base := base) (cm := true) ⟨fad0, _, Qao (st := sad0) lad0 cad0 kad0, ⟨atad0, fnad0, kad0⟩⟩
 have qae0 := okae0 (P := l.prog) (w := w) (mg := mg) (base := base) ⟨fae0, _, Qao (st := sae0) lae0 cae0 kae0, ⟨atae0, fnae0, kae0⟩⟩ qad0 qbc0 z_tuple z_len cl_Book n_bbook n_bkept
 have qaf0 := okaf0 (P := l.prog) (w := w) (mg := mg) (base := base) ⟨faf0, _, Qao (st := saf0) laf0 caf0 kaf0, ⟨ataf0, fnaf0, kaf0⟩⟩ lTaf0 qbm0 z_enumerate cl_Book n_bbook n_bkept
 have qac0 := okac0 (P := l.prog) (w := w) (mg := mg) (base := base) ⟨fac0, _, Qao (st := sac0) lac0 cac0 kac0, ⟨atac0, fnac0, kac0⟩⟩ lTac0 qaf0 cl_Book n_bbook n_bkept
 have qab0 := okab0 (P := l.prog) (w := w) (mg := mg) (base := base) ⟨fab0, _, Qao (st := sab0) lab0 cab0 kab0, ⟨atab0, fnab0, kab0⟩⟩ lTab0 qbg0 qac0 cl_Book n_bbook n_bkept
 have qal0 := okal0 (P := l.prog) (w := w) (base := base) (cm := true) ⟨fal0, _, Qao (st := sal0) lal0 cal0 kal0, mg_of X G aal0⟩ z_len
 have qar0 := okar0 (P := l.prog) (w := w) (base := base) (cm := true) ⟨far0, _, Qao (st := sar0) lar0 car0 kar0, mg_of X G aar0⟩
 have qas0 := okas0 (P := l.prog) (w := w) (base := base) ⟨fas0, _, Qao (st := sas0) las0 cas0 kas0, mg_of X G aas0⟩ z_range z_int
 have qan0 := okan0 (P := l.prog) (w := w) (base := base) ⟨fan0, _, Qao (st := san0) lan0 can0 kan0, mg_of X G aan0⟩ qas0
 have qak0 := okak0 (P := l.prog) (w := w) (base := base) (cm := true) ⟨fak0, _, Qao (st := sak0) lak0 cak0 kak0, mg_of X G aak0⟩
 have qat0 := okat0 (P := l.prog) (w := w) (base := base) (cm := true) ⟨fat0, _, Qao (st := sat0) lat0 cat0 kat0, mg_of X G aat0⟩
 have qaz0 := okaz0 (P := l.prog) (w := w) (base := base) ⟨faz0, _, Qao (st := saz0) laz0 caz0 kaz0, mg_of X G aaz0⟩ qal0 qat0 z_range z_len
 have qbb0 := okbb0 (P := l.prog) (w := w) (base := base) (cm := true) ⟨fbb0, _, Qao (st := sbb0) lbb0 cbb0 kbb0, mg_of X G abb0⟩
 have qau0 := okau0 (P := l.prog) (w := w) (base := base) ⟨fau0, _, Qao (st := sau0) lau0 cau0 kau0, mg_of X G aau0⟩ qag0 m_Rates
 have qax0 := okax0 (P := l.prog) (w := w) (base := base) (cm := true) ⟨fax0, _, Qao (st := sax0) lax0 cax0 kax0, mg_of X G aax0⟩ qar0 z_len
 have qam0 := okam0 (P := l.prog) (w := w) (base := base) ⟨fam0, _, Qao (st := sam0) lam0 cam0 kam0, mg_of X G aam0⟩ qar0 z_list z_range z_sum z_len
 have qav0 := okav0 (P := l.prog) (w := w) (base := base) ⟨fav0, _, Qao (st := sav0) lav0 cav0 kav0, mg_of X G aav0⟩ qau0 qaz0 qal0 qai0 cl_Rates
 have qaw0 := okaw0 (P := l.prog) (w := w) (base := base) ⟨faw0, _, Qao (st := saw0) law0 caw0 kaw0, mg_of X G aaw0⟩ qal0 qax0 qak0 qar0 qam0 z_range z_len z_max
 have qay0 := okay0 (P := l.prog) (w := w) (base := base) ⟨fay0, _, Qao (st := say0) lay0 cay0 kay0, mg_of X G aay0⟩ z_all z_list
 have qao0 := okao0 (P := l.prog) (w := w) (base := base) ⟨fao0, _, Qao (st := sao0) lao0 cao0 kao0, mg_of X G aao0⟩
 have qaq0 := okaq0 (P := l.prog) (w := w) (base := base) ⟨faq0, _, Qao (st := saq0) laq0 caq0 kaq0, mg_of X G aaq0⟩ qao0
 have qba0 := okba0 (P := l.prog) (w := w) (base := base) ⟨fba0, _, Qao (st := sba0) lba0 cba0 kba0, mg_of X G aba0⟩ z_sorted
 have qap0 := okap0 (P := l.prog) (w := w) (base := base) ⟨fap0, _, Qao (st := sap0) lap0 cap0 kap0, mg_of X G aap0⟩ qab0 qay0 qaq0 qba0 z_isinstance z_list cl_Book
 exact okbk0 (P := l.prog) (w := w) (base := base) (Qao (st := sbk0) lbk0 cbk0 kbk0) qal0 qas0 qar0 qan0 qbb0 qav0 qaw0 qaa0 qbf0 qae0 qap0 z_range z_len z_list z_max m_Book cl_Book
theorem walk {l : PySem.W.OpenLaw} {q : Program} {loose : List Str} {XP : (Str → Option Value) → Heap → Prop} {YP : World → Heap → Prop} {d : DefRec} {K : Params → PySem.W.Frag} (hn : l.most = some 63) (hdf : d.params.defaults = [])
 (hY : ∀ (w : World) (h : Heap), YP w h → (K w.params).In h)
 (F : ∀ (w : World) (mg : Str → Option Value) (fa : Addr) (h : Heap), (K w.params).In h → h.Ns mainGlobals mg → mg d.name = some (.ref fa) →
  ∃ fd : FuncData, (∀ (s : Shared) (u : Value), BindsTo s fd ⟨[u], []⟩ [("_law_script", u)]) ∧ ∀ base : Heap, (K w.params).In base → base.Ns mainGlobals mg → FnOk l.prog w (K w.params) mg base CX0 true 7 fa fd ["_law_script"] (spLaw (K w.params))) :
 PySem.W.WalkO q loose XP YP l.row.toRowW d [] (fun f vs => PySem.call f vs) :=
 L2.Qlk (n := 63) (k := 7) (x := "_law_script") (CX := fun _ => CX0) (sp := fun w => spLaw (K w.params)) hn (by decide) hdf ⟨fun _ => rfl, by decide, by decide⟩ hY F (fun _ _ a ns hl hb _ hS => ⟨a, ns, rfl, hS, hl, hb, fun _ => rfl⟩) fun _ _ _ _ _ z => z
end K28
open PySem PySem.W PyProof.Rows
set_option maxRecDepth 100000 in
set_option maxHeartbeats 0 in
theorem PySem.Challenge.cw_groupbooks_k28_whole_books_sum_holds : PySem.Challenge.rw_groupbooks_k28_whole_books_sum.Holds := by
 refine K28.headTop ?_
 k_fill
 refine K28.walk (l := PySem.Challenge.rw_groupbooks_k28_whole_books_sum) rfl rfl (fun w h Y => PySem.W.kIn_of Y) ?F
 case F =>
  intro w mg fa h KX G hmg
  refine' K28.all_mk KX G hmg ?a_Book ?a_NoNumber ?a_Rates ?xs_NoNumber ?xga_NoNumber ?xgh_NoNumber ?xsa_NoNumber ?xcl_NoNumber ?i_NoNumber ?nz_abs ?nz_len ?nz_max ?nz_list ?nz_dict ?nz_sorted ?nz_sum ?nz_tuple ?nz_enumerate ?nz_range ?nz_int ?nz_all ?nz_isinstance ?pg_Rates ?hd_Rates ?po_Rates ?sa_Rates ?mk_Rates ?kc_Rates ?pg_Book ?hd_Book ?po_Book ?sa_Book ?mk_Book ?kc_Book ?n_told ?n_known ?n_bbook ?n_bkept ?abd0 ?lbd0 ?cbd0 ?kbd0 ?abi0 ?lbi0 ?cbi0 ?kbi0 ?lTbi0 ?abn0 ?lbn0 ?cbn0 ?kbn0 ?lTbn0 ?atah0 ?fnah0 ?lah0 ?cah0 ?kah0 ?atag0 ?fnag0 ?lag0 ?cag0 ?kag0 ?lTag0 ?atai0 ?fnai0 ?lai0 ?cai0 ?kai0 ?lTai0 ?ataj0 ?fnaj0 ?laj0 ?caj0 ?kaj0 ?abp0 ?lbp0 ?cbp0 ?kbp0 ?abj0 ?lbj0 ?cbj0 ?kbj0 ?abh0 ?lbh0 ?cbh0 ?kbh0 ?abe0 ?lbe0 ?cbe0 ?kbe0 ?abq0 ?lbq0 ?cbq0 ?kbq0 ?abl0 ?lbl0 ?cbl0 ?kbl0 ?abf0 ?lbf0 ?cbf0 ?kbf0 ?abm0 ?lbm0 ?cbm0 ?kbm0 ?abo0 ?lbo0 ?cbo0 ?kbo0 ?abg0 ?lbg0 ?cbg0 ?kbg0 ?abc0 ?lbc0 ?cbc0 ?kbc0 ?ataa0 ?fnaa0 ?laa0 ?caa0 ?kaa0 ?atad0 ?fnad0 ?lad0 ?cad0 ?kad0 ?atae0 ?fnae0 ?lae0 ?cae0 ?kae0 ?ataf0 ?fnaf0 ?laf0 ?caf0 ?kaf0 ?lTaf0 ?atac0 ?fnac0 ?lac0 ?cac0 ?kac0 ?lTac0 ?atab0 ?fnab0 ?lab0 ?cab0 ?kab0 ?lTab0 ?aal0 ?lal0 ?cal0 ?kal0 ?aar0 ?lar0 ?car0 ?kar0 ?aas0 ?las0 ?cas0 ?kas0 ?aan0 ?lan0 ?can0 ?kan0 ?aak0 ?lak0 ?cak0 ?kak0 ?aat0 ?lat0 ?cat0 ?kat0 ?aaz0 ?laz0 ?caz0 ?kaz0 ?abb0 ?lbb0 ?cbb0 ?kbb0 ?aau0 ?lau0 ?cau0 ?kau0 ?aax0 ?lax0 ?cax0 ?kax0 ?aam0 ?lam0 ?cam0 ?kam0 ?aav0 ?lav0 ?cav0 ?kav0 ?aaw0 ?law0 ?caw0 ?kaw0 ?aay0 ?lay0 ?cay0 ?kay0 ?aao0 ?lao0 ?cao0 ?kao0 ?aaq0 ?laq0 ?caq0 ?kaq0 ?aba0 ?lba0 ?cba0 ?kba0 ?aap0 ?lap0 ?cap0 ?kap0 ?abk0 ?lbk0 ?cbk0 ?kbk0
  (case a_Book => k_is)
  (case a_NoNumber => k_is)
  (case a_Rates => k_is)
  (case xga_NoNumber => k_is)
  (case xgh_NoNumber => k_is)
  (case xsa_NoNumber => k_is)
  (case xcl_NoNumber => k_is)
  (case i_NoNumber => k_is)
  (case nz_abs => k_is)
  (case nz_len => k_is)
  (case nz_max => k_is)
  (case nz_list => k_is)
  (case nz_dict => k_is)
  (case nz_sorted => k_is)
  (case nz_sum => k_is)
  (case nz_tuple => k_is)
  (case nz_enumerate => k_is)
  (case nz_range => k_is)
  (case nz_int => k_is)
  (case nz_all => k_is)
  (case nz_isinstance => k_is)
  (case pg_Rates => k_is)
  (case hd_Rates => k_is)
  (case po_Rates => k_is)
  (case sa_Rates => k_is)
  (case mk_Rates => k_is)
  (case kc_Rates => k_is)
  (case pg_Book => k_is)
  (case hd_Book => k_is)
  (case po_Book => k_is)
  (case sa_Book => k_is)
  (case mk_Book => k_is)
  (case kc_Book => k_is)
  (case n_told => k_is)
  (case n_known => k_is)
  (case n_bbook => k_is)
  (case n_bkept => k_is)
  (case abd0 => k_is)
  (case lbd0 => k_is)
  (case cbd0 => k_is)
  (case kbd0 => k_is)
  (case abi0 => k_is)
  (case lbi0 => k_is)
  (case cbi0 => k_is)
  (case kbi0 => k_is)
  (case lTbi0 => k_is)
  (case abn0 => k_is)
  (case lbn0 => k_is)
  (case cbn0 => k_is)
  (case kbn0 => k_is)
  (case lTbn0 => k_is)
  (case atah0 => k_is)
  (case fnah0 => k_is)
  (case lah0 => k_is)
  (case cah0 => k_is)
  (case kah0 => k_is)
  (case atag0 => k_is)
  (case fnag0 => k_is)
  (case lag0 => k_is)
  (case cag0 => k_is)
  (case kag0 => k_is)
  (case lTag0 => k_is)
  (case atai0 => k_is)
  (case fnai0 => k_is)
  (case lai0 => k_is)
  (case cai0 => k_is)
  (case kai0 => k_is)
  (case lTai0 => k_is)
  (case ataj0 => k_is)
  (case fnaj0 => k_is)
  (case laj0 => k_is)
  (case caj0 => k_is)
  (case kaj0 => k_is)
  (case abp0 => k_is)
  (case lbp0 => k_is)
  (case cbp0 => k_is)
  (case kbp0 => k_is)
  (case abj0 => k_is)
  (case lbj0 => k_is)
  (case cbj0 => k_is)
  (case kbj0 => k_is)
  (case abh0 => k_is)
  (case lbh0 => k_is)
  (case cbh0 => k_is)
  (case kbh0 => k_is)
  (case abe0 => k_is)
  (case lbe0 => k_is)
  (case cbe0 => k_is)
  (case kbe0 => k_is)
  (case abq0 => k_is)
  (case lbq0 => k_is)
  (case cbq0 => k_is)
  (case kbq0 => k_is)
  (case abl0 => k_is)
  (case lbl0 => k_is)
  (case cbl0 => k_is)
  (case kbl0 => k_is)
  (case abf0 => k_is)
  (case lbf0 => k_is)
  (case cbf0 => k_is)
  (case kbf0 => k_is)
  (case abm0 => k_is)
  (case lbm0 => k_is)
  (case cbm0 => k_is)
  (case kbm0 => k_is)
  (case abo0 => k_is)
  (case lbo0 => k_is)
  (case cbo0 => k_is)
  (case kbo0 => k_is)
  (case abg0 => k_is)
  (case lbg0 => k_is)
  (case cbg0 => k_is)
  (case kbg0 => k_is)
  (case abc0 => k_is)
  (case lbc0 => k_is)
  (case cbc0 => k_is)
  (case kbc0 => k_is)
  (case ataa0 => k_is)
  (case fnaa0 => k_is)
  (case laa0 => k_is)
  (case caa0 => k_is)
  (case kaa0 => k_is)
  (case atad0 => k_is)
  (case fnad0 => k_is)
  (case lad0 => k_is)
  (case cad0 => k_is)
  (case kad0 => k_is)
  (case atae0 => k_is)
  (case fnae0 => k_is)
  (case lae0 => k_is)
  (case cae0 => k_is)
  (case kae0 => k_is)
  (case ataf0 => k_is)
  (case fnaf0 => k_is)
  (case laf0 => k_is)
  (case caf0 => k_is)
  (case kaf0 => k_is)
  (case lTaf0 => k_is)
  (case atac0 => k_is)
  (case fnac0 => k_is)
  (case lac0 => k_is)
  (case cac0 => k_is)
  (case kac0 => k_is)
  (case lTac0 => k_is)
  (case atab0 => k_is)
  (case fnab0 => k_is)
  (case lab0 => k_is)
  (case cab0 => k_is)
  (case kab0 => k_is)
  (case lTab0 => k_is)
  (case aal0 => k_is)
  (case lal0 => k_is)
  (case cal0 => k_is)
  (case kal0 => k_is)
  (case aar0 => k_is)
  (case lar0 => k_is)
  (case car0 => k_is)
  (case kar0 => k_is)
  (case aas0 => k_is)
  (case las0 => k_is)
  (case cas0 => k_is)
  (case kas0 => k_is)
  (case aan0 => k_is)
  (case lan0 => k_is)
  (case can0 => k_is)
  (case kan0 => k_is)
  (case aak0 => k_is)
  (case lak0 => k_is)
  (case cak0 => k_is)
  (case kak0 => k_is)
  (case aat0 => k_is)
  (case lat0 => k_is)
  (case cat0 => k_is)
  (case kat0 => k_is)
  (case aaz0 => k_is)
  (case laz0 => k_is)
  (case caz0 => k_is)
  (case kaz0 => k_is)
  (case abb0 => k_is)
  (case lbb0 => k_is)
  (case cbb0 => k_is)
  (case kbb0 => k_is)
  (case aau0 => k_is)
  (case lau0 => k_is)
  (case cau0 => k_is)
  (case kau0 => k_is)
  (case aax0 => k_is)
  (case lax0 => k_is)
  (case cax0 => k_is)
  (case kax0 => k_is)
  (case aam0 => k_is)
  (case lam0 => k_is)
  (case cam0 => k_is)
  (case kam0 => k_is)
  (case aav0 => k_is)
  (case lav0 => k_is)
  (case cav0 => k_is)
  (case kav0 => k_is)
  (case aaw0 => k_is)
  (case law0 => k_is)
  (case caw0 => k_is)
  (case kaw0 => k_is)
  (case aay0 => k_is)
  (case lay0 => k_is)
  (case cay0 => k_is)
  (case kay0 => k_is)
  (case aao0 => k_is)
  (case lao0 => k_is)
  (case cao0 => k_is)
  (case kao0 => k_is)
  (case aaq0 => k_is)
  (case laq0 => k_is)
  (case caq0 => k_is)
  (case kaq0 => k_is)
  (case aba0 => k_is)
  (case lba0 => k_is)
  (case cba0 => k_is)
  (case kba0 => k_is)
  (case aap0 => k_is)
  (case lap0 => k_is)
  (case cap0 => k_is)
  (case kap0 => k_is)
  (case abk0 => k_is)
  (case lbk0 => k_is)
  (case cbk0 => k_is)
  (case kbk0 => k_is)
  (case xs_NoNumber => kernel_rfl)
#print axioms PySem.Challenge.cw_groupbooks_k28_whole_books_sum_holds
